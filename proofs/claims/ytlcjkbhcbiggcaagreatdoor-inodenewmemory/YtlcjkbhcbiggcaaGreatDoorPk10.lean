/- maps.Copy between maps from blocks to blocks, by its contract. -/
import Derived.Test.YtlcjkbhcbiggcaaGreatDoorShelf2
import Derived.Test.YtlcjkbhcbiggcaaGreatDoorPk09
namespace Go.Proofs.YtlcjkbhcbiggcaaGreatDoor
open Go.RowKit Go.Maps
set_option maxRecDepth 100000

/-- One map's entries laid into another. -/
def mmerge (a m : List (Nat × Nat)) : List (Nat × Nat) := m.foldl (fun a p => mput a p.1 p.2) a
def Low (m : List (Nat × Nat)) : Prop := ∀ p ∈ m, p.1 < 4096
theorem low_key {b : Nat} (h : b < 4096) : KeysOf Tryz.prog 3 (.int .i64 b) := ⟨_, int_key b h⟩
theorem mD_canonK {a : List (Nat × Nat)} (hr : Rising a) (hl : Low a) : CanonK (KeysOf Tryz.prog 3) (mD a) := by
  refine ⟨_, rfl, ?_, fun p hp => ?_⟩
  · rw [List.pairwise_map]
    exact hr.imp (fun {p q} hpq => by simp [Lit.before]; omega)
  · obtain ⟨q, hq, rfl⟩ := List.mem_map.1 hp
    exact low_key (hl q hq)
theorem mput_low {a : List (Nat × Nat)} {b g : Nat} (hl : Low a) (hb : b < 4096) : Low (mput a b g) := fun p hp => by
  rcases mput_mem hp with rfl | hp
  · exact hb
  · exact hl p hp
theorem merge_fold : ∀ (m a : List (Nat × Nat)), Rising a → Low a → Low m → (m.map fun p => ((.int .i64 p.1, .held (hv p.2)) : Lit × DataW Value)).foldl (fun D p => D.put p.1 p.2) (mD a) = mD (mmerge a m)
  | [], a, _, _, _ => rfl
  | p :: m, a, hr, ha, hm => by
    have hp := hm p (by simp)
    have hc := (canonK_put law3.one (low_key hp) (.held (hv p.2)) (mD_canonK hr ha)).canon law3.one
    rw [List.map_cons, List.foldl_cons, mD_put hr p.1 p.2 hc]
    exact merge_fold m _ (mput_rising _ _ hr) (mput_low ha hp) (fun q hq => hm q (by simp [hq]))
theorem merge_rising {a : List (Nat × Nat)} (hr : Rising a) : ∀ m : List (Nat × Nat), Rising (mmerge a m) := fun m => by
  unfold mmerge
  induction m generalizing a with
  | nil => exact hr
  | cons p m ih => exact ih (mput_rising _ _ hr)
theorem merge_low {a : List (Nat × Nat)} (ha : Low a) : ∀ m : List (Nat × Nat), Low m → Low (mmerge a m) := fun m hm => by
  unfold mmerge
  induction m generalizing a with
  | nil => exact ha
  | cons p m ih => exact ih (mput_low ha (hm p (by simp))) (fun q hq => hm q (by simp [hq]))
theorem lk_merge : ∀ (m a : List (Nat × Nat)) (x : Nat), Rising a → Rising m → lk (mmerge a m) x = (lk m x).or (lk a x)
  | [], a, x, _, _ => by simp [mmerge, lk]
  | p :: m, a, x, ha, hm => by
    obtain ⟨h1, h2⟩ := List.pairwise_cons.1 hm
    have ih := lk_merge m (mput a p.1 p.2) x (mput_rising _ _ ha) h2
    show lk (mmerge (mput a p.1 p.2) m) x = _
    rw [ih, lk_mput a p.1 p.2 x ha, lk_cons]
    by_cases e : p.1 = x
    · rw [if_pos e, if_pos e]
      have : lk m x = none := lk_none (fun q hq r => by have := h1 q hq; omega)
      rw [this]; rfl
    · rw [if_neg e, if_neg e]
set_option maxHeartbeats 1000000 in
theorem copy_any {w : World} {bd bs nd ns : Nat} {a m : List (Nat × Nat)} (hA : Mp w bd nd a) (hM : Mp w bs ns m) (hne : bd ≠ bs) (ha : Low a) (hm : Low m) (hroom : nd + m.length ≤ 1000000) :
    Calls Tryz.prog 242 #[.map (some bd), .map (some bs)] w fun e w' => e = .returned (.tuple #[]) ∧ Mp w' bd (nd + m.length) (mmerge a m) ∧ Mp w' bs ns m ∧ Turns (fun i => i = bd) w w' := by
  have hsz : Maps.size (mD m) = m.length := by simp [mD, Maps.size_eq]
  refine (AnyX.maps_Copy Tryz.mcopy law3 RV bd bs nd ns (mD a) (mD m) w hA.own hM.own hne (by rw [hsz]; unfold maxLen; omega)).mono ?_
  rintro e w' ⟨rfl, h1, h2, h3⟩
  rw [hsz] at h1
  have hmg : Lib.mergeD (mD a) (mD m) = mD (mmerge a m) := merge_fold m a hA.ris ha hm
  rw [hmg] at h1
  exact ⟨rfl, ⟨h1, merge_rising hA.ris m⟩, ⟨h2, hM.ris⟩, Turns.grown h3 (fun x hx => (Option.some.inj hx).symm)⟩
end Go.Proofs.YtlcjkbhcbiggcaaGreatDoor
