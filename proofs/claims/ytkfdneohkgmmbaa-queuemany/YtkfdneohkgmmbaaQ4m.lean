/- slices.Delete of the first element of a list of structs, by its contract. -/
import Derived.Test.YtkfdneohkgmmbaaQ2m
import Derived.Deep.AppendLies
import Derived.Deep.RegionLaw
import Derived.Deep.RegionHeldLaw
import Derived.Deep.DrawnRows
import Derived.Test.YtkfdneohkgmmbaaQd
import Derived.Deep.Upon
namespace Go.Proofs.Ytkfdneohkgmmbaa
open Go.RowKit
set_option maxRecDepth 100000
attribute [local go_sem ↓] Go.wp_at_zero Go.wp_at_succ

theorem zero_M (w : World) : (zeroValue 43).run Try.prog w = .ok (.agg #[.int .i64 0, .int .i64 0, .int .i64 0]) w := by kernel_rfl
theorem zc_M : (Builtin.zeroCells (Value.cells (.agg #[.int .i64 0, .int .i64 0, .int .i64 0])) 1).toList = [.int .i64 0, .int .i64 0, .int .i64 0] := by kernel_rfl
theorem cs_lenM (v : (Int × Int × Int)) : (KM.cs v).length = 3 := rfl
theorem flat_lenM (l : List (Int × Int × Int)) : (l.flatMap KM.cs).length = l.length * 3 := by
  induction l with
  | nil => rfl
  | cons v l ih => rw [List.flatMap_cons, List.length_append, ih, cs_lenM, List.length_cons]; omega
theorem flat_oneM (l : List (Int × Int × Int)) : ∀ u ∈ l.flatMap KM.cs, u.oneCell' = true := by
  intro u hu
  obtain ⟨v, _, hv⟩ := List.mem_flatMap.1 hu
  simp [KM] at hv
  rcases hv with rfl | rfl | rfl <;> rfl
set_option maxHeartbeats 2000000 in
theorem delete_M {w : World} (x : (Int × Int × Int)) (l : List (Int × Int × Int)) (g cap : Nat) (h : w.ownsRow 0 43 3 (.slice (some ⟨g, 0, none⟩) (l.length + 1) cap) (l.length + 1) ((x :: l).flatMap KM.cs)) (hl : l.length < 64) :
    Calls Try.prog 45 #[.slice (some ⟨g, 0, none⟩) (l.length + 1) cap, .int .i64 0, .int .i64 1] w fun e w' => e = .returned (.slice (some ⟨g, 0, none⟩) l.length cap) ∧ w'.ownsRow 0 43 3 (.slice (some ⟨g, 0, none⟩) l.length cap) l.length (l.flatMap KM.cs) ∧ Turns (fun i => i = g) w w' := by
  obtain ⟨i0, hi, hz0, hz1, hz2⟩ := info_parts Try.infoEM
  have hfl := flat_lenM l
  have hfo := flat_oneM l
  obtain ⟨k, hk⟩ : ∃ k, l.length = k := ⟨_, rfl⟩
  have hr : w.ownsRow 0 43 3 (.slice (some ⟨g, 0, none⟩) (k + 1) cap) (k + 1) (KM.cs x ++ l.flatMap KM.cs) := by rw [← hk]; exact h
  rw [hk] at hl hfl ⊢
  have h3 : k + 1 ≤ cap ∧ cap ≤ maxLen := by
    rcases own_shape hr with ⟨q, _⟩ | ⟨g', cap', q, h3, h4⟩
    · cases q
    · cases q; exact ⟨h3, h4⟩
  obtain ⟨h3, h4⟩ := h3
  have HR := own_shift (m := 1) hr rfl (zs := [.int .i64 0, .int .i64 0, .int .i64 0]) rfl
  have hth := own_there hr
  have hce : ∀ j u, (l.flatMap KM.cs)[j]? = some u → w.drew.cell? ((⟨g, 3, none⟩ : Addr).add j) = some u := fun j u hu => by
    have hj := (List.getElem?_eq_some_iff.1 hu).1
    rw [Addr.add_lit]
    have e := hr.cellAt (3 + j) (by omega)
    rw [List.getElem?_append_right (by rw [cs_lenM]; omega), cs_lenM, Nat.add_sub_cancel_left] at e
    exact e.trans hu
  clear hk h
  obtain ⟨xs, hxs⟩ : ∃ xs, l.flatMap KM.cs = xs := ⟨_, rfl⟩
  rw [hxs] at hfl hfo HR hce ⊢
  clear hr hxs
  have b1 : (k : Int) < 64 := by omega
  have b2 : (k : Int) + 1 ≤ cap := by omega
  have b3 : (cap : Int) ≤ 9223372036854775807 := by unfold maxLen at h4; omega
  have b4 : (1 : Int) ≤ cap := by omega
  have b5 : (0 : Int) ≤ cap := by omega
  have c1 : ¬ cap = 0 := by omega
  have c2 : ¬ cap = k := by omega
  have w0 : IntKind.i64.wrap 0 = 0 := rfl
  have w1 : IntKind.i64.wrap 1 = 1 := rfl
  by_cases hk : k = 0
  · subst hk
    obtain rfl : xs = [] := List.eq_nil_of_length_eq_zero (by omega)
    have hcl : ∀ (ty : TypeId) (c : Nat), (Builtin.clear_ #[41] ty #[.slice (some ⟨g, 0, none⟩) 1 c]).run Try.prog w.drew = .ok (.tuple #[]) (w.drew.setCells g 0 [.int .i64 0, .int .i64 0, .int .i64 0]) := fun ty c => run_clear_one w.drew 41 43 ty (.agg #[.int .i64 0, .int .i64 0, .int .i64 0]) [.int .i64 0, .int .i64 0, .int .i64 0] Try.underlying41 zero_M zc_M (by simp [Value.oneCell']) g 0 c (fun j hj => (hth (0 + j) (by simp at hj; omega)).1) (fun j hj => (hth (0 + j) (by simp at hj; omega)).2)
    have HR : Hid (((w.drew.setCells g 0 [.int .i64 0, .int .i64 0, .int .i64 0]).ownsRow 0 43 3 (.slice (some ⟨g, 0, none⟩) 0 cap) 0 []) ∧ Turns (fun i => i = g) w (w.drew.setCells g 0 [.int .i64 0, .int .i64 0, .int .i64 0])) := by
      have e := HR
      rw [Nat.zero_mul] at e
      exact e
    clear hth hce
    by_cases hc : cap = 1
    · subst hc
      go_enter Try.func45, Try.ntmps45
      go_wp2_with fail
      go_region_held_law (fun _ => True) (trivial) (refine step_append_none rfl _ _ 41 43 i0 Try.underlying41 hi rfl ⟨g, 0, none⟩ 0 1 _ _ rfl rfl (by omega) ?_)
      go_wp2_with fail
      go_ret
      exact ⟨rfl, HR.out.1, HR.out.2⟩
    · go_enter Try.func45, Try.ntmps45
      go_wp2_with fail
      go_region_held_law (fun _ => True) (trivial) (refine step_append_none rfl _ _ 41 43 i0 Try.underlying41 hi rfl ⟨g, 0, none⟩ 0 cap _ _ rfl rfl (by omega) ?_)
      go_wp2_with fail
      go_ret
      exact ⟨rfl, HR.out.1, HR.out.2⟩
  · have hc : ¬ cap = 1 := by omega
    have hsp : ∀ j, j < xs.length → (w.drew.cell? ⟨g, 0 + 0 * 3 + j, none⟩).isSome = true ∧ w.drew.frozen? ⟨g, 0 + 0 * 3 + j, none⟩ = false := fun j hj => by
      have := hth j (by omega)
      simpa using this
    have hcl : ∀ (ty : TypeId) (c : Nat), (Builtin.clear_ #[41] ty #[.slice (some ⟨g, k * 3, none⟩) 1 c]).run Try.prog (w.drew.setCells g 0 xs) = .ok (.tuple #[]) ((w.drew.setCells g 0 xs).setCells g (k * 3) [.int .i64 0, .int .i64 0, .int .i64 0]) := fun ty c => run_clear_one (w.drew.setCells g 0 xs) 41 43 ty (.agg #[.int .i64 0, .int .i64 0, .int .i64 0]) [.int .i64 0, .int .i64 0, .int .i64 0] Try.underlying41 zero_M zc_M (by simp [Value.oneCell']) g (k * 3) c
      (fun j hj => by
        simp at hj
        rw [World.cell?_setCells_out g xs 0 w.drew _ (fun _ _ => Or.inr (by simp; omega))]
        exact (hth (k * 3 + j) (by omega)).1)
      (fun j hj => by
        simp at hj
        rw [World.frozen?_setCells]
        exact (hth (k * 3 + j) (by omega)).2)
    have HR : Hid ((((w.drew.setCells g 0 xs).setCells g (k * 3) [.int .i64 0, .int .i64 0, .int .i64 0]).ownsRow 0 43 3 (.slice (some ⟨g, 0, none⟩) k cap) k xs) ∧ Turns (fun i => i = g) w ((w.drew.setCells g 0 xs).setCells g (k * 3) [.int .i64 0, .int .i64 0, .int .i64 0])) := by
      have e := HR
      rw [show k * 3 = k * 3 by omega] at e
      exact e
    clear hth
    go_enter Try.func45, Try.ntmps45
    go_wp2_with fail
    go_region_held_law (fun _ => True) (trivial) (refine step_append_room rfl _ _ 41 rfl 43 i0 3 Try.underlying41 hi hz1 g 0 0 cap rfl ⟨g, 3, none⟩ k (cap - 1) xs rfl hfl hce hfo (by omega) hsp ?_)
    go_wp2_with fail
    go_ret
    exact ⟨rfl, HR.out.1, HR.out.2⟩
end Go.Proofs.Ytkfdneohkgmmbaa
