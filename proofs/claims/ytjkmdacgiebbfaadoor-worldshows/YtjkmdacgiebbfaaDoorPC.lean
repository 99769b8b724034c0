/- Bytes behind a row: hex digits, a byte as it stands in a quoted word. -/
import Derived.Test.YtjkmdacgiebbfaaDoorPB
import Derived.Test.YtjkmdacgiebbfaaDoorQ1

import Derived.Deep.DeepAppendWide
import Derived.Deep.RegionHeld3
import Derived.Deep.RegionLaw
import Derived.Deep.AppendLies
namespace Go.Proofs.YtjkmdacgiebbfaaDoor
open Go.RowKit
set_option maxRecDepth 100000

abbrev hexS : ByteArray := ⟨#[48, 49, 50, 51, 52, 53, 54, 55, 56, 57, 97, 98, 99, 100, 101, 102]⟩
theorem hexS_at (p : Nat) (hp : p < 16) (h : p < hexS.size) : (hexS[p]'h) = digB (UInt8.ofNat p) := by
  have := (show ∀ q : Fin 16, (hexS[q.val]'q.isLt) = digB (UInt8.ofNat q.val) by decide) ⟨p, hp⟩
  exact this
theorem nib_hi (b : UInt8) : (b.toNat : Int) / 16 = ((b >>> 4).toNat : Int) ∧ (b >>> 4).toNat < 16 := u8_all (p := fun b => (b.toNat : Int) / 16 = ((b >>> 4).toNat : Int) ∧ (b >>> 4).toNat < 16) (by decide +kernel) b
theorem nib_lo (b : UInt8) : bits BinOp.and IntKind.u8 (b.toNat : Int) 15 = ((b &&& 15).toNat : Int) ∧ (b &&& 15).toNat < 16 := u8_all (p := fun b => bits BinOp.and IntKind.u8 (b.toNat : Int) 15 = ((b &&& 15).toNat : Int) ∧ (b &&& 15).toNat < 16) (by decide +kernel) b
theorem of_nib (b : UInt8) (p : Nat) (h : b.toNat = p) : UInt8.ofNat p = b := by rw [← h]; simp

set_option maxHeartbeats 1000000 in
theorem appendHex_any (v : Value) (n B : Nat) (l : By) (b : UInt8) (w : World) (hown : w.ownsRow B 5 1 v n (l.map ub)) (hB : B ≤ w.heap.size) (hn : n ≤ 140000000000000) :
    Calls Tryd.prog 34 #[v, ub b] w fun e w' => ∃ v', e = .returned v' ∧ w'.ownsRow B 5 1 v' (n + 2) ((l ++ [digB (b >>> 4), digB (b &&& 15)]).map ub) ∧ Below B w w' := by
  obtain ⟨i0, hi, hz0, hz1, hz2⟩ := info_parts Tryd.info5
  obtain ⟨e1, p1⟩ := nib_hi b
  have q1 : 0 ≤ (b.toNat : Int) / 16 := by omega
  have q2 : (b.toNat : Int) / 16 < 16 := by omega
  obtain ⟨e2, p2⟩ := nib_lo b
  have q3 : 0 ≤ bits BinOp.and IntKind.u8 (b.toNat : Int) 15 := by omega
  have q4 : bits BinOp.and IntKind.u8 (b.toNat : Int) 15 < 16 := by omega
  have d1 : ∀ h : ((b.toNat : Int) / 16).toNat < hexS.size, (hexS[((b.toNat : Int) / 16).toNat]'h).toNat = (digB (b >>> 4)).toNat := fun h => by
    have e : ((b.toNat : Int) / 16).toNat = (b >>> 4).toNat := by omega
    rw [hexS_at _ (by omega), of_nib (b >>> 4) _ e.symm]
  have d2 : ∀ h : (bits BinOp.and IntKind.u8 (b.toNat : Int) 15).toNat < hexS.size, (hexS[(bits BinOp.and IntKind.u8 (b.toNat : Int) 15).toNat]'h).toNat = (digB (b &&& 15)).toNat := fun h => by
    have e : (bits BinOp.and IntKind.u8 (b.toNat : Int) 15).toNat = (b &&& 15).toNat := by omega
    rw [hexS_at _ (by omega), of_nib (b &&& 15) _ e.symm]
  have hv : ∀ (h : ((b.toNat : Int) / 16).toNat < hexS.size) (h' : (bits BinOp.and IntKind.u8 (b.toNat : Int) 15).toNat < hexS.size), [Value.int .u8 (((hexS[((b.toNat : Int) / 16).toNat]'h).toNat : Nat) : Int), Value.int .u8 (((hexS[(bits BinOp.and IntKind.u8 (b.toNat : Int) 15).toNat]'h').toNat : Nat) : Int)] = [digB (b >>> 4), digB (b &&& 15)].map ub := fun h h' => by
    rw [d1 h, d2 h']; rfl
  clear e1 p1 e2 p2 d1 d2
  go_enter Tryd.func34, Tryd.ntmps34
  go_wp2_with fail
  go_region_law (first
    | (refine step_append_lies _ rfl (.tmp 5) (.tmp 12) 23 rfl B 5 i0 (.int .u8 0) 1 1 Tryd.underlying23 hi hz0 hz1 hz2 rfl (by decide) v n (l.map ub) rfl (hown.drew.alloc _) ⟨w.heap.size, 0, none⟩ 2 2 [_, _] rfl rfl (World.news_of_block (heap_alloc_new _ _)) (by intro u hu; simp at hu; rcases hu with rfl | rfl <;> rfl) (by decide) (by unfold maxLen; omega) (by omega) (by simp; omega) _ rfl ?_; intro gC cC wC hoC hgC hatC hltC)
    | fail)
  all_goals
    go_wp2_with fail
    go_ret
    refine ⟨_, rfl, ?_, ?_⟩
    · rw [List.map_append]
      exact hoC
    · have tC : Turns (fun i => v.ownBlock = some i) w wC := (Turns.alloc _ w _).trans ((Turns.drewN _ _ 1).trans (Turns.grown (F := fun i => v.ownBlock = some i) hgC (fun b hb => hb)) (fun _ _ h => h)) (fun _ _ h => h)
      exact tC.below (fun i hi => own_ge hown hi) hB

/-- A row of bytes grows by a few. -/
theorem grown_B {v : Value} {n B : Nat} {xs : List Value} {w w1 wC : World} (hown : w.ownsRow B 5 1 v n xs) (hB : B ≤ w.heap.size) (h1 : Below w.heap.size w w1) (hgC : w1.grownBy wC v.ownBlock) : Below B w wC := by
  have tC : Turns (fun i => v.ownBlock = some i) w wC := (Below.turns h1 _).trans (Turns.grown (F := fun i => v.ownBlock = some i) hgC (fun b hb => hb)) (fun _ _ h => h)
  exact tC.below (fun i hi => own_ge hown hi) hB

set_option maxHeartbeats 1000000 in
theorem appendQuoted_any (v : Value) (n B : Nat) (l : By) (b : UInt8) (w : World) (hown : w.ownsRow B 5 1 v n (l.map ub)) (hB : B ≤ w.heap.size) (hn : n ≤ 130000000000000) :
    Calls Tryd.prog 22 #[v, ub b] w fun e w' => ∃ v', e = .returned v' ∧ w'.ownsRow B 5 1 v' (n + (quoteB b).length) ((l ++ quoteB b).map ub) ∧ Below B w w' := by
  obtain ⟨i0, hi, hz0, hz1, hz2⟩ := info_parts Tryd.info5
  have bA : ∀ o : Obj, Below w.heap.size w (w.alloc o) := fun o => (Below.refl _ w).alloc (Nat.le_refl _) o
  have HB : Hid (∀ o : Obj, Below w.heap.size w (w.alloc o)) := bA
  have HO : Hid (w.ownsRow B 5 1 v n (l.map ub)) := hown
  clear bA
  have hb0 : 0 ≤ (b.toNat : Int) := by omega
  have hb1 : (b.toNat : Int) ≤ 255 := by have := b.toNat_lt; omega
  by_cases h : b = 34 ∨ b = 92
  · have hq : quoteB b = [92, b] := if_pos h
    rw [hq]
    have hc : ((b.toNat : Int) == 34) = true ∨ ((b.toNat : Int) == 34) = false ∧ ((b.toNat : Int) == 92) = true := by
      rcases h with rfl | rfl
      · exact Or.inl rfl
      · exact Or.inr ⟨rfl, rfl⟩
    clear h hq
    go_enter Tryd.func22, Tryd.ntmps22
    rcases hc with hc | ⟨hc, hc'⟩
    all_goals
      go_wp2_with (first | (at_builtin; refine wpList_append_lies _ rfl (.tmp 12) (.tmp 14) 23 rfl B 5 i0 (.int .u8 0) 1 1 Tryd.underlying23 hi hz0 hz1 hz2 rfl (by decide) _ n _ rfl (HO.out.alloc _) ⟨w.heap.size, 0, none⟩ 2 2 [.int .u8 92, ub b] rfl rfl (World.news_of_block (heap_alloc_new _ _)) (by intro u hu; simp at hu; rcases hu with rfl | rfl <;> rfl) (by decide) (by unfold maxLen; omega) (by omega) (by simp; omega) _ rfl ?_; intro gC cC wC hoC hgC hatC hltC) | fail)
      go_ret
      refine ⟨_, rfl, ?_, grown_B HO.out hB (HB.out _) hgC⟩
      rw [List.map_append]
      exact hoC
  · have g1 : ((b.toNat : Int) == 34) = false := by
      have : b ≠ 34 := fun e => h (Or.inl e)
      simp; intro e; exact this (UInt8.toNat_inj.1 (by simp; omega))
    have g2 : ((b.toNat : Int) == 92) = false := by
      have : b ≠ 92 := fun e => h (Or.inr e)
      simp; intro e; exact this (UInt8.toNat_inj.1 (by simp; omega))
    have hP := isPlain_any (b.toNat : Int) w
    rw [plainR_byte] at hP
    by_cases hp : plainB b = true
    · have hq : quoteB b = [b] := by unfold quoteB; rw [if_neg h, if_pos hp]
      rw [hq]
      rw [hp] at hP
      clear h hq hp
      go_enter Tryd.func22, Tryd.ntmps22
      go_wp2_with fail
      refine hP.mono ?_
      rintro e w1 ⟨rfl, hw1⟩
      subst w1
      clear hP
      go_wp2_with (first | (at_builtin; refine wpList_append_lies _ rfl (.tmp 20) (.tmp 22) 23 rfl B 5 i0 (.int .u8 0) 1 1 Tryd.underlying23 hi hz0 hz1 hz2 rfl (by decide) _ n _ rfl (HO.out.alloc _) ⟨w.heap.size, 0, none⟩ 1 1 [ub b] rfl rfl (World.news_of_block (heap_alloc_new _ _)) (by intro u hu; simp at hu; rcases hu with rfl <;> rfl) (by decide) (by unfold maxLen; omega) (by omega) (by simp; omega) _ rfl ?_; intro gC cC wC hoC hgC hatC hltC) | fail)
      go_ret
      refine ⟨_, rfl, ?_, grown_B HO.out hB (HB.out _) hgC⟩
      rw [List.map_append]
      exact hoC
    · have hq : quoteB b = [92, 120, digB (b >>> 4), digB (b &&& 15)] := by unfold quoteB; rw [if_neg h, if_neg hp]
      rw [hq]
      have hp' : plainB b = false := by simpa using hp
      rw [hp'] at hP
      clear h hq hp hp'
      go_enter Tryd.func22, Tryd.ntmps22
      go_wp2_with fail
      refine hP.mono ?_
      rintro e w1 ⟨rfl, hw1⟩
      subst w1
      clear hP
      go_wp2_with (first | (at_builtin; refine wpList_append_lies _ rfl (.tmp 24) (.tmp 25) 23 rfl B 5 i0 (.int .u8 0) 1 1 Tryd.underlying23 hi hz0 hz1 hz2 rfl (by decide) _ n _ rfl (HO.out.alloc _) ⟨w.heap.size, 0, none⟩ 2 2 [.int .u8 92, .int .u8 120] rfl rfl (World.news_of_block (heap_alloc_new _ _)) (by intro u hu; simp at hu; rcases hu with rfl | rfl <;> rfl) (by decide) (by unfold maxLen; omega) (by omega) (by simp; omega) _ rfl ?_; intro gC cC wC hoC hgC hatC hltC) | fail)
      have b1 := grown_B HO.out hB (HB.out _) hgC
      have hC := appendHex_any _ (n + 2) B (l ++ [92, 120]) b wC (by rw [List.map_append]; exact hoC) (Nat.le_trans hB (by have := hgC.size; simp at this; omega)) (by omega)
      have Hb1 : Hid (Below B w wC) := b1
      clear b1 hgC hatC hoC
      refine hC.mono ?_
      rintro e w2 ⟨v', rfl, ho2, b2⟩
      have Ho2 : Hid _ := ho2
      clear ho2 hC
      go_wp2_with fail
      go_ret
      refine ⟨_, rfl, ?_, Hb1.out.trans b2⟩
      have := Ho2.out
      rw [List.append_assoc] at this
      exact this
end Go.Proofs.YtjkmdacgiebbfaaDoor
