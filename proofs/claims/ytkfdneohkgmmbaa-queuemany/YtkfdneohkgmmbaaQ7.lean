/- Len, Total and Each of a queue of ints, by their contracts. -/
import Derived.Test.YtkfdneohkgmmbaaQ6i
import Derived.Test.YtkfdneohkgmmbaaQL
import Derived.Laws.CopyOwn
namespace Go.Proofs.Ytkfdneohkgmmbaa
open Go.RowKit
set_option maxRecDepth 100000

theorem flatI (l : List Int) : l.flatMap KI.cs = l.map (Value.int .i64) := by
  induction l with
  | nil => rfl
  | cons v l ih => rw [List.flatMap_cons, ih]; rfl
theorem len_no {w : World} {lab : Nat → Nat} {k qb P nx : Nat} {L : List (List Int)} (hq : Qu KI w lab k qb P nx L) (c : Int) (hc : c < 0 ∨ (L.length : Int) ≤ c) :
    Calls Try.prog 21 #[.pointer (some ⟨qb, 0, none⟩), .int .i64 c] w fun e w' => e = .returned (.int .i64 0) ∧ w' = w := by
  obtain ⟨wb, vs, h⟩ := hq
  go_enter Try.func21, Try.ntmps21
  go_wp2_with (go_at_call 31; refine (is_noI h c hc).mono ?_; rintro e wn ⟨rfl, hwn⟩; subst wn)
  go_ret
  exact ⟨rfl, rfl⟩
theorem len_ok {w : World} {lab : Nat → Nat} {k qb P nx : Nat} {L : List (List Int)} (hq : Qu KI w lab k qb P nx L) (c : Nat) (hc : c < L.length) :
    Calls Try.prog 21 #[.pointer (some ⟨qb, 0, none⟩), .int .i64 c] w fun e w' => e = .returned (.int .i64 L[c].length) ∧ w' = w := by
  obtain ⟨wb, vs, h⟩ := hq
  have hcv : c < vs.length := by rw [h.len]; exact hc
  obtain ⟨ao, cap, hv⟩ := own_slice (h.own c hcv hc)
  have h2 := h.c2
  have hw := h.cw c hcv
  rw [hv] at hw
  have a1 : (c : Int) < L.length := by omega
  clear hv
  go_enter Try.func21, Try.ntmps21
  go_wp2_with (go_at_call 31; refine (is_yesI h c hc).mono ?_; rintro e wn ⟨rfl, hwn⟩; subst wn; clear h)
  go_ret
  exact ⟨rfl, rfl⟩
/-- How many wait. -/
def tot (L : List (List Int)) : Nat := (L.map List.length).sum
theorem tot_take (L : List (List Int)) (j : Nat) (hj : j < L.length) : tot (L.take (j + 1)) = tot (L.take j) + L[j].length := by
  unfold tot
  rw [List.take_succ_eq_append_getElem hj, List.map_append, List.sum_append, List.map_cons, List.map_nil, List.sum_cons, List.sum_nil, Nat.add_zero]
theorem tot_le (L : List (List Int)) (P : Nat) (h : ∀ (i : Nat) (h2 : i < L.length), L[i].length ≤ P) : ∀ j, j ≤ L.length → tot (L.take j) ≤ j * P
  | 0, _ => by simp [tot]
  | j + 1, hj => by
    have := tot_le L P h j (by omega)
    rw [tot_take L j (by omega), Nat.add_mul]
    have := h j (by omega)
    omega
set_option maxHeartbeats 1000000 in
theorem total_ok {w : World} {lab : Nat → Nat} {k qb P nx : Nat} {L : List (List Int)} (hq : Qu KI w lab k qb P nx L) :
    Calls Try.prog 13 #[.pointer (some ⟨qb, 0, none⟩)] w fun e w' => e = .returned (.int .i64 (tot L : Nat)) ∧ w' = w := by
  obtain ⟨wb, vs, h⟩ := hq
  have h2 := h.c2
  have hn := h.hn
  obtain ⟨n, hN⟩ : ∃ n, L.length = n := ⟨_, rfl⟩
  have HN : Hid (L.length = n) := hN
  have hwv : ∀ y, y < n → ∃ ao cap, w.cell? ⟨wb, y, none⟩ = some (.slice ao (L.getD y []).length cap) := fun y hy => by
    obtain ⟨ao, cap, e⟩ := own_slice (h.own y (by rw [h.len]; omega) (by omega))
    refine ⟨ao, cap, ?_⟩
    rw [h.cw y (by rw [h.len]; omega), e]
    simp [List.getD, show y < L.length by omega]
  have HW : Hid (∀ y, y < n → ∃ ao cap, w.cell? ⟨wb, y, none⟩ = some (.slice ao (L.getD y []).length cap)) := hwv
  have hP := h.hP
  have HT : Hid (∀ j, j < n → tot (L.take (j + 1)) = tot (L.take j) + (L.getD j []).length ∧ tot (L.take j) ≤ 4096 ∧ (L.getD j []).length ≤ 64) := fun j hj => by
    have e := tot_take L j (by omega)
    have f := tot_le L 64 (fun i h2 => Nat.le_trans (h.le i h2) hP) j (by omega)
    refine ⟨by rw [e]; simp [List.getD, show j < L.length by omega], by omega, ?_⟩
    have := h.le j (by omega)
    simp [List.getD, show j < L.length by omega]
    omega
  rw [hN] at h2 hn
  have a2 : (n : Int) ≤ 64 := by omega
  clear hN hwv h
  go_enter Try.func13, Try.ntmps13
  go_wp2_with fail
  go_loop [3, 11] (fun s t => ∃ j : Nat, j ≤ n ∧ t = .int .i64 j ∧ s = .int .i64 (tot (L.take j) : Nat)) (fun _ t => n + 1 - (intOf t).toNat)
  case atStart => exact ⟨0, Nat.zero_le _, rfl, by simp [tot]⟩
  case round =>
    obtain ⟨j, hj, rfl, rfl⟩ := hrel
    by_cases hlt : j < n
    · obtain ⟨ao, cap, hw⟩ := HW.out j hlt
      obtain ⟨e1, e2, e3⟩ := HT.out j hlt
      have E1 : Hid (tot (L.take (j + 1)) = tot (L.take j) + (L.getD j []).length) := e1
      clear e1
      have b1 : (j : Int) < n := by omega
      generalize (L.getD j []).length = m at *
      generalize tot (L.take j) = s at *
      have b2 : (m : Int) ≤ 64 := by omega
      have b3 : (s : Int) ≤ 4096 := by omega
      go_wp2_with fail
      go_round
      case rel => exact ⟨j + 1, by omega, by go_num, by rw [E1.out]; go_num⟩
      case measure => simp [intOf]; omega
    · obtain rfl : j = n := by omega
      go_wp2_with fail
      go_ret
      exact ⟨by rw [List.take_of_length_le (by rw [HN.out]; exact Nat.le_refl _)]; rfl, rfl⟩
theorem each_no {w : World} {lab : Nat → Nat} {k qb P nx : Nat} {L : List (List Int)} (hq : Qu KI w lab k qb P nx L) (c : Int) (hc : c < 0 ∨ (L.length : Int) ≤ c) :
    Calls Try.prog 19 #[.pointer (some ⟨qb, 0, none⟩), .int .i64 c] w fun e w' => e = .returned (.slice none 0 0) ∧ w' = w := by
  obtain ⟨wb, vs, h⟩ := hq
  go_enter Try.func19, Try.ntmps19
  go_wp2_with (go_at_call 31; refine (is_noI h c hc).mono ?_; rintro e wn ⟨rfl, hwn⟩; subst wn)
  go_ret
  exact ⟨rfl, rfl⟩
theorem made_rowI (w : World) (n : Nat) : (w.alloc (.cells (madeCells #[.int .i64 0] n) 3)).heap[w.heap.size]? = some (.cells (List.replicate n (Value.int .i64 0)).toArray 3 (0, 0)) := by
  have e : madeCells #[Value.int .i64 0] n = (List.replicate n (Value.int .i64 0)).toArray := by
    rw [← toList_madeCells_one]
  rw [e]
  exact heap_alloc_new w _
theorem splice_whole {α : Type} (L cs : List α) (h : cs.length = L.length) : splice L 0 cs = cs := by
  simp [splice, h]
set_option maxHeartbeats 1000000 in
theorem each_ok {w : World} {lab : Nat → Nat} {k qb P nx : Nat} {L : List (List Int)} (hq : Qu KI w lab k qb P nx L) (c : Nat) (hc : c < L.length) :
    Calls Try.prog 19 #[.pointer (some ⟨qb, 0, none⟩), .int .i64 c] w fun e w' => ∃ g, e = .returned (.slice (some ⟨g, 0, none⟩) L[c].length L[c].length) ∧ w'.ownsRow w.heap.size 3 1 (.slice (some ⟨g, 0, none⟩) L[c].length L[c].length) L[c].length (L[c].map (Value.int .i64)) ∧ Below w.heap.size w w' := by
  obtain ⟨wb, vs, h⟩ := hq
  obtain ⟨i0, hi, hz0, hz1, hz2⟩ := info_parts Try.infoInt
  have hsz : (Try.prog.info? 3).map (·.size) = some 1 := by rw [hi]; simp [hz1]
  have hcv : c < vs.length := by rw [h.len]; exact hc
  have hrow := h.own c hcv hc
  have hle := h.le c hc
  have hP := h.hP
  rw [flatI] at hrow
  obtain ⟨ao, cap, hv, hL⟩ := Li.row hrow
  have h2 := h.c2
  have hw := h.cw c hcv
  have hwl := heap_lt h.row
  have hql := heap_lt h.box
  rw [hv] at hw
  obtain ⟨bs, hbs⟩ : ∃ bs, L[c] = bs := ⟨_, rfl⟩
  rw [hbs] at hw hle hL ⊢
  obtain ⟨n, hn⟩ : ∃ n, bs.length = n := ⟨_, rfl⟩
  rw [hn] at hw hle hL ⊢
  have hlen : bs.length = n := hn
  have a1 : (c : Int) < L.length := by omega
  have a3 : (n : Int) ≤ 64 := by omega
  have hbel : Below w.heap.size w (w.alloc (.cells (madeCells #[.int .i64 0] n) 3)) := (Below.refl _ w).alloc (Nat.le_refl _) _
  have hL1 : Li (w.alloc (.cells (madeCells #[.int .i64 0] n) 3)) ao n cap bs := hL.below hbel (Nat.le_refl _)
  have HPos : Hid (0 < (bs.map (Value.int .i64)).length → ∃ ad, ao = some ad ∧ ∀ j v, (bs.map (Value.int .i64))[j]? = some v → (w.alloc (.cells (madeCells #[.int .i64 0] n) 3)).cell? (ad.add j) = some v) := fun hp => by
    cases hao : ao with
    | none => have := (hL.hnone hao).1; simp at hp; omega
    | some ad => exact ⟨ad, rfl, hL1.hcells ad hao⟩
  have hrowI := made_rowI w n
  have n1 : (w.alloc (.cells (madeCells #[.int .i64 0] n) 3)).cell? ⟨wb, c, none⟩ = some (.slice ao n cap) := (World.cell?_of_block (w := w) (a := ⟨wb, c, none⟩) (Below.heap_alloc w _ wb hwl)).trans hw
  have n2 : (w.alloc (.cells (madeCells #[.int .i64 0] n) 3)).cell? ⟨qb, 2, none⟩ = some (.slice (some ⟨wb, 0, none⟩) L.length L.length) := (World.cell?_of_block (w := w) (a := ⟨qb, 2, none⟩) (Below.heap_alloc w _ qb hql)).trans h2
  have HLen : Hid (bs.length = n) := hlen
  have HLm : Hid ((bs.map (Value.int .i64)).length = Nat.min n n) := by
    show _ = _
    simp [hlen]
  clear hv hL hL1 hn hrow hlen hbs
  go_enter Try.func19, Try.ntmps19
  go_wp2_with (first
    | (go_at_call 31; refine (is_yesI h c hc).mono ?_; rintro e wn ⟨rfl, hwn⟩; subst wn; clear h)
    | (at_make; (refine wpList_make_row _ rfl _ _ 40 rfl 3 i0 (.int .i64 0) Try.underlying40 hi hz0 hz1 rfl _ _ n rfl rfl (by rw [hz2]; omega) (by omega) ?_))
    | ((refine wpList_copy_splice (by rfl) _ _ 40 40 (by rfl) 3 Try.underlying40 hsz (some ⟨w.heap.size, 0, none⟩) ao n n n cap (by rfl) (by rfl) w.heap.size 0 (List.replicate n (Value.int .i64 0)) 3 hrowI (bs.map (Value.int .i64)) HLm.out (fun hp => ⟨rfl, HPos.out hp⟩) (by simp [HLen.out]) (ints_oneCell _ _) w.heap.size w hbel (Nat.le_refl _) ?_); intro w2 HG2 hB2))
  go_ret
  refine ⟨_, rfl, ?_, hB2⟩
  have hg := HG2.out
  rw [splice_whole _ _ (by simp [HLen.out])] at hg
  refine ⟨by simp [HLen.out], Or.inr ⟨_, _, _, rfl, Nat.le_refl _, hg, Nat.le_refl _, by unfold maxLen; omega, by simp [HLen.out], ?_⟩⟩
  rw [List.take_of_length_le (by simp [HLen.out])]
end Go.Proofs.Ytkfdneohkgmmbaa
