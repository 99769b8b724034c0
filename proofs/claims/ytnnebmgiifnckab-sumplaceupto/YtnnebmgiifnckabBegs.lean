/- sum.beginnings and sum.ends by their contracts. -/
import Derived.Test.YtnnebmgiifnckabMore
import Derived.Laws.OwnMore
import Derived.Deep.RegionWith
namespace Go.Proofs.Ytnnebmgiifnckab
open Go.RowKit
set_option maxRecDepth 100000

theorem Try.info22 : (Try.prog.info? 22).map (fun i => (i.zero, i.size, i.bytes)) = some (some (.int .u64 0), 1, 8) := by kernel_rfl

theorem getD_set (l : List Int) (i j : Nat) (v : Int) (hj : j < l.length) : (l.set i v).getD j 0 = if i = j then v else l.getD j 0 := by
  simp only [List.getD, List.getElem?_set]
  by_cases h : i = j
  · subst h; simp [hj]
  · simp [h]

/-- A new row of m numbers, each as f has it. -/
def Nums (w : World) (e : Ending) (w' : World) (m : Nat) (f : Nat → Int) : Prop :=
  ∃ (g : Nat) (L : List Int), e = .returned (.slice (some ⟨g, 0, none⟩) m m) ∧ w'.ownsRow w.heap.size 22 1 (.slice (some ⟨g, 0, none⟩) m m) m (L.map (Value.int .u64)) ∧ L.length = m ∧ (∀ j, j < m → L.getD j 0 = f j) ∧ Below w.heap.size w w'

theorem nums_cell {w : World} {base g m : Nat} {L : List Int} (h : w.ownsRow base 22 1 (.slice (some ⟨g, 0, none⟩) m m) m (L.map (Value.int .u64))) (hL : L.length = m) (j : Nat) (hj : j < m) : w.cell? ⟨g, j, none⟩ = some (.int .u64 (L.getD j 0)) := by
  rw [h.cellAt j (by omega)]
  have : j < L.length := by omega
  simp [List.getD, this]

theorem make_nums (n : Nat) (hn : n ≤ 1048576) (u : World) : (Instr.makeSlice 41 (.int .i64 ((n : Int) + 1)) (.int .i64 ((n : Int) + 1))).run Try.prog u =
    .ok (.slice (some ⟨u.heap.size, 0, none⟩) (n + 1) (n + 1)) (u.alloc (.cells (madeCells #[.int .u64 0] (n + 1)) 22)) := by
  obtain ⟨i0, hi, hz0, hz1, hz2⟩ := info_parts Try.info22
  have h := run_make (P := Try.prog) u 41 22 i0 (.int .u64 0) Try.underlying41 hi hz0 .i64 .i64 ((n : Int) + 1) ((n : Int) + 1) (by omega) (Int.le_refl _) (by rw [hz2]; omega) (by omega)
  have e : ((n : Int) + 1).toNat = n + 1 := by omega
  rw [e] at h
  simpa [hz1, Value.cells] using h

theorem own_nums (u : World) (n base : Nat) (hn : n ≤ 1048576) (hb : base ≤ u.heap.size) : (u.alloc (.cells (madeCells #[.int .u64 0] (n + 1)) 22)).ownsRow base 22 1 (.slice (some ⟨u.heap.size, 0, none⟩) (n + 1) (n + 1)) (n + 1) ((List.replicate (n + 1) (0 : Int)).map (Value.int .u64)) := by
  have h := World.ownsRow_lit (base := base) (e := 22) (size := 1) u (madeCells #[.int .u64 0] (n + 1)) (n + 1) hb (by unfold maxLen; omega) (by rw [size_madeCells]; omega)
  rw [toList_madeCells_one] at h
  simpa using h

set_option maxHeartbeats 400000 in
theorem begs_pos (b o c n : Nat) (bs : List Int) (w : World) (hn : n ≤ 1048576) (hl : bs.length = n) (hby : ∀ x ∈ bs, By x)
    (hc : ∀ t, t < n → w.cell? ⟨b, o + t, none⟩ = some (.int .u8 (bs.getD t 0))) :
    Calls Try.prog 27 #[.slice (some ⟨b, o, none⟩) n c] w fun e w' => Nums w e w' (n + 1) (fun j => fwd 14695981039346656037 (bs.take j)) := by
  have hni : (n : Int) ≤ 1048576 := by omega
  have hmk := make_nums n hn w
  have hown0 := own_nums w n w.heap.size hn (Nat.le_refl _)
  have hb0 := (Below.refl w.heap.size w).alloc (Nat.le_refl _) (.cells (madeCells #[.int .u64 0] (n + 1)) 22)
  generalize w.alloc (.cells (madeCells #[.int .u64 0] (n + 1)) 22) = w1 at *
  have hst0 := hown0.stored 0 (.int .u64 14695981039346656037)
  rw [← List.map_set] at hst0
  have HST0 : Hid _ := hst0
  have hfz0 := hown0.frozenAt 0
  have hcz := nums_cell hown0 (by simp) 0 (by omega)
  clear hst0
  go_enter Try.func27, Try.ntmps27
  go_wp2_with fail
  go_loopw [14] (fun i wr => ∃ (k : Nat) (L : List Int), k ≤ n ∧ i = .int .i64 k ∧ wr.ownsRow w.heap.size 22 1 (.slice (some ⟨w.heap.size, 0, none⟩) (n + 1) (n + 1)) (n + 1) (L.map (Value.int .u64)) ∧ L.length = n + 1 ∧ (∀ j, j ≤ k → L.getD j 0 = fwd 14695981039346656037 (bs.take j)) ∧ Below w.heap.size w wr) (fun i _ => n - (intOf i).toNat)
  case atStart =>
    refine ⟨0, _, Nat.zero_le _, rfl, HST0.out.1, by simp, fun j hj => ?_, hb0.grown HST0.out.2 hb0.size (fun k hk => by cases hk; exact Nat.le_refl _)⟩
    obtain rfl : j = 0 := by omega
    rw [getD_set _ _ _ _ (by simp), if_pos rfl]
    rfl
  case round =>
    obtain ⟨k, L, hk, rfl, hown, hLl, hL, hb⟩ := hrel
    clear HST0 hfz0 hcz hown0 hb0 hmk
    by_cases hlt : k < n
    · have hkn : (k : Int) < n := by omega
      have hck := cell_later hb (hc k hlt)
      have hcL := nums_cell hown hLl k (by omega)
      have hcL1 := nums_cell hown hLl (k + 1) (by omega)
      have hx := by_getD hby (show k < bs.length by omega)
      have hs : fwd 14695981039346656037 (bs.take (k + 1)) = stp (L.getD k 0) (bs.getD k 0) := by
        rw [take_succ_getD bs (by omega), fwd_append, hL k (Nat.le_refl _)]; rfl
      have hfz := hown.frozenAt (k + 1)
      have hst := hown.stored (k + 1) (.int .u64 (stp (L.getD k 0) (bs.getD k 0)))
      rw [← List.map_set] at hst
      have HST : Hid _ := hst
      have HS : Hid _ := hs
      have HLL : Hid (∀ j, j ≤ k → L.getD j 0 = fwd 14695981039346656037 (bs.take j)) := hL
      clear hst hs hc hby hL
      generalize hg : L.getD k 0 = g at *
      generalize bs.getD k 0 = x at *
      generalize L.getD (k + 1) 0 = g1 at *
      go_wp2_with (go_at_call 23; refine (step_any _ _ _ hx).mono ?_; rintro e w9 ⟨rfl, hw9⟩; subst w9)
      go_roundw
      case rel =>
        refine ⟨k + 1, _, by omega, by go_num, HST.out.1, by simp [hLl], fun j hj => ?_, hb.grown HST.out.2 hb.size (fun k hk => by cases hk; exact (hown.lt _ rfl).1)⟩
        rw [getD_set _ _ _ _ (by omega)]
        by_cases h : k + 1 = j
        · subst h
          rw [if_pos rfl, HS.out]
        · rw [if_neg h, HLL.out j (by omega)]
      case measure => simp [intOf]; omega
    · have hkn : (n : Int) ≤ k := by omega
      clear hc hby
      go_wp2_with fail
      go_ret
      obtain rfl : k = n := by omega
      exact ⟨_, L, rfl, hown, hLl, fun j hj => hL j (by omega), hb⟩

set_option maxHeartbeats 400000 in
theorem begs_zero (ao : Option Addr) (c : Nat) (w : World) :
    Calls Try.prog 27 #[.slice ao 0 c] w fun e w' => Nums w e w' 1 (fun _ => 14695981039346656037) := by
  have hmk := make_nums 0 (by omega) w
  have hown0 := own_nums w 0 w.heap.size (by omega) (Nat.le_refl _)
  have hb0 := (Below.refl w.heap.size w).alloc (Nat.le_refl _) (.cells (madeCells #[.int .u64 0] (0 + 1)) 22)
  generalize w.alloc (.cells (madeCells #[.int .u64 0] (0 + 1)) 22) = w1 at *
  simp only [Int.natCast_zero, Int.zero_add, Nat.zero_add] at hmk hown0
  have hst0 := hown0.stored 0 (.int .u64 14695981039346656037)
  rw [← List.map_set] at hst0
  have HST0 : Hid _ := hst0
  have hfz0 := hown0.frozenAt 0
  have hcz := nums_cell hown0 (by simp) 0 (by omega)
  clear hst0
  go_enter Try.func27, Try.ntmps27
  go_wp2_with fail
  refine wp_loop_rounds 1 ?_
  rw [rounds_succ]
  go_wp2
  go_ret
  refine ⟨_, _, rfl, HST0.out.1, by simp, fun j hj => ?_, hb0.grown HST0.out.2 hb0.size (fun k hk => by cases hk; exact Nat.le_refl _)⟩
  obtain rfl : j = 0 := by omega
  rw [getD_set _ _ _ _ (by simp), if_pos rfl]

/-- sum.beginnings, of any list. -/
theorem begs_any (ao : Option Addr) (n c : Nat) (bs : List Int) (w : World) (hn : n ≤ 1048576) (hL : Lies w ao n c bs) (hby : ∀ x ∈ bs, By x) :
    Calls Try.prog 27 #[.slice ao n c] w fun e w' => Nums w e w' (n + 1) (fun j => fwd 14695981039346656037 (bs.take j)) := by
  by_cases h0 : 0 < n
  · obtain ⟨b, o, rfl, hc⟩ := hL.at h0
    exact begs_pos b o c n bs w hn hL.hlen hby hc
  · obtain rfl : n = 0 := by omega
    obtain rfl := List.eq_nil_of_length_eq_zero hL.hlen
    refine (begs_zero ao c w).mono ?_
    rintro e w' ⟨g, L, rfl, h1, h2, h3, h4⟩
    exact ⟨g, L, rfl, h1, h2, fun j hj => by rw [h3 j hj]; simp [fwd], h4⟩

set_option maxHeartbeats 800000 in
theorem ends_pos (z : Int) (b o c n : Nat) (bs : List Int) (w : World) (hn : n ≤ 1048576) (hl : bs.length = n) (hby : ∀ x ∈ bs, By x)
    (hc : ∀ t, t < n → w.cell? ⟨b, o + t, none⟩ = some (.int .u8 (bs.getD t 0))) :
    Calls Try.prog 28 #[.slice (some ⟨b, o, none⟩) n c, .int .u64 z] w fun e w' => Nums w e w' (n + 1) (fun j => bwd z (bs.drop j)) := by
  have hni : (n : Int) ≤ 1048576 := by omega
  have hmk := make_nums n hn w
  have hown0 := own_nums w n w.heap.size hn (Nat.le_refl _)
  have hb0 := (Below.refl w.heap.size w).alloc (Nat.le_refl _) (.cells (madeCells #[.int .u64 0] (n + 1)) 22)
  generalize w.alloc (.cells (madeCells #[.int .u64 0] (n + 1)) 22) = w1 at *
  have hst0 := hown0.stored n (.int .u64 z)
  rw [← List.map_set] at hst0
  have HST0 : Hid _ := hst0
  have hfz0 := hown0.frozenAt n
  have hcz := nums_cell hown0 (by simp) n (by omega)
  clear hst0
  go_enter Try.func28, Try.ntmps28
  go_wp2_with (go_at_call 25; refine (inv_any _).mono ?_; rintro e w9 ⟨rfl, hw9⟩; subst w9)
  go_loopw [7] (fun i wr => ∃ (k : Nat) (L : List Int), k ≤ n ∧ i = .int .i64 ((k : Int) - 1) ∧ wr.ownsRow w.heap.size 22 1 (.slice (some ⟨w.heap.size, 0, none⟩) (n + 1) (n + 1)) (n + 1) (L.map (Value.int .u64)) ∧ L.length = n + 1 ∧ (∀ j, k ≤ j → j ≤ n → L.getD j 0 = bwd z (bs.drop j)) ∧ Below w.heap.size w wr) (fun i _ => (intOf i + 1).toNat)
  case atStart =>
    refine ⟨n, _, Nat.le_refl _, rfl, HST0.out.1, by simp, fun j hj hj2 => ?_, hb0.grown HST0.out.2 hb0.size (fun k hk => by cases hk; exact Nat.le_refl _)⟩
    obtain rfl : j = n := by omega
    rw [getD_set _ _ _ _ (by simp), if_pos rfl, ← hl]
    simp [bwd]
  case round =>
    obtain ⟨k, L, hk, rfl, hown, hLl, hL, hb⟩ := hrel
    clear HST0 hfz0 hcz hown0 hb0 hmk
    by_cases hlt : 0 < k
    · obtain ⟨k, rfl⟩ : ∃ j, k = j + 1 := ⟨k - 1, by omega⟩
      have hkn : (k : Int) < n := by omega
      have hi : (((k + 1 : Nat) : Int) - 1) = (k : Int) := by omega
      rw [hi]
      clear hi
      have hkN : k < n := by omega
      have hwk : IntKind.i64.wrap ((k : Int) + 1) = (k : Int) + 1 := by rw [IntKind.wrap_i64]; omega
      have hck := cell_later hb (hc k (by omega))
      have hcL := nums_cell hown hLl (k + 1) (by omega)
      have hcL1 := nums_cell hown hLl k (by omega)
      have hx := by_getD hby (show k < bs.length by omega)
      have hs : bwd z (bs.drop k) = und (L.getD (k + 1) 0) (bs.getD k 0) := by
        rw [drop_getD bs (by omega), hL (k + 1) (Nat.le_refl _) (by omega)]; rfl
      have hfz := hown.frozenAt k
      have hst := hown.stored k (.int .u64 (und (L.getD (k + 1) 0) (bs.getD k 0)))
      rw [← List.map_set] at hst
      have HST : Hid _ := hst
      have HS : Hid _ := hs
      have HLL : Hid (∀ j, k + 1 ≤ j → j ≤ n → L.getD j 0 = bwd z (bs.drop j)) := hL
      clear hst hs hc hby hL
      generalize hg : L.getD (k + 1) 0 = g at *
      generalize bs.getD k 0 = x at *
      generalize L.getD k 0 = g1 at *
      go_wp2_with fail
      go_region_with (go_at_call 26; refine (undo_any _ _ _ hx).mono ?_; rintro e w9 ⟨rfl, hw9⟩; subst w9)
      all_goals
        go_wp2_with fail
        go_roundw
        case rel =>
          refine ⟨k, _, by omega, by go_num, HST.out.1.drew, by simp [hLl], fun j hj hj2 => ?_, (hb.grown HST.out.2 hb.size (fun k hk => by cases hk; exact (hown.lt _ rfl).1)).drew⟩
          rw [getD_set _ _ _ _ (by omega)]
          by_cases h : k = j
          · subst h
            rw [if_pos rfl, HS.out]
          · rw [if_neg h, HLL.out j (by omega) hj2]
        case measure => simp [intOf]
    · have hkn : (k : Int) ≤ 0 := by omega
      clear hc hby
      go_wp2_with fail
      go_ret
      obtain rfl : k = 0 := by omega
      exact ⟨_, L, rfl, hown, hLl, fun j hj => hL j (Nat.zero_le _) (by omega), hb⟩

set_option maxHeartbeats 400000 in
theorem ends_zero (z : Int) (ao : Option Addr) (c : Nat) (w : World) :
    Calls Try.prog 28 #[.slice ao 0 c, .int .u64 z] w fun e w' => Nums w e w' 1 (fun _ => z) := by
  have hmk := make_nums 0 (by omega) w
  have hown0 := own_nums w 0 w.heap.size (by omega) (Nat.le_refl _)
  have hb0 := (Below.refl w.heap.size w).alloc (Nat.le_refl _) (.cells (madeCells #[.int .u64 0] (0 + 1)) 22)
  generalize w.alloc (.cells (madeCells #[.int .u64 0] (0 + 1)) 22) = w1 at *
  simp only [Int.natCast_zero, Int.zero_add, Nat.zero_add] at hmk hown0
  have hst0 := hown0.stored 0 (.int .u64 z)
  rw [← List.map_set] at hst0
  have HST0 : Hid _ := hst0
  have hfz0 := hown0.frozenAt 0
  have hcz := nums_cell hown0 (by simp) 0 (by omega)
  clear hst0
  go_enter Try.func28, Try.ntmps28
  go_wp2_with (go_at_call 25; refine (inv_any _).mono ?_; rintro e w9 ⟨rfl, hw9⟩; subst w9)
  refine wp_loop_rounds 1 ?_
  rw [rounds_succ]
  go_wp2
  go_ret
  refine ⟨_, _, rfl, HST0.out.1, by simp, fun j hj => ?_, hb0.grown HST0.out.2 hb0.size (fun k hk => by cases hk; exact Nat.le_refl _)⟩
  obtain rfl : j = 0 := by omega
  rw [getD_set _ _ _ _ (by simp), if_pos rfl]

/-- sum.ends, of any list. -/
theorem ends_any (z : Int) (ao : Option Addr) (n c : Nat) (bs : List Int) (w : World) (hn : n ≤ 1048576) (hL : Lies w ao n c bs) (hby : ∀ x ∈ bs, By x) :
    Calls Try.prog 28 #[.slice ao n c, .int .u64 z] w fun e w' => Nums w e w' (n + 1) (fun j => bwd z (bs.drop j)) := by
  by_cases h0 : 0 < n
  · obtain ⟨b, o, rfl, hc⟩ := hL.at h0
    exact ends_pos z b o c n bs w hn hL.hlen hby hc
  · obtain rfl : n = 0 := by omega
    obtain rfl := List.eq_nil_of_length_eq_zero hL.hlen
    refine (ends_zero z ao c w).mono ?_
    rintro e w' ⟨g, L, rfl, h1, h2, h3, h4⟩
    exact ⟨g, L, rfl, h1, h2, fun j hj => by rw [h3 j hj]; simp [bwd], h4⟩
end Go.Proofs.Ytnnebmgiifnckab
