/- The document's own Puts (annexref1) by their contracts; annexlaw1.room. -/
import Derived.Test.YtjpaooejkbkliaaDoorJoin
import Derived.Laws.OwnMore
namespace Go.Proofs.YtjpaooejkbkliaaDoor
open Go.RowKit
set_option maxRecDepth 100000

set_option maxHeartbeats 400000 in
theorem zeros63 (n : Nat) (w : World) (h0 : 0 < n) (hn : n ≤ 8) :
    Calls Tryd.prog 63 #[.int .i64 n] w fun e w' => Made w e w' n (List.replicate n 0) := by
  obtain ⟨i0, hi, hz0, hz1, hz2⟩ := info_parts Tryd.info5
  have hni : (n : Int) ≤ 8 := by omega
  go_enter Tryd.func63, Tryd.ntmps63
  go_wp2
  go_loopw [3, 4] (fun v i wr => ∃ k : Nat, k ≤ n ∧ i = .int .i64 k ∧ wr.ownsRow w.heap.size 5 1 v k ((List.replicate k (0 : Int)).map (Value.int .u8)) ∧ Below w.heap.size w wr) (fun _ i _ => n - (intOf i).toNat)
  case atStart => exact ⟨0, Nat.zero_le _, rfl, World.ownsRow_nil _ _ _ _, Below.refl _ _⟩
  case round =>
    obtain ⟨k, hk, rfl, hown, hb⟩ := hrel
    by_cases hlt : k < n
    · go_wp2_with (at_builtin; refine wpList_append_own _ rfl (.tmp 10) (.tmp 11) 24 rfl w.heap.size 5 i0 (.int .u8 0) 1 1 Tryd.underlying24 hi hz0 hz1 hz2 rfl (by decide) _ _ _ rfl (hown.alloc _) ⟨wr.heap.size, 0, none⟩ 1 1 [.int .u8 0] rfl rfl (cell_one_new _ _ _) (by intro u hu; simp at hu; subst hu; rfl) (by unfold maxLen; omega) (by omega) (by have := hb.size; simp; omega) ?_; intro v' w1 hown1 hgrow1 hnil1)
      go_roundw
      case rel =>
        refine ⟨k + 1, by omega, by go_num, ?_, ?_⟩
        · rw [List.replicate_succ', List.map_append]; simpa using hown1
        · exact (hb.alloc hb.size _).grown hgrow1 (by simp; have := hb.size; omega) (fun k hk => (hown.lt k hk).1)
      case measure => simp [intOf]; omega
    · go_wp2
      go_ret
      obtain rfl : k = n := by omega
      rcases hown.2 with ⟨hv, hn0⟩ | ⟨g, cap, cur, hv, r⟩
      · omega
      · subst hv
        exact ⟨g, cap, rfl, hown, hb⟩

theorem set_digit (X : Int) (m n : Nat) (d : Int) : ((List.replicate (m + 1) (0 : Int) ++ be X n).map (Value.int .u8)).set m (.int .u8 d) = ((List.replicate m (0 : Int) ++ d :: be X n).map (Value.int .u8)) := by
  rw [List.replicate_succ', List.append_assoc, List.map_append, List.map_append, List.set_append_right _ _ (by simp)]
  simp

set_option maxHeartbeats 400000 in
theorem digits61 (X : Int) (n : Nat) (w : World) (h0 : 0 < n) (hn : n ≤ 8) (hX0 : 0 ≤ X) (hX1 : X ≤ 18446744073709551615) :
    Calls Tryd.prog 61 #[.int .u64 X, .int .i64 n] w fun e w' => Made w e w' n (be X n) := by
  have hni : (n : Int) ≤ 8 := by omega
  have hni0 : (0 : Int) < n := by omega
  go_enter Tryd.func61, Tryd.ntmps61
  go_wp2_with (go_at_call 63; refine (zeros63 n _ h0 hn).mono ?_; rintro e w1 ⟨g, c, rfl, ho1, hb1⟩)
  go_loopw [0, 6] (fun x i wr => ∃ (m : Nat) (Y : Int), m ≤ n ∧ i = .int .i64 ((m : Int) - 1) ∧ x = .int .u64 Y ∧ 0 ≤ Y ∧ Y ≤ 18446744073709551615 ∧ Y = X / 2 ^ (8 * (n - m)) ∧ wr.ownsRow w.heap.size 5 1 (.slice (some ⟨g, 0, none⟩) n c) n ((List.replicate m (0 : Int) ++ be X (n - m)).map (Value.int .u8)) ∧ Below w.heap.size w wr) (fun _ i _ => (intOf i + 1).toNat)
  case atStart => exact ⟨n, X, Nat.le_refl _, by go_num, rfl, hX0, hX1, by simp, by simpa [be] using ho1, hb1⟩
  case round =>
    obtain ⟨m, Y, hm, rfl, rfl, hY0, hY1, hY, hown, hb⟩ := hrel
    clear ho1 hb1
    by_cases hm0 : 0 < m
    · obtain ⟨m, rfl⟩ : ∃ k, m = k + 1 := ⟨m - 1, by omega⟩
      have hmi : (0 : Int) ≤ m := by omega
      have hmn : (m : Int) < n := by omega
      have hnat : m < n := by omega
      have hcell := hown.cellAt m (by omega)
      have hcell' : wr.cell? ⟨g, m, none⟩ = some (.int .u8 0) := by
        rw [hcell, List.getElem?_map, List.getElem?_append_left (by simp)]
        simp
      have hfz := hown.frozenAt m
      have hst := hown.stored m (.int .u8 (Y % 256))
      rw [set_digit] at hst
      have hq : Y / 256 = X / 2 ^ (8 * (n - m)) := by
        have e1 : 8 * (n - m) = 8 * (n - (m + 1)) + 8 := by omega
        rw [hY, e1, Int.pow_add, ← Int.ediv_ediv_of_nonneg (Int.pow_nonneg (by decide))]
        rfl
      have hd : Y % 256 :: be X (n - (m + 1)) = be X (n - m) := by
        have e1 : n - m = (n - (m + 1)) + 1 := by omega
        rw [e1, be, hY]
      have HQ : Hid (Y / 256 = X / 2 ^ (8 * (n - m)) ∧ Y % 256 :: be X (n - (m + 1)) = be X (n - m)) := ⟨hq, hd⟩
      have HST : Hid _ := hst
      clear hq hd hY hst hcell
      go_wp2
      go_roundw
      case rel =>
        refine ⟨m, Y / 256, by omega, by go_num, ?_, by omega, by omega, HQ.out.1, ?_, ?_⟩
        · go_num
        · rw [← HQ.out.2]; exact HST.out.1
        · exact hb.grown HST.out.2 hb.size (fun k hk => by cases hk; exact (hown.lt g rfl).1)
      case measure => simp [intOf]
    · have hm1 : (m : Int) ≤ 0 := by omega
      clear hY
      go_wp2
      go_ret
      obtain rfl : m = 0 := by omega
      exact ⟨g, c, rfl, by simpa using hown, hb⟩
end Go.Proofs.YtjpaooejkbkliaaDoor
