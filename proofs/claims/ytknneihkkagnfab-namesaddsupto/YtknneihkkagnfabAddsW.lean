/- annexlaw3.NamesAdds by its walk. -/
import Derived.Test.YtknneihkkagnfabRAdd
import Derived.Test.YtknneihkkagnfabRParent
import Derived.Test.YtknneihkkagnfabRUnder
namespace Go.Proofs.Ytknneihkkagnfab
open Go.RowKit
set_option maxRecDepth 100000

set_option maxHeartbeats 2000000 in
theorem adds_any (ao : Option Addr) (n c : Nat) (xs : List ByteArray) (w : World) (hn : n ≤ 1048576) (hL : Lies w ao n c xs) (hs : ∀ x, x ∈ xs → x.size ≤ 1048576) :
    Calls Try.prog 5 #[.slice ao n c] w fun e w' => e = .returned (.bool true) ∧ Below w.heap.size w w' := by
  have hni : (n : Int) ≤ 1048576 := by omega
  have HS : Hid (∀ x, x ∈ xs → x.size ≤ 1048576) := ⟨hs⟩
  clear hs
  go_enter Try.func5, Try.ntmps5
  go_wp2_with fail
  refine (first_any w).mono ?_
  rintro e w1 ⟨rfl, hb1⟩
  go_wp2
  go_loopw [4] (fun i wr => ∃ k : Nat, k ≤ n ∧ i = .int .i64 k ∧ Below w.heap.size w wr) (fun i _ => n - (intOf i).toNat)
  case atStart => exact ⟨0, Nat.zero_le _, rfl, hb1⟩
  case round =>
    obtain ⟨k, hk, rfl, hbl⟩ := hrel
    by_cases hlt : k < n
    · have hk' : k < xs.length := by rw [hL.hlen]; exact hlt
      obtain ⟨b, o, rfl, hbw, hcell⟩ := hL.at (by omega)
      have hc := (hbl.cell (p := ⟨b, o + k, none⟩) hbw).trans (hcell k hk')
      have hxs := HS.out _ (List.getElem_mem hk')
      have hlenx := hL.hlen
      have HC : Hid (∀ j (hj : j < xs.length), w.cell? ⟨b, o + j, none⟩ = some (.string xs[j])) := ⟨hcell⟩
      have hck := hcell k hk'
      clear hL hcell
      generalize xs[k] = x at hc hxs hck
      go_wp2_with fail
      refine (parent_any _ _ (by omega)).mono ?_
      rintro e w2 ⟨rfl, hb2⟩
      have hb12 := hbl.trans (hb2.mono hbl.size)
      have hc2 := (hb12.cell (p := ⟨b, o + k, none⟩) hbw).trans hck
      clear hc
      go_wp2_with fail
      refine (rparent_any _ _ hxs).mono ?_
      rintro e w3 ⟨rfl, hb3⟩
      have hb13 := hb12.trans (hb3.mono hb12.size)
      clear hc2 hb2 hb3 hb12
      generalize parentT (bs x) = T
      generalize parentN (bs x) = N
      generalize parentE (bs x) = E
      go_wp2_with (first | (go_at_call 10; refine (num_any _ _).mono ?_; rintro e w' ⟨rfl, rfl⟩))
      go_loopw [11] (fun i wr => ∃ j : Nat, j ≤ n ∧ i = .int .i64 j ∧ Below w.heap.size w wr) (fun i _ => n - (intOf i).toNat)
      case atStart => exact ⟨0, Nat.zero_le _, rfl, hb13⟩
      case round =>
        obtain ⟨j, hj, rfl, hbj⟩ := hrel
        by_cases hgo : j < n ∧ j < 20
        · obtain ⟨hjn, hj20⟩ := hgo
          have hji : (j : Int) < 20 := by omega
          have hj' : j < xs.length := by omega
          have hcj := HC.out j hj'
          have hys := HS.out _ (List.getElem_mem hj')
          generalize xs[j] = y at hcj hys
          go_wp2_with fail
          have c1 : (wr.drew).cell? ⟨b, o + k, none⟩ = some (.string x) := (hbj.cell (p := ⟨b, o + k, none⟩) hbw).trans hck
          have d1 : (wr.drew).cell? ⟨b, o + j, none⟩ = some (.string y) := (hbj.cell (p := ⟨b, o + j, none⟩) hbw).trans hcj
          go_region_held3 (fun w' => w'.cell? ⟨b, o + k, none⟩ = some (.string x) ∧ w'.cell? ⟨b, o + j, none⟩ = some (.string y))
            (first | exact ⟨c1, d1⟩ | exact ⟨p1, q1⟩)
            (first | (go_at_call 16; refine (add_any _ _ _ (by omega)).mono ?_; rintro e w4 ⟨rfl, hb4⟩; have p1 : w4.cell? ⟨b, o + k, none⟩ = some (.string x) := (hb4.cell (p := ⟨b, o + k, none⟩) (Nat.lt_of_lt_of_le hbw hbj.size)).trans c1; have q1 : w4.cell? ⟨b, o + j, none⟩ = some (.string y) := (hb4.cell (p := ⟨b, o + j, none⟩) (Nat.lt_of_lt_of_le hbw hbj.size)).trans d1))
          have hB1 := hbj.trans ((Below.drew_trans hb4).mono hbj.size)
          clear c1 d1 p1 q1 hb4
          go_wp2_with fail
          have c2 : (w4.drew).cell? ⟨b, o + k, none⟩ = some (.string x) := (hB1.cell (p := ⟨b, o + k, none⟩) hbw).trans hck
          have d2 : (w4.drew).cell? ⟨b, o + j, none⟩ = some (.string y) := (hB1.cell (p := ⟨b, o + j, none⟩) hbw).trans hcj
          go_region_held3 (fun w' => w'.cell? ⟨b, o + k, none⟩ = some (.string x) ∧ w'.cell? ⟨b, o + j, none⟩ = some (.string y))
            (first | exact ⟨c2, d2⟩ | exact ⟨p2, q2⟩)
            (first | (go_at_call 17; refine (radd_any _ _ _ hxs).mono ?_; rintro e w5 ⟨rfl, hb5⟩; have p2 : w5.cell? ⟨b, o + k, none⟩ = some (.string x) := (hb5.cell (p := ⟨b, o + k, none⟩) (Nat.lt_of_lt_of_le hbw hB1.size)).trans c2; have q2 : w5.cell? ⟨b, o + j, none⟩ = some (.string y) := (hb5.cell (p := ⟨b, o + j, none⟩) (Nat.lt_of_lt_of_le hbw hB1.size)).trans d2))
          have hB2 := hB1.trans ((Below.drew_trans hb5).mono hB1.size)
          clear c2 d2 p2 q2 hb5
          generalize addT (bs x) (bs y) = T2
          generalize addE (bs x) (bs y) = E2
          go_wp2_with fail
          have c3 : (w5.drew).cell? ⟨b, o + k, none⟩ = some (.string x) := (hB2.cell (p := ⟨b, o + k, none⟩) hbw).trans hck
          have d3 : (w5.drew).cell? ⟨b, o + j, none⟩ = some (.string y) := (hB2.cell (p := ⟨b, o + j, none⟩) hbw).trans hcj
          go_region_held3 (fun w' => w'.cell? ⟨b, o + k, none⟩ = some (.string x) ∧ w'.cell? ⟨b, o + j, none⟩ = some (.string y))
            (first | exact ⟨c3, d3⟩ | exact ⟨p3, q3⟩)
            (first | (go_at_call 18; refine (under_any _ _ _ (by omega) (by omega)).mono ?_; rintro e w6 ⟨rfl, hb6⟩; have p3 : w6.cell? ⟨b, o + k, none⟩ = some (.string x) := (hb6.cell (p := ⟨b, o + k, none⟩) (Nat.lt_of_lt_of_le hbw hB2.size)).trans c3; have q3 : w6.cell? ⟨b, o + j, none⟩ = some (.string y) := (hb6.cell (p := ⟨b, o + j, none⟩) (Nat.lt_of_lt_of_le hbw hB2.size)).trans d3))
          have hB3 := hB2.trans ((Below.drew_trans hb6).mono hB2.size)
          clear c3 d3 p3 q3 hb6
          go_wp2_with fail
          have c4 : (w6.drew).cell? ⟨b, o + k, none⟩ = some (.string x) := (hB3.cell (p := ⟨b, o + k, none⟩) hbw).trans hck
          have d4 : (w6.drew).cell? ⟨b, o + j, none⟩ = some (.string y) := (hB3.cell (p := ⟨b, o + j, none⟩) hbw).trans hcj
          go_region_held3 (fun w' => w'.cell? ⟨b, o + k, none⟩ = some (.string x) ∧ w'.cell? ⟨b, o + j, none⟩ = some (.string y))
            (first | exact ⟨c4, d4⟩ | exact ⟨p4, q4⟩)
            (first | (go_at_call 19; refine (runder_any _ _ _ hxs hys).mono ?_; rintro e w7 ⟨rfl, hb7⟩; have p4 : w7.cell? ⟨b, o + k, none⟩ = some (.string x) := (hb7.cell (p := ⟨b, o + k, none⟩) (Nat.lt_of_lt_of_le hbw hB3.size)).trans c4; have q4 : w7.cell? ⟨b, o + j, none⟩ = some (.string y) := (hb7.cell (p := ⟨b, o + j, none⟩) (Nat.lt_of_lt_of_le hbw hB3.size)).trans d4))
          have hB4 := hB3.trans ((Below.drew_trans hb7).mono hB3.size)
          clear c4 d4 p4 q4 hb7
          generalize underB (bs x) (bs y) = U
          go_wp2_with (first | (go_at_call 10; refine (num_any _ _).mono ?_; rintro e w' ⟨rfl, rfl⟩))
          go_roundw
          case rel => exact ⟨j + 1, by omega, by go_num, hB4⟩
          case measure => simp [intOf]; omega
        · have hway : ¬ j < n ∨ (j < n ∧ ¬ (j : Int) < 20) := by omega
          rcases hway with hway | ⟨hway, hway2⟩
          all_goals
            go_wp2
            go_roundw
            case rel => exact ⟨k + 1, by omega, by go_num, hbj⟩
            case measure => simp [intOf]; omega
    · clear hL
      go_wp2
      go_ret
      exact ⟨rfl, hbl⟩
end Go.Proofs.Ytknneihkkagnfab
