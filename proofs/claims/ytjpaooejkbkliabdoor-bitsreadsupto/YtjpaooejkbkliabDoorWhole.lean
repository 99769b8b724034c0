/- Book.whole by its contract. -/
import Derived.Test.YtjpaooejkbkliabDoorKeep
import Derived.Deep.QuietTactic
import Derived.BigQuiet
namespace Go.Proofs.YtjpaooejkbkliabDoor
open Go.RowKit
set_option maxRecDepth 100000

theorem below_drewM {b : Nat} {a w : World} (h : Below b a w) (m : Nat) : Below b a (w.drewN m) := ⟨h.os, h.tape, h.output, h.size, h.block⟩

set_option maxHeartbeats 1000000 in
theorem whole_any (base bk : Nat) (B : Nat → Prop) (es : List Ent) (w : World) (hB : Bk w base bk B es) (hes : es.length ≤ 300000000) (hen : ∀ e ∈ es, e.len ≤ 1000000100) :
    Calls Tryd.prog 10 #[.pointer (some ⟨bk, 0, none⟩)] w fun e w' => e = .returned (.bool true) ∧ Below w.heap.size w w' := by
  obtain ⟨⟨vL, vN, hbox, hL, hN, hBL, hBN⟩, hbk, hlies, hmine⟩ := hB
  obtain ⟨aL, cL, rfl⟩ := own_val hL
  obtain ⟨aN, cN, rfl⟩ := own_val hN
  have hesi : (es.length : Int) ≤ 300000000 := by omega
  have b0 : w.cell? ⟨bk, 0, none⟩ = some (.slice aL es.length cL) := (cell_of_row w bk 0 _ _ (0, 0) hbox).trans rfl
  have b1 : w.cell? ⟨bk, 1, none⟩ = some (.slice aN es.length cN) := (cell_of_row w bk 1 _ _ (0, 0) hbox).trans rfl
  go_enter Tryd.func10, Tryd.ntmps10
  go_wp2_with fail
  go_loopw [3] (fun i wr => ∃ k : Nat, k ≤ es.length ∧ i = .int .i64 k ∧ Below w.heap.size w wr) (fun i _ => es.length - (intOf i).toNat)
  case atStart => exact ⟨0, Nat.zero_le _, rfl, Below.refl _ _⟩
  case round =>
    obtain ⟨k, hk, rfl, hb⟩ := hrel
    have c0 := cell_later hb b0
    have c1 := cell_later hb b1
    by_cases hlt : k < es.length
    · have hki : (k : Int) < es.length := by omega
      obtain ⟨gL, rfl⟩ : ∃ g, aL = some ⟨g, 0, none⟩ := by
        rcases hL.2 with ⟨_, h0⟩ | ⟨g, c, cur, hv, _⟩
        · omega
        · cases hv; exact ⟨g, rfl⟩
      obtain ⟨gN, rfl⟩ : ∃ g, aN = some ⟨g, 0, none⟩ := by
        rcases hN.2 with ⟨_, h0⟩ | ⟨g, c, cur, hv, _⟩
        · omega
        · cases hv; exact ⟨g, rfl⟩
      obtain ⟨x, hx⟩ : ∃ x, x = es[k] := ⟨_, rfl⟩
      have l0w' : w.cell? ⟨gL, k, none⟩ = some (.slice x.ao x.len x.cap) := by rw [hL.cellAt k (by omega), List.getElem?_map, List.getElem?_eq_getElem hlt, ← hx]; rfl
      have l0 : wr.cell? ⟨gL, k, none⟩ = some (.slice x.ao x.len x.cap) := cell_later hb l0w'
      have n0 : wr.cell? ⟨gN, k, none⟩ = some (.int .i64 x.len) := cell_later hb (by rw [hN.cellAt k (by omega), List.getElem?_map, List.getElem?_eq_getElem hlt, ← hx]; rfl)
      have hx0 := hlies k hlt
      rw [← hx] at hx0
      have hxl := hen x (by rw [hx]; exact List.getElem_mem _)
      have hxli : (x.len : Int) ≤ 1000000100 := by omega
      clear hx
      go_wp2_with fail
      go_quiet (fail)
      go_wp2_with fail
      go_loopw [4] (fun j wr => ∃ q : Nat, q ≤ x.len ∧ j = .int .i64 q ∧ Below w.heap.size w wr) (fun j _ => x.len - (intOf j).toNat)
      case atStart => exact ⟨0, Nat.zero_le _, rfl, below_drewM hb _⟩
      case round =>
        clear c0 c1 l0 n0 hb
        obtain ⟨q, hq, rfl, hb⟩ := hrel
        have c0 := cell_later hb b0
        have c1 := cell_later hb b1
        have l0 := cell_later hb l0w'
        by_cases hqt : q < x.len
        · have hqi : (q : Int) < x.len := by omega
          obtain ⟨xb, xo, hao, hxc⟩ := hx0.at (by omega)
          rw [hao] at l0
          have m0 : wr.cell? ⟨xb, xo + q, none⟩ = some (.int .u8 (markI (k / 3) q)) := cell_later hb (by
            rw [hxc q hqt]
            simp [marks, List.getD, hqt])
          have hM := fun W => mark56 (k / 3) q W (by omega) (by omega)
          have hkc : ((k / 3 : Nat) : Int) = (k : Int) / 3 := by omega
          rw [hkc] at hM
          go_wp2_with fail
          go_quiet ((go_at_call 32; exact Calls.quiet_of_same (hM _)))
          go_wp2
          go_roundw
          case rel => exact ⟨q + 1, by omega, by go_num, below_drewM hb _⟩
          case measure => simp [intOf]; omega
        · have hqi : ¬ (q : Int) < x.len := by omega
          go_wp2
          go_roundw
          case rel => exact ⟨k + 1, by omega, by go_num, hb⟩
          case measure => simp [intOf]; omega
    · have hki : ¬ (k : Int) < es.length := by omega
      go_wp2
      go_ret
      exact ⟨rfl, hb⟩
end Go.Proofs.YtjpaooejkbkliabDoor
