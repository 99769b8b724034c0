/- (*book).whole by its contract. -/
import Derived.Test.YtgpeefedboomoabDoorNKeep
namespace Go.Proofs.YtgpeefedboomoabDoor
open Go.RowKit
set_option maxRecDepth 100000

theorem rep_get (n q : Nat) (m : Int) (h : q < n) : (List.replicate n m).getD q 0 = m := by simp [List.getD, h]

set_option maxHeartbeats 1000000 in
theorem whole_any (base bk : Nat) (B : Nat → Prop) (es : List Ent) (w : World) (hB : Bk w base bk B es) (hes : es.length ≤ 1000) (hen : ∀ e ∈ es, e.len ≤ 1000) :
    Calls Tryd.prog 12 #[.pointer (some ⟨bk, 0, none⟩)] w fun e w' => e = .returned (.bool true) ∧ Below w.heap.size w w' := by
  obtain ⟨⟨vL, vM, hbox, hL, hM, _, _⟩, hbk, hlies⟩ := hB
  obtain ⟨aL, cL, rfl⟩ := own_val hL
  obtain ⟨aM, cM, rfl⟩ := own_val hM
  have hesi : (es.length : Int) ≤ 1000 := by omega
  have b0 : w.cell? ⟨bk, 0, none⟩ = some (.slice aL es.length cL) := (cell_of_row w bk 0 _ _ (0, 0) hbox).trans rfl
  have b1 : w.cell? ⟨bk, 1, none⟩ = some (.slice aM es.length cM) := (cell_of_row w bk 1 _ _ (0, 0) hbox).trans rfl
  go_enter Tryd.func12, Tryd.ntmps12
  go_wp2_with fail
  go_loopw [3] (fun i wr => ∃ k : Nat, k ≤ es.length ∧ i = .int .i64 k ∧ Below w.heap.size w wr) (fun i _ => es.length - (intOf i).toNat)
  case atStart => exact ⟨0, Nat.zero_le _, rfl, Below.refl _ _⟩
  case round =>
    obtain ⟨k, hk, rfl, hb⟩ := hrel
    have c0 := cell_later hb b0
    have c1 := cell_later hb b1
    by_cases hlt : k < es.length
    · have hki : (k : Int) < es.length := by omega
      obtain ⟨gL, rfl⟩ : ∃ g, aL = some ⟨g, 0, none⟩ := by
        rcases hL.2 with ⟨_, h0⟩ | ⟨g, c, cur, hv, _⟩
        · omega
        · cases hv; exact ⟨g, rfl⟩
      obtain ⟨gM, rfl⟩ : ∃ g, aM = some ⟨g, 0, none⟩ := by
        rcases hM.2 with ⟨_, h0⟩ | ⟨g, c, cur, hv, _⟩
        · omega
        · cases hv; exact ⟨g, rfl⟩
      obtain ⟨x, hx⟩ : ∃ x, x = es[k] := ⟨_, rfl⟩
      have l0w : w.cell? ⟨gL, k, none⟩ = some (.slice x.ao x.len x.cap) := by rw [hL.cellAt k (by omega), List.getElem?_map, List.getElem?_eq_getElem hlt, ← hx]; rfl
      have l0 := cell_later hb l0w
      have n0w : w.cell? ⟨gM, k, none⟩ = some (.int .u8 x.mark) := by rw [hM.cellAt k (by omega), List.getElem?_map, List.getElem?_eq_getElem hlt, ← hx]; rfl
      have hx0 : Lies w x.ao x.len x.cap (List.replicate x.len x.mark) := Lies.owned (hlies x (by rw [hx]; exact List.getElem_mem _)).1
      have hxl := hen x (by rw [hx]; exact List.getElem_mem _)
      have hxli : (x.len : Int) ≤ 1000 := by omega
      clear hx
      go_wp2_with fail
      go_loopw [4] (fun j wr => ∃ q : Nat, q ≤ x.len ∧ j = .int .i64 q ∧ Below w.heap.size w wr) (fun j _ => x.len - (intOf j).toNat)
      case atStart => exact ⟨0, Nat.zero_le _, rfl, hb⟩
      case round =>
        clear c0 c1 l0 hb
        obtain ⟨q, hq, rfl, hb⟩ := hrel
        have c0 := cell_later hb b0
        have c1 := cell_later hb b1
        have l0 := cell_later hb l0w
        have n0 := cell_later hb n0w
        by_cases hqt : q < x.len
        · have hqi : (q : Int) < x.len := by omega
          obtain ⟨xb, xo, hao, hxc⟩ := hx0.at (by omega)
          rw [hao] at l0
          have m0w := hxc q hqt
          rw [rep_get _ _ _ hqt] at m0w
          have m0 := cell_later hb m0w
          clear hxc
          go_wp2_with fail
          go_quiet (fail)
          go_wp2
          go_roundw
          case rel => exact ⟨q + 1, by omega, by go_num, below_drewN hb _⟩
          case measure => simp [intOf]; omega
        · have hqi : ¬ (q : Int) < x.len := by omega
          go_wp2
          go_roundw
          case rel => exact ⟨k + 1, by omega, by go_num, hb⟩
          case measure => simp [intOf]; omega
    · have hki : ¬ (k : Int) < es.length := by omega
      go_wp2
      go_ret
      exact ⟨rfl, hb⟩
end Go.Proofs.YtgpeefedboomoabDoor
