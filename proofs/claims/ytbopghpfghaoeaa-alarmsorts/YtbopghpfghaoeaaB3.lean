/- The book of lists that were handed out: whole, by its contract. -/
import Derived.Test.YtbopghpfghaoeaaB1
import Derived.BigQuiet
import Derived.Deep.QuietTactic
namespace Go.Proofs.Ytbopghpfghaoeaa
open Go.RowKit Go.Maps
set_option maxRecDepth 100000
attribute [local go_sem ↓] Go.wp_at_zero Go.wp_at_succ
set_option maxHeartbeats 4000000 in
theorem whole_any {w : World} {lab : Nat → Nat} {kb : Nat} {es : List Ke} (h : Bw w lab kb es) :
    Calls Try.prog 36 #[.pointer (some ⟨kb, 0, none⟩)] w fun e w' => e = .returned (.bool true) ∧ ∃ m, w' = w.drewN m := by
  obtain ⟨Lv, Nv, h⟩ := h
  have HH : Hid (Bo w lab kb Lv Nv es) := h
  obtain ⟨La, Lc, hLv⟩ := own_slice h.rowL
  obtain ⟨Na, Nc, hNv⟩ := own_slice h.rowN
  obtain ⟨M, hM⟩ : ∃ M, es.length = M := ⟨_, rfl⟩
  have HM : Hid (es.length = M) := hM
  have hl := h.hl
  rw [hM] at hLv hNv hl
  have HLv : Hid (Lv = .slice La M Lc) := hLv
  have HNv : Hid (Nv = .slice Na M Nc) := hNv
  have c0 : w.cell? ⟨kb, 0, none⟩ = some (.slice La M Lc) := by rw [← hLv]; simp [World.cell?, h.box]
  have c1 : w.cell? ⟨kb, 1, none⟩ = some (.slice Na M Nc) := by rw [← hNv]; simp [World.cell?, h.box]
  have b0 : (M : Int) ≤ 4000000 := by omega
  clear h hM hLv hNv
  go_enter Try.func36, Try.ntmps36
  go_wp2_with fail
  go_loopw [3] (fun u wr => ∃ i m : Nat, i ≤ M ∧ u = .int .i64 i ∧ wr = w.drewN m) (fun u _ => M + 1 - (intOf u).toNat)
  case atStart => exact ⟨0, 0, Nat.zero_le _, rfl, rfl⟩
  case round =>
    obtain ⟨i, m, hi, rfl, rfl⟩ := hrel
    by_cases hlt : i < M
    · obtain ⟨e, he⟩ : ∃ e, es[i]? = some e := ⟨_, List.getElem?_eq_getElem (by rw [HM.out]; exact hlt)⟩
      obtain ⟨o1, _, hn⟩ := HH.out.ent i e he
      have hL := HH.out.rowL
      have hN := HH.out.rowN
      rw [HLv.out, HM.out] at hL
      rw [HNv.out, HM.out] at hN
      obtain ⟨gL, rfl, hcL⟩ : ∃ gl, La = some ⟨gl, 0, none⟩ ∧ M ≤ Lc := by
        rcases own_shape hL with ⟨_, r⟩ | ⟨gl, cap', r, r2, _⟩
        · omega
        · cases r; exact ⟨gl, rfl, r2⟩
      obtain ⟨gN, rfl, hcN⟩ : ∃ gl, Na = some ⟨gl, 0, none⟩ ∧ M ≤ Nc := by
        rcases own_shape hN with ⟨_, r⟩ | ⟨gl, cap', r, r2, _⟩
        · omega
        · cases r; exact ⟨gl, rfl, r2⟩
      have x0 : w.cell? ⟨gL, i, none⟩ = some e.v := (hL.cellAt i (by omega)).trans (by simp [he])
      have y0 : w.cell? ⟨gN, i, none⟩ = some (.int .i64 e.n) := (hN.cellAt i (by omega)).trans (by simp [he])
      obtain ⟨ea, ec, hev⟩ := own_slice o1
      rw [hev] at x0 o1
      obtain ⟨ev, en⟩ := e
      simp only at x0 y0 hn o1
      have a1 : (i : Int) < M := by omega
      have a2 : (0 : Int) ≤ i := by omega
      have a3 : (en : Int) ≤ 4000000 := by omega
      have hdv : (i : Int) / 3 = ((i / 3 : Nat) : Int) := by omega
      have hcLi : (M : Int) ≤ Lc := by omega
      have hcNi : (M : Int) ≤ Nc := by omega
      generalize hq : i / 3 = q at o1 hdv
      have a4 : (q : Int) ≤ 4000000 := by omega
      clear he hL hN hq hev
      go_wp2_with fail
      go_quiet (fail)
      go_wp2_with fail
      go_loopw [4] (fun u wr => ∃ j m : Nat, j ≤ en ∧ u = .int .i64 j ∧ wr = w.drewN m) (fun u _ => en + 1 - (intOf u).toNat)
      case atStart => exact ⟨0, m + nq, Nat.zero_le _, rfl, by first | rfl | simp⟩
      case round =>
        obtain ⟨j, m', hj, rfl, rfl⟩ := hrel
        by_cases hjn : j < en
        · obtain ⟨gE, rfl, hcE⟩ : ∃ gl, ea = some ⟨gl, 0, none⟩ ∧ en ≤ ec := by
            rcases own_shape o1 with ⟨_, r⟩ | ⟨gl, cap', r, r2, _⟩
            · omega
            · cases r; exact ⟨gl, rfl, r2⟩
          have z0 := o1.cellAt j (by omega)
          rw [List.getElem?_replicate, if_pos hjn] at z0
          have d1 : (j : Int) < en := by omega
          have d2 : (0 : Int) ≤ j := by omega
          go_wp2_with fail
          go_roundw
          case rel => exact ⟨j + 1, m', by omega, by go_num, rfl⟩
          case measure => simp [intOf]; omega
        · go_wp2_with fail
          go_roundw
          case rel => exact ⟨i + 1, m', by omega, by go_num, rfl⟩
          case measure => simp [intOf]; omega
    · go_wp2_with fail
      go_ret
      exact ⟨rfl, m, rfl⟩
end Go.Proofs.Ytbopghpfghaoeaa
