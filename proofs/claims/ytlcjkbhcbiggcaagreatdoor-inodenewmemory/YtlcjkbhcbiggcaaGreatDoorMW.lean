/- Lists of inodes that were handed out: whole. -/
import Derived.Test.YtlcjkbhcbiggcaaGreatDoorMA
namespace Go.Proofs.YtlcjkbhcbiggcaaGreatDoor
open Go.RowKit Go.Maps
set_option maxRecDepth 100000
set_option maxHeartbeats 4000000 in
theorem mwhole_any {w : World} {bb : Nat} {kv : Value} {es : List (Value × Nat)} {D : Nat → Prop} (h : Mk w bb kv es D) :
    Calls Tryz.prog 15 #[.pointer (some ⟨bb, 0, none⟩)] w fun e w' => e = .returned (.bool true) ∧ w' = w := by
  have HH : Hid (Mk w bb kv es D) := h
  obtain ⟨La, Lc, hLv⟩ := own_slice9 h.row
  obtain ⟨M, hM⟩ : ∃ M, es.length = M := ⟨_, rfl⟩
  have HM : Hid (es.length = M) := hM
  have hl := h.ln
  rw [hM] at hLv hl
  have HLv : Hid (kv = .slice La M Lc) := hLv
  have c0 : w.cell? ⟨bb, 0, none⟩ = some (.slice La M Lc) := by rw [← hLv]; simp [World.cell?, h.box]
  have b0 : (M : Int) ≤ 1000 := by omega
  clear h hM hLv
  go_enter Tryz.func15, Tryz.ntmps15
  go_wp2_with fail
  go_loopw [3] (fun u wr => ∃ i : Nat, i ≤ M ∧ u = .int .i64 i ∧ wr = w) (fun u _ => M + 1 - (intOf u).toNat)
  case atStart => exact ⟨0, Nat.zero_le _, rfl, rfl⟩
  case round =>
    obtain ⟨i, hi, rfl, rfl⟩ := hrel
    by_cases hlt : i < M
    · obtain ⟨e, he⟩ : ∃ e, es[i]? = some e := ⟨_, List.getElem?_eq_getElem (by rw [HM.out]; exact hlt)⟩
      obtain ⟨o1, _, hn⟩ := HH.out.ent i e he
      have hL := HH.out.row
      rw [HLv.out, HM.out] at hL
      obtain ⟨gL, rfl, hcL⟩ : ∃ gl, La = some ⟨gl, 0, none⟩ ∧ M ≤ Lc := by
        rcases own_shape9 hL with ⟨_, r⟩ | ⟨gl, cap', r, r2, _⟩
        · omega
        · cases r; exact ⟨gl, rfl, r2⟩
      have x0 := (hL.cellAt i (by omega)).trans (show (es.map (·.1))[i]? = some e.1 by simp [he])
      obtain ⟨ea, ec, hev⟩ := own_slice9 o1
      rw [hev] at x0 o1
      obtain ⟨ev, en⟩ := e
      simp only at x0 hn o1
      have a1 : (i : Int) < M := by omega
      have a2 : (0 : Int) ≤ i := by omega
      have a3 : (en : Int) ≤ 4000 := by omega
      have hdv : (i : Int) / 2 = ((i / 2 : Nat) : Int) := by omega
      generalize hq : i / 2 = q at o1 hdv
      have a4 : (q : Int) ≤ 1000 := by omega
      have a5 : (0 : Int) ≤ q := by omega
      clear he hL hq hev
      go_wp2_with fail
      go_loopw [4] (fun u wr' => ∃ j : Nat, j ≤ en ∧ u = .int .i64 j ∧ wr' = wr) (fun u _ => en + 1 - (intOf u).toNat)
      case atStart => exact ⟨0, Nat.zero_le _, rfl, rfl⟩
      case round =>
        obtain ⟨j, hj, rfl, rfl⟩ := hrel
        by_cases hjn : j < en
        · obtain ⟨gE, rfl, hcE⟩ : ∃ gl, ea = some ⟨gl, 0, none⟩ ∧ en ≤ ec := by
            rcases own_shape9 o1 with ⟨_, r⟩ | ⟨gl, cap', r, r2, _⟩
            · omega
            · cases r; exact ⟨gl, rfl, r2⟩
          have z0 := (own_in (ls := List.replicate en (mrkI (-1 - (q : Int)))) o1 (by simp) (j := j) (x := mrkI (-1 - (q : Int))) (by rw [List.getElem?_replicate, if_pos hjn])).c0
          simp only [mrkI] at z0
          have d1 : (j : Int) < en := by omega
          have d2 : (0 : Int) ≤ j := by omega
          go_wp2_with fail
          exact ⟨⟨j + 1, by omega, rfl, trivial⟩, by simp [intOf]; omega⟩
        · go_wp2_with fail
          exact ⟨⟨i + 1, by omega, rfl, trivial⟩, by simp [intOf]; omega⟩
    · go_wp2_with fail
      go_ret
      exact ⟨rfl, rfl⟩
end Go.Proofs.YtlcjkbhcbiggcaaGreatDoor
