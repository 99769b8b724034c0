/- Flush, Crash by their contracts. -/
import Derived.Test.YtejfbjjhnhlagaaDH
namespace Go.Proofs.Ytejfbjjhnhlagaa
open Go.RowKit Go.Maps
open Go.MuLone
set_option maxRecDepth 100000

/-- The writes that pend, cell by cell. -/
theorem DevX.pending {w : World} {db : Nat} {st : Int} {S : DevS} {k N gl bm : Nat} {q : Int} {pa : Option Addr} {L pcp : Nat} {gs : List Nat} {Dm : DataW Value} (h : DevX w db st S k N gl bm q (.slice pa L pcp) gs Dm) {j : Nat} (hj : j < S.pend.length) :
    ∃ pg g p, pa = some ⟨pg, 0, none⟩ ∧ S.pend[j]? = some p ∧ gs[j]? = some g ∧ p.1 < k ∧ p.2.length = 512 ∧ (∀ x ∈ p.2, 0 ≤ x ∧ x ≤ 255) ∧ w.cell? ⟨pg, j * 2, none⟩ = some (.int .i64 p.1) ∧ w.cell? ⟨pg, j * 2 + 1, none⟩ = some (hv g) ∧ w.heap[g]? = some (bl p.2) := by
  have hp : S.pend[j]? = some S.pend[j] := List.getElem?_eq_getElem hj
  have hgj : gs[j]? = some (gs[j]'(by rw [h.gsl]; exact hj)) := List.getElem?_eq_getElem _
  obtain ⟨e1, e2⟩ := pc_at _ _ j _ _ hp hgj
  have hpm := h.good.pend _ (List.mem_of_getElem? hp)
  have hrow := h.row
  rcases hrow.2 with ⟨_, h0⟩ | ⟨pg, cap, cur, hv', _, hb, _⟩
  · omega
  · cases hv'
    refine ⟨pg, _, _, rfl, hp, hgj, hpm.1, hpm.2.1, hpm.2.2, ?_, ?_, h.dat j _ _ hp hgj⟩
    · rw [hrow.cellAt (j * 2) (by omega)]; exact e1
    · rw [hrow.cellAt (j * 2 + 1) (by omega)]; exact e2
theorem layAll_take (l : List Int) (ps : List (Nat × List Int)) (j : Nat) (p : Nat × List Int) (h : ps[j]? = some p) : layAll l (ps.take (j + 1)) = layB (layAll l (ps.take j)) p := by
  have hj := (List.getElem?_eq_some_iff.1 h).1
  rw [List.take_succ_eq_append_getElem hj, (List.getElem?_eq_some_iff.1 h).2]
  simp [layAll]
/-- Flush's answer. -/
def flE (S : DevS) : Int := if (burnt S).off then 3 else 0
def flS (S : DevS) : DevS := if (burnt S).off then burnt S else flushed (burnt S)

set_option maxHeartbeats 4000000 in
theorem flush_any {w : World} {db : Nat} {S : DevS} {k N : Nat} {F : Nat → Prop} (h : Dev w db 0 S k N F) (hN : N ≤ 1099511627776) :
    Calls Try.prog 15 #[.pointer (some ⟨db, 0, none⟩)] w fun e w' => e = .returned (.int .i64 (flE S)) ∧ Went w w' db (flS S) k N F := by
  obtain ⟨gl, bm, q, pv, gs, Dm, h, f, hl⟩ := h
  by_cases ho : (burnt S).off = true
  · have e1 : flE S = 3 := by unfold flE; rw [if_pos ho]
    have e2 : flS S = burnt S := by unfold flS; rw [if_pos ho]
    rw [e1, e2]
    go_enter_defers Try.func15, Try.ntmps15
    go_wp2_with fail
    refine (lock_dev h).mono ?_
    rintro e w1 ⟨rfl, h1, t1⟩
    go_wp2_with fail
    refine (burn_any h1).mono ?_
    rintro e w2 ⟨rfl, h2, t2⟩
    have c6 := h2.cells.2.2.2.2.2.1
    rw [ho] at c6
    go_wp2_with fail
    refine leaves_cons (f := 43) (args := #[.pointer (some ⟨db, 0, none⟩)]) (by simp) (by simp [go_sem]) ?_
    refine (unlock_dev .returning h2).mono ?_
    rintro e u' w3 ⟨rfl, rfl, h3, t3⟩
    exact ⟨_, results_tmp rfl _ _ _, rfl, Went.of h3 f hl (((t1.trans t2 (fun _ _ h => h)).trans t3 (fun _ _ h => h)).mono (fun i _ e => by subst e; exact f.f1)) rfl (Or.inr (Or.inl rfl)) (fun g hg => Or.inl hg)⟩
  · have ho' : (burnt S).off = false := by simpa using ho
    have e1 : flE S = 0 := by unfold flE; rw [if_neg ho]
    have e2 : flS S = flushed (burnt S) := by unfold flS; rw [if_neg ho]
    rw [e1, e2]
    have hpb : (burnt S).pend = S.pend := by unfold burnt; split <;> rfl
    obtain ⟨pa, pcp, hpv⟩ := row_slice h.row
    have hpn := h.pn
    obtain ⟨L, hL⟩ : ∃ L, S.pend.length = L := ⟨_, rfl⟩
    rw [hL] at hpv hpn
    have hLi : (L : Int) ≤ 1099511627776 := by omega
    have HL : Hid ((burnt S).pend.length = L) := by rw [hpb]; exact hL
    clear hL hpb
    obtain ⟨B, hB⟩ : ∃ B, burnt S = B := ⟨_, rfl⟩
    have HB : Hid (burnt S = B) := hB
    rw [hB] at ho' HL ⊢
    clear hB ho e1 e2
    subst hpv
    go_enter_defers Try.func15, Try.ntmps15
    go_wp2_with fail
    refine (lock_dev h).mono ?_
    rintro e w1 ⟨rfl, h1, t1⟩
    go_wp2_with fail
    refine (burn_any h1).mono ?_
    rintro e w2 ⟨rfl, h2, t2⟩
    have t12 := t1.trans t2 (fun _ _ h => h)
    rw [HB.out] at h2
    obtain ⟨c0, c2, c3, c4, c5, c6, fz⟩ := h2.cells
    rw [ho'] at c6
    clear c0 c2 c4 c5 fz t1 t2 h1
    go_wp2_with fail
    go_loopw [23] (fun i wr => ∃ j : Nat, j ≤ L ∧ i = .int .i64 j ∧ DevX wr db 1 { B with last := layAll B.last (B.pend.take j) } k N gl bm q (.slice pa L pcp) gs Dm ∧ Turns (fun i => i = gl) w2 wr) (fun i _ => L - (intOf i).toNat)
    case atStart => exact ⟨0, Nat.zero_le _, rfl, h2, Turns.refl _ _⟩
    case round =>
      obtain ⟨j, hj, rfl, hX, hT⟩ := hrel
      by_cases hlt : j < L
      · obtain ⟨pg, g, p, rfl, hp, hg, hpk, hpl, hpy, x0, x1, hgb⟩ := hX.pending (j := j) (by simp only; rw [HL.out]; exact hlt)
        have HE : Hid (layAll B.last (B.pend.take (j + 1)) = layB (layAll B.last (B.pend.take j)) p) := layAll_take B.last B.pend j p hp
        obtain ⟨pb, pd⟩ := p
        simp only at hpk hpl hpy x0 hgb
        obtain ⟨W, hW⟩ : ∃ W, wr.alloc (.cells #[.int .i64 pb, .slice (some ⟨g, 0, none⟩) 512 512] 69) = W := ⟨_, rfl⟩
        have hbW : Below wr.heap.size wr W := by rw [← hW]; exact (Below.refl _ wr).alloc (Nat.le_refl _) _
        have y0 : W.cell? ⟨wr.heap.size, 0, none⟩ = some (.int .i64 pb) := by rw [← hW]; simp
        have y1 : W.cell? ⟨wr.heap.size, 1, none⟩ = some (.slice (some ⟨g, 0, none⟩) 512 512) := by rw [← hW]; simp
        have hXW := hX.turns (Below.turns hbW (fun _ => False)) id id id (fun _ _ => id) (fun _ _ => id)
        have hgW : W.heap[g]? = some (bl pd) := (hbW.block g (heap_lt hgb)).trans hgb
        clear hX hp hg hgb
        go_wp2_with fail
        try rw [hW]
        refine (last_any hXW pb g pd hpk hgW hpl hpy).mono ?_
        rintro e w3 ⟨rfl, h3, t3⟩
        have hT3 : Turns (fun i => i = gl) w2 w3 := (hT.trans (Below.turns hbW (fun i => i = gl)) (fun _ _ h => h)).trans t3 (fun _ _ h => h)
        go_wp2_with fail
        go_roundw
        case rel => exact ⟨j + 1, by omega, by go_num, by rw [HE.out]; exact h3, hT3⟩
        case measure => simp [intOf]; omega
      · obtain rfl : j = L := by omega
        have e3 : B.pend.take j = B.pend := List.take_of_length_le (by rw [HL.out]; exact Nat.le_refl _)
        rw [e3] at hX
        clear e3
        go_wp2_with fail
        refine (forget_any hX hN).mono ?_
        rintro e w4 ⟨rfl, ⟨D', h4⟩, t4⟩
        have h4' : DevX w4 db 1 (flushed B) k N gl bm q (.slice none 0 0) [] D' := h4
        clear h4
        go_wp2_with fail
        refine leaves_cons (f := 43) (args := #[.pointer (some ⟨db, 0, none⟩)]) (by simp) (by simp [go_sem]) ?_
        refine (unlock_dev .returning h4').mono ?_
        rintro e u' w5 ⟨rfl, rfl, h5, t5⟩
        refine ⟨_, results_tmp rfl _ _ _, ?_⟩
        refine ⟨rfl, Went.of h5 f hl ?_ rfl (Or.inl rfl) (fun x hx => by cases hx)⟩
        refine (((t12.mono (G := F) (fun i _ e => by subst e; exact f.f1)).trans hT (fun i _ e => by subst e; exact f.f2)).trans t4 (fun i _ e => ?_)).trans t5 (fun i _ e => by subst e; exact f.f1)
        rcases e with e | e
        · subst e; exact f.f1
        · subst e; exact f.f3
end Go.Proofs.Ytejfbjjhnhlagaa
