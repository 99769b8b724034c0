/- The book: puts. -/
import Derived.Test.YtlcjkbhcbiggcaaGreatDoorBN
namespace Go.Proofs.YtlcjkbhcbiggcaaGreatDoor
open Go.RowKit Go.Maps
set_option maxRecDepth 100000

theorem put_rit {w0 w : World} {wb N kb : Nat} {c : Kc} {i : Nat} {ks : List Nat} {m : Nat} {T : Nat → Rec} {L : List Ino} {G : List Int} {F : Nat → Prop} {v : Nat → List Int} {lv gv : Value} (h : Sk w0 w wb N kb c i ks m T L G F v lv gv) {x : Ino} {n : Nat} (hn : Has T N x.id n) (hk : (T n).kind = x.kind) (hmay : mayBI (lay9 N) x = true) : Rit (lay9 N) (recOf (T n).gen x) := by
  have h1 := h.st.R.ok n hn.lt
  exact ⟨recOk_put h.st.geo.dat hmay h1.ok.g0 h1.ok.g1, fun q => absurd (hk.trans q) hn.us, fun _ => ⟨(h1.us hn.us).1, hmay⟩⟩
attribute [local go_sem ↓ 100000] in_store in_load ly_ex in_ex
set_option maxHeartbeats 8000000 in
theorem puts_any {w0 w : World} {wb N kb : Nat} {c : Kc} {i : Nat} {ks : List Nat} {m : Nat} {T : Nat → Rec} {L : List Ino} {G : List Int} {F : Nat → Prop} {v : Nat → List Int} {lv gv : Value} (h : Sk w0 w wb N kb c i ks m T L G F v lv gv) (x : Ino) (hks : ks.length < 24) (hm : m ≤ 1000000) :
    Calls Tryz.prog 37 #[.pointer (some ⟨kb, 0, none⟩), .pointer (some ⟨wb, 0, none⟩), inV x] w fun e w' => e = .returned (.bool true) ∧ SkR w0 w w' wb N kb c i ks m T G F lv gv := by
  have hN := h.st.n2
  have X1 : InBox (w.alloc (.cells (inA x) 38)) w.heap.size x := heap_alloc_last w _
  have b1 : Below w.heap.size w (w.alloc (.cells (inA x) 38)) := (Below.refl _ w).alloc (Nat.le_refl _) _
  obtain ⟨W1, hW1⟩ : ∃ W, w.alloc (.cells (inA x) 38) = W := ⟨_, rfl⟩
  rw [hW1] at X1 b1
  have h1 := h.below b1
  have hln : L.length ≤ 256 := by have := h.ok.len; omega
  have l0 := h1.bo.c0
  have x0 := X1.cells.c0
  have lo1 := h1.bo.lo
  have HB := h.ok
  go_enter Tryz.func37, Tryz.ntmps37
  go_wp2_with fail
  try rw [hW1]
  go_region_law ((go_simp; go_at_call 22; refine (find_any lo1.drew (by omega) x.id).mono ?_; rintro e w4 ⟨r, rfl, hw4, HF⟩; subst hw4; dsimp only))
  all_goals
    go_wp2_with fail
    have h3 := h1.below ((Below.refl _ W1).drew.drew)
    have X3 := X1.below ((Below.refl _ W1).drew.drew)
    obtain ⟨k3, y3⟩ := h3.st.cells
    obtain ⟨k2, y2⟩ := (h1.below ((Below.refl _ W1).drew)).st.cells
    have e2 := InEx.row (X1.below ((Below.refl _ W1).drew)) (inA_size _)
    have e3 := InEx.row X3 (inA_size _)
    go_region_held3 (fun w' => w'.cell? ⟨wb, 23, none⟩ = some (.pointer (some ⟨c.tb, 0, none⟩)) ∧ (LyEx (.pointer (some ⟨wb, 0, none⟩))).run Tryz.prog w' = .ok (.value (lyV (lay9 N))) w' ∧ (InEx (.pointer (some ⟨w.heap.size, 0, none⟩))).run Tryz.prog w' = .ok (.value (inV x)) w')
      (first | exact ⟨k2, y2, e2⟩ | exact ⟨k3, y3, e3⟩ | exact ⟨k5, y5, e5⟩)
      (first
        | (go_at_call 84; refine (put_any h3.st.tv h3.st.geo h3.st.R x (fun _ _ => Or.inr hks) hm).mono ?_; rintro e w5 r5; obtain ⟨q, o, rfl, HO, z5⟩ := r5.o; have t5 := z5.tr; have B5 := h3.st.B.turns t5 h.st.nF; have k5 := B5.cells.c23; have y5 := LyEx.mid B5.cells.ly rfl; have X5 : InBox w5 w.heap.size x := (t5.block _ (heap_lt X3) (fun q => by have := h.st.tv.lt _ q; omega)).trans X3; have e5 := InEx.row X5 (inA_size _)))
    have zz : Rz w w5 w.heap.size c i F v ks m 34 o := Rz.mono (show w.heap.size ≤ W1.heap.size from b1.size) (Rz.from (Below.turns (b1.drew.drew) F) z5)
    clear k3 y3 k2 y2 e2 e3 k5 y5 e5 z5 hW1
    rcases HO.out with ⟨ho, hq | ⟨hq, hno⟩⟩ | ⟨n, ho, hmay, hhas, hkd, hq⟩
    · subst ho hq
      have HS : Hid (SkR w0 w w5 wb N kb c i ks m T G F lv gv) := h.same zz (Below.refl _ w5)
      go_wp2_with fail
      refine (num9_any _ _).mono ?_
      rintro e wq ⟨rfl, hq⟩
      subst wq
      go_wp2_with fail
      refine (num9_any _ _).mono ?_
      rintro e wq ⟨rfl, hq⟩
      subst wq
      go_wp2_with fail
      go_ret
      exact ⟨rfl, HS.out⟩
    · subst ho hq
      have HS : Hid (SkR w0 w w5 wb N kb c i ks m T G F lv gv) := h.same zz (Below.refl _ w5)
      have hr : r = -1 := by
        rcases HB.has HF.out with ⟨q, _⟩ | ⟨_, n, _, q, _⟩
        · exact q
        · exact absurd q (hno n)
      subst hr
      go_wp2_with fail
      refine (num9_any _ _).mono ?_
      rintro e wq ⟨rfl, hq⟩
      subst wq
      go_wp2_with fail
      refine (num9_any _ _).mono ?_
      rintro e wq ⟨rfl, hq⟩
      subst wq
      go_wp2_with fail
      refine (num9_any _ _).mono ?_
      rintro e wq ⟨rfl, hq⟩
      subst wq
      go_wp2_with fail
      go_ret
      exact ⟨rfl, HS.out⟩
    · subst hq
      have hit : Rit (lay9 N) (recOf (T n).gen x) := put_rit h hhas hkd hmay
      obtain ⟨F1, v1, s1, bo1, nF1, t1, f1⟩ := h.stepO (fun a r e => by rw [ho] at e; cases e; exact ⟨hhas.lt, hit⟩) zz
      obtain ⟨j, hr, hLj⟩ : ∃ j : Nat, r = j ∧ L[j]? = some ((T n).ino x.id) := by
        rcases HB.has HF.out with ⟨_, q⟩ | ⟨j, n', q1, q2, q3⟩
        · exact absurd hhas (q n)
        · have e1 := q2.id
          have e2 := hhas.id
          have e3 := q2.lt
          have e4 := hhas.lt
          obtain rfl : n' = n := by omega
          exact ⟨j, q1, q3⟩
      subst hr
      have hjl := (List.getElem?_eq_some_iff.1 hLj).1
      obtain ⟨pL, cL, hlv, hpL⟩ := own_form bo1.lo
      obtain ⟨g, rfl⟩ := hpL j hjl
      subst hlv
      have c5 := bo1.c0
      have kc := (own_in bo1.lo rfl hLj).c1
      have hkx : ((T n).ino x.id).kind = x.kind := hkd
      rw [hkx] at kc
      obtain ⟨_, xk, xs, _, _, _, _⟩ := X5.cells
      have hsz : 0 ≤ x.size ∧ x.size ≤ 69632 := by
        have := of_decide_eq_true hmay
        exact ⟨this.2.1, this.2.2.1⟩
      have hs0 : ¬ x.size < 0 := by omega
      have hs1 : ¬ 69632 < x.size := by omega
      have hs0d : decide (x.size < 0) = false := decide_eq_false hs0
      have hs1d : decide (69632 < x.size) = false := decide_eq_false hs1
      have hjn : ¬ ((j : Int) < 0) := by omega
      have hjL : (j : Int) < (L.length : Int) := by omega
      go_wp2_with fail
      refine (num9_any _ _).mono ?_
      rintro e wq ⟨rfl, hq⟩
      subst wq
      go_wp2_with fail
      go_region_held3 (fun w' => w'.cell? ⟨kb, 0, none⟩ = some (.slice (some ⟨g, 0, none⟩) L.length cL) ∧ w'.cell? ⟨g, j * 13 + 1, none⟩ = some (.int .i64 x.kind) ∧ w'.cell? ⟨w.heap.size, 0 + 1, none⟩ = some (.int .i64 x.kind) ∧ w'.cell? ⟨w.heap.size, 0 + 2, none⟩ = some (.int .i64 x.size))
        (exact ⟨c5, kc, xk, xs⟩)
        (fail)
      all_goals
        go_wp2_with fail
        have l7 := InLoad.row (w := w5.drew.drew) X5 (inA_size _)
        have th : w5.drew.drew.there g (j * 13) 13 := fun d hd => ⟨by rw [(bo1.lo.drew.drew).cellAt (j * 13 + d) (by omega)]; simp [inLs_len]; omega, (bo1.lo.drew.drew).frozenAt _⟩
        have st7 := InStore.mid th (inA_size x) (inA_one x)
        go_region
        all_goals
          go_wp2_with fail
          go_ret
          refine ⟨rfl, h.done s1 nF1 t1 f1 (Bo.setAt (bo1.below ((Below.refl _ w5).drew.drew)) rfl hjl x) ((Below.turns ((Below.refl _ w5).drew.drew) (boS kb (.slice (some ⟨g, 0, none⟩) L.length cL) gv)).trans (turns_setCells g (inA x).toList (j * 13) w5.drew.drew) (fun b _ e => Or.inr (Or.inl (by rw [e]; rfl)))) (fun b hb => Or.inl hb) ?_ (by omega) ?_⟩
          · rw [ho]
            exact HB.put x hhas hLj hkd
          · intro a r e
            rw [ho] at e
            cases e
            exact ⟨hhas.lt, Or.inl hhas.us⟩
end Go.Proofs.YtlcjkbhcbiggcaaGreatDoor
