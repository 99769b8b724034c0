/- The book: steps, Get and Free. -/
import Derived.Test.YtlcjkbhcbiggcaaGreatDoorBU
namespace Go.Proofs.YtlcjkbhcbiggcaaGreatDoor
open Go.RowKit Go.Maps
set_option maxRecDepth 100000

theorem Has.one {T : Nat → Rec} {N : Nat} {id : Int} {n n' : Nat} (h : Has T N id n) (h' : Has T N id n') (hN : N ≤ 256) : n = n' := by
  have a := h.id
  have b := h'.id
  have c := h.lt
  have d := h'.lt
  omega
attribute [local go_sem ↓ 100000] in_load in_ex in_store
attribute [local go_sem] InStore.newI
set_option maxHeartbeats 8000000 in
theorem steps_get {w0 w : World} {wb N kb : Nat} {c : Kc} {i : Nat} {ks : List Nat} {m : Nat} {T : Nat → Rec} {L : List Ino} {G : List Int} {F : Nat → Prop} {v : Nat → List Int} {lv gv : Value} (h : Sk w0 w wb N kb c i ks m T L G F v lv gv) (p : Opn) (hk : p.kind = 2) :
    Calls Tryz.prog 10 #[.pointer (some ⟨kb, 0, none⟩), .pointer (some ⟨wb, 0, none⟩), opV p] w (StpR w0 w wb N kb c i ks m T G F lv gv) := by
  have hN := h.st.n2
  obtain ⟨W, hW⟩ : ∃ W, w.alloc (.cells (opA p) 41) = W := ⟨_, rfl⟩
  have O1 : OpBox W w.heap.size p := by rw [← hW]; exact heap_alloc_last w _
  have b1 : Below w.heap.size w W := by rw [← hW]; exact (Below.refl _ w).alloc (Nat.le_refl _) _
  have h1 := h.below b1
  have bd : Below W.heap.size W W.drew := (Below.refl _ W).drew
  have hd := h1.below bd
  have hLl : L.length ≤ 256 := by have := h.ok.len; omega
  obtain ⟨pL, cL, rfl, hpL⟩ := own_form h.bo.lo
  obtain ⟨K, hK⟩ : ∃ K, L.length = K := ⟨_, rfl⟩
  have loD := hd.bo.lo
  have l0 := h1.bo.c0
  rw [hK] at l0 loD hpL
  obtain ⟨c0, c1, c2, c16, inr⟩ := O1.cells
  rw [hk] at c0
  have HK : Hid (L.length = K) := hK
  clear hK
  go_enter Tryz.func10, Tryz.ntmps10
  go_wp2_with fail
  go_region_law ((go_simp; go_at_call 22; refine (find_any (ls := L) (by rw [HK.out]; exact loD) (by omega) p.a).mono ?_; rintro e w4 ⟨r, rfl, hw4, HF⟩; subst hw4; dsimp only))
  all_goals
    have c1d : W.drew.cell? ⟨w.heap.size, 1, none⟩ = some (.int .i64 p.a) := c1
    go_wp2_with fail
    refine (gets9_any hd.st p.a).mono ?_
    rintro e w5 ⟨x, q, o, rfl, HG, z5⟩
    obtain ⟨hG, rfl⟩ := HG.out
    clear HG
    have bw : Below w.heap.size w W.drew := b1.trans (bd.mono b1.size)
    have HR : Hid (∀ w', Below w5.heap.size w5 w' → SkR w0 w w' wb N kb c i ks m T G F (.slice pL L.length cL) gv) := fun w' b => SkR.from bw (hd.same z5 b)
    obtain ⟨F1, v1, s1, bo1, nF1, t1, f1⟩ := hd.stepO (o := none) (fun _ _ q => by cases q) z5
    have bA : Below w5.heap.size w5 (w5.alloc (.cells (inA x) 38)) := (Below.refl _ w5).alloc (Nat.le_refl _) _
    have IB : InBox (w5.alloc (.cells (inA x) 38)) w5.heap.size x := heap_alloc_last w5 _
    have bo2 := bo1.below bA
    have l2 := bo2.c0
    have lo2 := bo2.lo
    rw [HK.out] at l2 lo2
    have HB := h.ok
    clear c0 c1 c2 c16 inr c1d z5 s1 bo1 nF1 t1 f1 hd h1 l0 loD O1 bo2
    rcases HB.has HF.out with ⟨hr, hno⟩ | ⟨j, n, hr, hn, hLj⟩
    · subst hr
      rcases hG with ⟨_, hx, hq⟩ | ⟨n, hn, _⟩
      · subst hx hq
        have k0 : (w5.alloc (.cells (inA ino0) 38)).cell? ⟨w5.heap.size, 0, none⟩ = some (.int .i64 0) := by
          unfold InBox at IB
          unfold World.cell?
          rw [IB]
          rfl
        go_wp2
        go_ret
        exact ⟨rfl, HR.out _ bA⟩
      · exact absurd hn (hno n)
    · rcases hG with ⟨hno, _⟩ | ⟨n', hn', hx, hq⟩
      · exact absurd hn (hno n)
      · obtain rfl := hn.one hn' hN
        rw [← hx] at hLj
        subst hr hq
        have jl : j < K := by rw [← HK.out]; exact (List.getElem?_eq_some_iff.1 hLj).1
        obtain ⟨gL, rfl⟩ := hpL j jl
        have m2 := (own_in lo2 HK.out.symm hLj).all
        have hj0 : ¬ (j : Int) < 0 := by omega
        have hj0d : decide ((j : Int) < 0) = false := decide_eq_false hj0
        have hjK : (j : Int) < (K : Int) := by omega
        clear hx hn hn' hLj HB HF
        obtain ⟨w6, hw6⟩ : ∃ w6, w5.alloc (.cells (inA x) 38) = w6 := ⟨_, rfl⟩
        rw [hw6] at IB l2 m2 bA lo2
        go_wp2_with fail
        have d6 : Below w6.heap.size w6 w6.drew := (Below.refl _ w6).drew
        have e1 := InLoad.row (w := w6.drew) IB rfl
        have e2 := InLoad.mid (w := w6.drew) m2 rfl
        go_region_law ((go_simp; go_at_call 38; refine (same_self _ x).mono ?_; rintro e w7 ⟨rfl, b7⟩; dsimp only))
        all_goals
          have b8 : Below w5.heap.size w5 w7 := bA.trans ((d6.trans (b7.mono d6.size)).mono bA.size)
          clear e1 e2 m2
          go_wp2
          go_ret
          exact ⟨rfl, HR.out _ b8⟩

set_option maxHeartbeats 8000000 in
theorem steps_free {w0 w : World} {wb N kb : Nat} {c : Kc} {i : Nat} {ks : List Nat} {m : Nat} {T : Nat → Rec} {L : List Ino} {G : List Int} {F : Nat → Prop} {v : Nat → List Int} {lv gv : Value} (h : Sk w0 w wb N kb c i ks m T L G F v lv gv) (p : Opn) (hk : p.kind = 4) (hks : ks.length < 24) (hm : m ≤ 1000000) (hG : G.length ≤ 1000) :
    Calls Tryz.prog 10 #[.pointer (some ⟨kb, 0, none⟩), .pointer (some ⟨wb, 0, none⟩), opV p] w (StpR w0 w wb N kb c i ks m T G F lv gv) := by
  have hN := h.st.n2
  obtain ⟨W, hW⟩ : ∃ W, w.alloc (.cells (opA p) 41) = W := ⟨_, rfl⟩
  have O1 : OpBox W w.heap.size p := by rw [← hW]; exact heap_alloc_last w _
  have b1 : Below w.heap.size w W := by rw [← hW]; exact (Below.refl _ w).alloc (Nat.le_refl _) _
  have h1 := h.below b1
  have bd : Below W.heap.size W W.drew := (Below.refl _ W).drew
  have hd := h1.below bd
  have hLl : L.length ≤ 256 := by have := h.ok.len; omega
  obtain ⟨pL, cL, rfl, hpL⟩ := own_form h.bo.lo
  obtain ⟨K, hK⟩ : ∃ K, L.length = K := ⟨_, rfl⟩
  have loD := hd.bo.lo
  have l0 := h1.bo.c0
  rw [hK] at l0 loD hpL
  obtain ⟨c0, c1, c2, c16, inr⟩ := O1.cells
  rw [hk] at c0
  have HK : Hid (L.length = K) := hK
  clear hK
  go_enter Tryz.func10, Tryz.ntmps10
  go_wp2_with fail
  go_region_law ((go_simp; go_at_call 22; refine (find_any (ls := L) (by rw [HK.out]; exact loD) (by omega) p.a).mono ?_; rintro e w4 ⟨r, rfl, hw4, HF⟩; subst hw4; dsimp only))
  all_goals
    have c1d : W.drew.cell? ⟨w.heap.size, 1, none⟩ = some (.int .i64 p.a) := c1
    go_wp2_with fail
    refine (frees9_any hd.st p.a (fun _ _ => Or.inr hks) hm).mono ?_
    rintro e w5 ⟨q, o, rfl, HG, z5⟩
    have bw : Below w.heap.size w W.drew := b1.trans (bd.mono b1.size)
    have HB := h.ok
    rcases HB.has HF.out with ⟨hr, hno⟩ | ⟨j, n, hr, hn, hLj⟩
    · subst hr
      rcases HG.out with ⟨_, ho, hq⟩ | ⟨n, hn, _⟩
      · subst ho hq
        have HR : Hid (∀ w', Below w5.heap.size w5 w' → SkR w0 w w' wb N kb c i ks m T G F (.slice pL L.length cL) gv) := fun w' b => SkR.from bw (hd.same z5 b)
        clear c0 c1 c2 c16 inr c1d z5 hd h1 l0 loD O1
        go_wp2
        go_ret
        exact ⟨rfl, HR.out _ (Below.refl _ _)⟩
      · exact absurd hn (hno n)
    · rcases HG.out with ⟨hno, _⟩ | ⟨n', hn', ho, hq⟩
      · exact absurd hn (hno n)
      · obtain rfl := hn.one hn' hN
        subst hr hq
        have hrit : ∀ a b, o = some (a, b) → a < N ∧ Rit (lay9 N) b := fun a b e => by
          rw [ho] at e
          obtain ⟨rfl, rfl⟩ := Prod.mk.inj (Option.some.inj e)
          exact ⟨hn.lt, rit_gen (h.ok.gen _ hn.lt).1 (by have := (h.ok.gen _ hn.lt).2; omega)⟩
        obtain ⟨F1, v1, s1, bo1, nF1, t1, f1⟩ := hd.stepO (o := o) hrit z5
        have l5 := bo1.c0
        have lo5 := bo1.lo
        rw [HK.out] at l5
        have hj0 : ¬ (j : Int) < 0 := by omega
        have hj0d : decide ((j : Int) < 0) = false := decide_eq_false hj0
        clear c0 c1 c2 c16 inr c1d z5 h1 l0 loD O1
        go_wp2_with fail
        refine (without_any (ls := L) (lv := .slice pL K cL) (by rw [HK.out] at lo5 ⊢; exact lo5) (by omega) j).mono ?_
        rintro e w6 ⟨mv, rfl, o6, b6⟩
        obtain ⟨pM, cM, rfl, _⟩ := own_form o6
        have bo6 := bo1.below b6
        have k6 := bo6.c0
        have f6 : w6.frozen? ⟨kb, 0, none⟩ = false := by simp [World.frozen?, bo6.box]
        have hfin : Hid (SkR w0 w (w6.setCell ⟨kb, 0, none⟩ (.slice pM (wout L j L.length).length cM)) wb N kb c i ks m T G F (.slice pL L.length cL) gv) := by
          have z5 := (hd.bo.lt (Or.inl rfl)).1
          refine SkR.from bw (hd.done s1 nF1 t1 f1 (Bo.setL bo1 (Below.turns b6 (fun _ => False)) (fun _ q => q.elim) (ownsRow_mono o6 ?_)) ((Below.turns b6 _).trans (Turns.setCell w6 0 _ (Or.inl rfl)) (fun _ _ q => q)) (fun b hb => ?_) ?_ (by omega) ?_)
          · have := bo1.kn
            have := heap_lt bo1.box
            omega
          · rcases hb with q | q | q
            · exact Or.inl (Or.inl q)
            · exact Or.inr (o6.lt b q).1
            · exact Or.inl (Or.inr (Or.inr q))
          · rw [ho]
            exact h.ok.free hn hLj
          · intro a b e
            rw [ho] at e
            obtain ⟨rfl, _⟩ := Prod.mk.inj (Option.some.inj e)
            exact ⟨hn.lt, Or.inl hn.us⟩
        clear o6 bo6 bo1 s1 hd lo5 l5 HG HF HB
        go_wp2
        go_ret
        exact ⟨rfl, hfin.out⟩

theorem steps_any {w0 w : World} {wb N kb : Nat} {c : Kc} {i : Nat} {ks : List Nat} {m : Nat} {T : Nat → Rec} {L : List Ino} {G : List Int} {F : Nat → Prop} {v : Nat → List Int} {lv gv : Value} (h : Sk w0 w wb N kb c i ks m T L G F v lv gv) (p : Opn) (hsq : (c.seq : Int) ≤ 4611686018427387904) (hks : ks.length < 24) (hm : m ≤ 1000000) (hG : G.length ≤ 1000) :
    Calls Tryz.prog 10 #[.pointer (some ⟨kb, 0, none⟩), .pointer (some ⟨wb, 0, none⟩), opV p] w (StpR w0 w wb N kb c i ks m T G F lv gv) := by
  by_cases k1 : p.kind = 1
  · exact steps_new h p k1 hsq hks hm hG
  by_cases k2 : p.kind = 2
  · exact steps_get h p k2
  by_cases k3 : p.kind = 3
  · exact steps_put h p k3 hks hm
  by_cases k4 : p.kind = 4
  · exact steps_free h p k4 hks hm hG
  by_cases k5 : p.kind = 5
  · exact steps_all h p k5
  · exact steps_no h p k1 k2 k3 k4 k5
end Go.Proofs.YtlcjkbhcbiggcaaGreatDoor
