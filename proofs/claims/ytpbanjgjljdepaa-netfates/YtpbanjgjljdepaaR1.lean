/- NetRefuses: what it holds. -/
import Derived.Test.YtpbanjgjljdepaaF1
import Derived.Test.YtpbanjgjljdepaaNW
namespace Go.Proofs.Ytpbanjgjljdepaa
open Go.RowKit Go.Maps
set_option maxRecDepth 100000
variable {w w' w0 : World} {lab lab' : Nat → Nat} {k j xb : Nat} {v : Value} {F : Nat → Prop} {S : St} {fs es : List En}

/-- The flights have the numbers 1, 2, 3 .. -/
structure Sq (S : St) (t : Nat) : Prop where
  la : S.last = t
  le : S.l.length = t
  at_ : ∀ (i : Nat) (f : Fl), S.l[i]? = some f → f.no = (i : Int) + 1
theorem Sq.send {t : Nat} (h : Sq S t) (ht : t < 4096) (to : Int) (d : List Int) : Sq (sendS S to d) (t + 1) := by
  obtain ⟨_, q2, q3⟩ := send_not (S := S) (to := to) (d := d) (by rw [h.le]; exact ht)
  refine ⟨by rw [q2, h.la]; omega, by rw [q3]; simp [h.le], fun i f hf => ?_⟩
  rw [q3] at hf
  by_cases hi : i < S.l.length
  · rw [List.getElem?_append_left hi] at hf; exact h.at_ i f hf
  · rw [List.getElem?_append_right (by omega)] at hf
    obtain ⟨h1, h2⟩ := List.getElem?_eq_some_iff.1 hf
    simp at h1 h2
    subst h2
    have := h.la; have := h.le
    simp only; omega
theorem Sq.none {t : Nat} (h : Sq S t) {no : Int} (hno : ¬ (1 ≤ no ∧ no ≤ t)) : findS S no = none := by
  unfold findS
  refine List.find?_eq_none.2 fun f hf => ?_
  obtain ⟨i, hi⟩ := List.getElem?_of_mem hf
  have h1 := h.at_ i f hi
  have h2 := (List.getElem?_eq_some_iff.1 hi).1
  have := h.le
  simp; omega
theorem Sq.some {t : Nat} (h : Sq S t) (ok : S.Ok) {i : Nat} {f : Fl} (hf : S.l[i]? = some f) : findS S ((i : Int) + 1) = some f := by
  have hm := List.mem_of_getElem? hf
  have hn := h.at_ i f hf
  obtain ⟨g, hg⟩ := Option.isSome_iff_exists.1 (Has.of_mem hm)
  have g1 := List.mem_of_find?_eq_some hg
  have g2 : g.no = f.no := by have := List.find?_some hg; simpa using this
  rw [← hn]
  rw [nos_inj ok.ris g1 hm g2] at hg
  exact hg
theorem flip_none {no : Int} (h : findS S no = none) (a x : Int) : flipE S no a x = 201 ∧ flipS S no a x = S := by
  have qE : flipE S no a x = 201 := by unfold flipE; rw [h]; rfl
  exact ⟨qE, by unfold flipS; rw [qE]; rfl⟩
theorem FRow.step {es : List En} (h : FRow w lab j v es) (t : Turns (fun i => lab i = k) w w') (hj : j ≠ k) : FRow w' (rl lab w k) j v es :=
  h.turns t (fun _ _ q r => hj (q.symm.trans r)) (fun _ hi q => (rl_old hi).trans q)
theorem FRow.more {es : List En} (h : FRow w lab j v es) (b : Below w.heap.size w w') (m : Nat) : FRow w' (rl lab w m) j v es :=
  h.turns (Below.turns b (fun _ => False)) (fun _ _ _ q => q) (fun _ hi q => (rl_old hi).trans q)
theorem FRow.took {es : List En} {u : Value} {m : Nat} (h : FRow w lab j v es) (t : Turns (fun i => lab i = k) w w') (hj : j ≠ k) (hv : ∀ b, u.ownBlock = some b → lab b = k ∧ b < w.heap.size) : FRow w' (tl lab w k m u) j v es :=
  h.turns t (fun _ _ q r => hj (q.symm.trans r)) (fun i hi q => by
    rw [tl_off (fun r => hj (q.symm.trans (hv i r).1))]; exact (rl_old hi).trans q)
/-- A net and a list of all its flights that was handed out. -/
structure Nf (w0 w : World) (lab : Nat → Nat) (xb : Nat) (S : St) (v : Value) (fs : List En) : Prop where
  nt : Nt w lab 1 xb S
  wk : Wk w0 lab w
  fr : FRow w lab 2 v fs
theorem Nf.step {T : St} (h : Nf w0 w lab xb S v fs) (t : Turns (fun i => lab i = 1) w w') (hn : Nt w' (rl lab w 1) 1 xb T) : Nf w0 w' (rl lab w 1) xb T v fs :=
  ⟨hn, h.wk.step t (by decide), h.fr.step t (by decide)⟩
theorem Nf.more (h : Nf w0 w lab xb S v fs) (b : Below w.heap.size w w') : Nf w0 w' (rl lab w 9) xb S v fs := ⟨h.nt.below b 9, h.wk.below b 9, h.fr.more b 9⟩
theorem Nf.take {T : St} {u : Value} (h : Nf w0 w lab xb S v fs) (t : Turns (fun i => lab i = 1) w w') (hv : ∀ b, u.ownBlock = some b → lab b = 1 ∧ b < w.heap.size) (hn : Nt w' (tl lab w 1 3 u) 1 xb T) : Nf w0 w' (tl lab w 1 3 u) xb T v fs :=
  ⟨hn, h.wk.take t (by decide) hv 3, h.fr.took t (by decide) hv⟩
/-- The bytes of one of a list of flights are changed in their place. -/
theorem FRow.flip (h : FRow w lab k v fs) (hr : fs.Pairwise (fun a b => a.no < b.no)) {no at_ x : Int} {e : En} (he : fnd fs no = some e) {g c : Nat} (hv : e.v = .slice (some ⟨g, 0, none⟩) e.d.length c) :
    FRow (w.setCell ⟨g, at_.toNat, none⟩ (.int .u8 (xorB (e.d.getD at_.toNat 0) x))) lab k v (fs.map (flE no at_ x)) := by
  have hd := h.en.da e (fnd_mem he).1
  have t := Turns.cell w g at_.toNat (.int .u8 (xorB (e.d.getD at_.toNat 0) x))
  refine ⟨?_, h.en.flip hr he hv, h.lv⟩
  rw [List.length_map, flE_C]
  refine own_turns h.row t (fun b hb q => own_apart2 hd.own h.row (by decide) (b := g) (by rw [hv]; rfl) (by rw [← q]; exact hb))
theorem Nf.under (h : Nf w0 w lab xb S v fs) (hl : fs.map En.fl = S.l) (hf : fs.length ≤ 1000000) :
    Calls Try.prog 15 #[.pointer (some ⟨xb, 0, none⟩)] w fun e w' => ∃ u, e = .returned u ∧ Below w0.heap.size w0 w' ∧ Calls Try.prog 18 #[u, v] w' fun e w'' => e = .returned (.bool true) ∧ Below w'.heap.size w' w'' := by
  refine (underN h.nt 3).mono ?_
  rintro e w' ⟨u, gs, rfl, hr, hg, b⟩
  refine ⟨u, rfl, h.wk.b.trans (b.mono h.wk.b.size), ?_⟩
  exact sameFls_true hr (h.fr.more b 3) (by rw [hg, hl]) (by
    have : gs.length = fs.length := by
      have e1 := congrArg List.length hg
      have e2 := congrArg List.length hl
      simp at e1 e2; omega
    omega)
/-- What the first loop holds. -/
def RfI (w0 w : World) (xb t : Nat) : Prop := ∃ S lab, Nt w lab 1 xb S ∧ Wk w0 lab w ∧ Sq S t
theorem RfI.at {t : Nat} (h : RfI w0 w xb t) : Below w0.heap.size w0 w := by obtain ⟨S, lab, _, hw, _⟩ := h; exact hw.b
theorem RfI.send {t : Nat} (h : RfI w0 w xb t) (ht : t < 4096) (to : Int) {ao : Option Addr} {n c : Nat} {d : List Int} (hL : Lies w ao n c d) (hn : n ≤ 140737488355328) :
    Calls Try.prog 11 #[.pointer (some ⟨xb, 0, none⟩), .agg #[.int .i64 to, .slice ao n c]] w fun e w' => (∃ r, e = .returned (.int .i64 r)) ∧ RfI w0 w' xb (t + 1) := by
  obtain ⟨S, lab, hN, hW, hS⟩ := h
  refine (sendN hN (by rw [hS.la]; omega) to ao n c d hL hn).mono ?_
  rintro e w' ⟨rfl, h', tt⟩
  exact ⟨⟨_, rfl⟩, _, _, h', hW.step tt (by decide), hS.send ht to d⟩
theorem RfI.new (hW : Wk w0 lab w) : Calls Try.prog 10 #[] w fun e w' => ∃ xb, e = .returned (.pointer (some ⟨xb, 0, none⟩)) ∧ RfI w0 w' xb 0 := by
  refine (new_any w lab 1).mono ?_
  rintro e w' ⟨xb, rfl, h, b⟩
  exact ⟨xb, rfl, _, _, h, hW.below b 1, rfl, rfl, fun i f q => by simp [S0] at q⟩
theorem RfI.under {t : Nat} (h : RfI w0 w xb t) :
    Calls Try.prog 15 #[.pointer (some ⟨xb, 0, none⟩)] w fun e w' => ∃ S lab a c fs, e = .returned (.slice a t c) ∧ Nf w0 w' lab xb S (.slice a t c) fs ∧ fs.map En.fl = S.l ∧ Sq S t := by
  obtain ⟨S, lab, hN, hW, hS⟩ := h
  refine (underN hN 2).mono ?_
  rintro e w' ⟨v, fs, rfl, hr, hg, b⟩
  have hlen : fs.length = t := by rw [← hS.le, ← hg]; simp
  obtain ⟨a, c, hv⟩ := own_slice hr.row
  rw [hlen] at hv
  subst hv
  exact ⟨S, _, a, c, fs, rfl, ⟨hN.below b 2, hW.below b 2, hr⟩, hg, hS⟩
end Go.Proofs.Ytpbanjgjljdepaa
