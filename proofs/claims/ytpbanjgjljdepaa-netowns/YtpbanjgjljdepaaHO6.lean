/- NetOwns: what is held; the calls over it. -/
import Derived.Test.YtpbanjgjljdepaaHO5
import Derived.Test.YtpbanjgjljdepaaK2
import Derived.Test.YtpbanjgjljdepaaNW
namespace Go.Proofs.Ytpbanjgjljdepaa
open Go.RowKit Go.Maps
set_option maxRecDepth 100000

theorem Pls.turns {F : Nat → Prop} {w w' : World} {lab lab' : Nat → Nat} {pv : Value} {ps : List Pf} (h : Pls w lab pv ps) (t : Turns F w w') (hF : ∀ i, i < w.heap.size → lab i = 4 ∨ lab i = 7 → ¬ F i) (hl : ∀ i, i < w.heap.size → lab i = 4 ∨ lab i = 7 → lab' i = lab i) : Pls w' lab' pv ps :=
  { h with
    row := own_turns h.row t (fun b e => hF b (own_lt h.row e) (.inl (h.kr b e)))
    kr := fun b e => (hl b (own_lt h.row e) (.inl (h.kr b e))).trans (h.kr b e)
    dat := fun p hp => own_turns (h.dat p hp) t (fun b q => hF b (own_lt (h.dat p hp) q) (.inr (h.kd p hp b q)))
    kd := fun p hp b q => (hl b (own_lt (h.dat p hp) q) (.inr (h.kd p hp b q))).trans (h.kd p hp b q) }
/-- A step that turns what is labelled k alone, and gives no other old block another label. -/
structure Stq (k : Nat) (w w' : World) (lab lab' : Nat → Nat) : Prop where
  t : Turns (fun i => lab i = k) w w'
  l : ∀ i, i < w.heap.size → lab i ≠ k → lab' i = lab i
variable {w w' w0 w1 : World} {lab lab' : Nat → Nat} {k j xb rb hb gb ob : Nat} {fv vL vW v vA vC pv : Value} {S R S' : St} {bs d : List Int} {es es' : List It} {ps ps' : List Pf}
theorem Stq.below (u : Below w.heap.size w w') (j : Nat) : Stq 100 w w' lab (rl lab w j) := ⟨Below.turns u _, fun _ hi _ => rl_old hi⟩
theorem Stq.rl (t : Turns (fun i => lab i = k) w w') (j : Nat) : Stq k w w' lab (Go.Proofs.Ytpbanjgjljdepaa.rl lab w j) := ⟨t, fun _ hi _ => rl_old hi⟩
theorem Stq.tl (t : Turns (fun i => lab i = k) w w') (hv : ∀ b, v.ownBlock = some b → lab b = k ∧ b < w.heap.size) (j : Nat) : Stq k w w' lab (Go.Proofs.Ytpbanjgjljdepaa.tl lab w k j v) := ⟨t, fun i hi q => by rw [tl_off (fun r => q (hv i r).1), rl_old hi]⟩
theorem Stq.box {cs : Array Value} {ty : TypeId} {f : Nat × Nat} {m : Nat} (h : Stq k w w' lab lab') (hb : w.heap[ob]? = some (.cells cs ty f)) (hl : lab ob = m) (hk : k ≠ m) : w'.heap[ob]? = some (.cells cs ty f) ∧ lab' ob = m :=
  ⟨(h.t.block ob (heap_lt hb) (fun q => hk (q.symm.trans hl))).trans hb, (h.l ob (heap_lt hb) (fun q => hk (q.symm.trans hl))).trans hl⟩
theorem Stq.da {m : Nat} (h : Stq k w w' lab lab') (hd : Da w lab m d v) (hk : k ≠ m) : Da w' lab' m d v :=
  hd.turns h.t (fun _ _ q r => hk (r.symm.trans q)) (fun i hi q => (h.l i hi (fun r => hk (r.symm.trans q))).trans q)
/-- What NetOwns holds. -/
structure Oc (w0 w : World) (lab : Nat → Nat) (xb rb hb gb : Nat) (fv vL vW : Value) (S R : St) (bs : List Int) (es : List It) (ps : List Pf) : Prop where
  n : Nt w lab 1 xb S
  d : Dn w lab 2 rb R
  h : Hd w lab hb vL vW es
  p : Pls w lab fv ps
  b : w.heap[gb]? = some (bl bs)
  b64 : bs.length = 64
  lg : lab gb = 5
  k : Wk w0 lab w
  sS : ∀ f ∈ S.l, f.d.length ≤ 64
  sR : ∀ f ∈ R.l, f.d.length ≤ 64
theorem Oc.fr (h : Oc w0 w lab xb rb hb gb fv vL vW S R bs es ps) (m : Stq k w w' lab lab') :
    (k ≠ 1 → Nt w' lab' 1 xb S) ∧ (k ≠ 2 → Dn w' lab' 2 rb R) ∧ (k ≠ 3 → k ≠ 7 → Hd w' lab' hb vL vW es) ∧ (k ≠ 4 → k ≠ 7 → Pls w' lab' fv ps) ∧ (k ≠ 5 → w'.heap[gb]? = some (bl bs) ∧ lab' gb = 5) ∧ (k ≠ 0 → Wk w0 lab' w') := by
  have f : ∀ a, k ≠ a → ∀ i, i < w.heap.size → lab i = a → ¬ lab i = k := fun a hk i _ q r => hk (r.symm.trans q)
  have g : ∀ a, k ≠ a → ∀ i, i < w.heap.size → lab i = a → lab' i = a := fun a hk i hi q => (m.l i hi (f a hk i hi q)).trans q
  refine ⟨fun q => h.n.turns m.t (f 1 q) (g 1 q), fun q => h.d.turns m.t (f 2 q) (g 2 q), fun q r => h.h.turns m.t (fun i hi x => x.elim (f 3 q i hi) (f 7 r i hi)) (fun i hi x => m.l i hi (x.elim (f 3 q i hi) (f 7 r i hi))), fun q r => h.p.turns m.t (fun i hi x => x.elim (f 4 q i hi) (f 7 r i hi)) (fun i hi x => m.l i hi (x.elim (f 4 q i hi) (f 7 r i hi))), fun q => m.box h.b h.lg q, fun q => h.k.turns m.t (fun i x y => q (x.symm.trans y)) (fun i hi => ?_)⟩
  have hz := h.k.z i hi
  exact m.l i (Nat.lt_of_lt_of_le hi h.k.b.size) (f 0 q i (Nat.lt_of_lt_of_le hi h.k.b.size) hz)
theorem Oc.below (h : Oc w0 w lab xb rb hb gb fv vL vW S R bs es ps) (u : Below w.heap.size w w') (j : Nat) : Oc w0 w' (rl lab w j) xb rb hb gb fv vL vW S R bs es ps := by
  obtain ⟨a1, a2, a3, a4, a5, a6⟩ := h.fr (Stq.below u j)
  exact ⟨a1 (by decide), a2 (by decide), a3 (by decide) (by decide), a4 (by decide) (by decide), (a5 (by decide)).1, h.b64, (a5 (by decide)).2, a6 (by decide), h.sS, h.sR⟩
theorem Oc.net (h : Oc w0 w lab xb rb hb gb fv vL vW S R bs es ps) (m : Stq 1 w w' lab lab') (n : Nt w' lab' 1 xb S') (s : ∀ f ∈ S'.l, f.d.length ≤ 64) : Oc w0 w' lab' xb rb hb gb fv vL vW S' R bs es ps := by
  obtain ⟨_, a2, a3, a4, a5, a6⟩ := h.fr m
  exact ⟨n, a2 (by decide), a3 (by decide) (by decide), a4 (by decide) (by decide), (a5 (by decide)).1, h.b64, (a5 (by decide)).2, a6 (by decide), s, h.sR⟩
theorem Oc.ref (h : Oc w0 w lab xb rb hb gb fv vL vW S R bs es ps) (m : Stq 2 w w' lab lab') (n : Dn w' lab' 2 rb S') (s : ∀ f ∈ S'.l, f.d.length ≤ 64) : Oc w0 w' lab' xb rb hb gb fv vL vW S S' bs es ps := by
  obtain ⟨a1, _, a3, a4, a5, a6⟩ := h.fr m
  exact ⟨a1 (by decide), n, a3 (by decide) (by decide), a4 (by decide) (by decide), (a5 (by decide)).1, h.b64, (a5 (by decide)).2, a6 (by decide), h.sS, s⟩
theorem Oc.hoard (h : Oc w0 w lab xb rb hb gb fv vL vW S R bs es ps) (m : Stq 3 w w' lab lab') (n : Hd w' lab' hb vA vC es') : Oc w0 w' lab' xb rb hb gb fv vA vC S R bs es' ps := by
  obtain ⟨a1, a2, _, a4, a5, a6⟩ := h.fr m
  exact ⟨a1 (by decide), a2 (by decide), n, a4 (by decide) (by decide), (a5 (by decide)).1, h.b64, (a5 (by decide)).2, a6 (by decide), h.sS, h.sR⟩
theorem Oc.fls (h : Oc w0 w lab xb rb hb gb fv vL vW S R bs es ps) (m : Stq 4 w w' lab lab') (n : Pls w' lab' pv ps') : Oc w0 w' lab' xb rb hb gb pv vL vW S R bs es ps' := by
  obtain ⟨a1, a2, a3, _, a5, a6⟩ := h.fr m
  exact ⟨a1 (by decide), a2 (by decide), a3 (by decide) (by decide), n, (a5 (by decide)).1, h.b64, (a5 (by decide)).2, a6 (by decide), h.sS, h.sR⟩
theorem Oc.buf (h : Oc w0 w lab xb rb hb gb fv vL vW S R bs es ps) {q : Nat} {z : Int} (hw : w' = w.setCell ⟨gb, q, none⟩ (.int .u8 z)) : Oc w0 w' lab xb rb hb gb fv vL vW S R (bs.set q z) es ps := by
  have t : Turns (fun i => lab i = 5) w w' := by rw [hw]; exact (Turns.cell w gb q _).mono (fun i _ r => by rw [r]; exact h.lg)
  obtain ⟨a1, a2, a3, a4, _, a6⟩ := h.fr ⟨t, fun _ _ _ => rfl⟩
  refine ⟨a1 (by decide), a2 (by decide), a3 (by decide) (by decide), a4 (by decide) (by decide), ?_, by simp [h.b64], h.lg, a6 (by decide), h.sS, h.sR⟩
  rw [hw]
  refine (heap_setCell_same _ gb q _ _ (.int .u8 z) h.b).trans ?_
  simp
/-- A list that is to be kept. -/
structure Pd (w : World) (lab : Nat → Nat) (es : List It) (v : Value) (d : List Int) : Prop where
  da : Da w lab 7 d v
  ne : ∀ g, v.ownBlock = some g → ∀ e ∈ es, e.v.ownBlock ≠ some g
  le : d.length ≤ 64
theorem Pd.mv (h : Pd w lab es v d) (m : Stq k w w' lab lab') (hk : k ≠ 7) : Pd w' lab' es v d := ⟨m.da h.da hk, h.ne, h.le⟩
theorem small_take (h : ∀ f ∈ S.l, f.d.length ≤ 64) (no : Int) : (∀ f ∈ (takeS S no).l, f.d.length ≤ 64) ∧ (takeD S no).length ≤ 64 := by
  refine ⟨fun f hf => h f ((List.mem_filter.1 hf).1), ?_⟩
  unfold takeD
  cases hq : findS S no with
  | none => simp
  | some f => exact h f (List.mem_of_find?_eq_some hq)
theorem small_send (h : ∀ f ∈ S.l, f.d.length ≤ 64) (to : Int) (hd : d.length ≤ 64) : ∀ f ∈ (sendS S to d).l, f.d.length ≤ 64 := by
  unfold sendS
  split
  · exact h
  · intro f hf
    rcases List.mem_append.1 hf with q | q
    · exact h f q
    · rw [List.mem_singleton] at q; subst q; exact hd
theorem o_take (h : Oc w0 w lab xb rb hb gb fv vL vW S R bs es ps) {no : Int} (hk : KeyI no) :
    Calls Try.prog 16 #[.pointer (some ⟨xb, 0, none⟩), .int .i64 no] w fun en w' => ∃ v lab', en = .returned (.tuple #[.agg #[.int .i64 (takeT S no), v], .int .i64 (takeE S no)]) ∧ Oc w0 w' lab' xb rb hb gb fv vL vW (takeS S no) R bs es ps ∧ Pd w' lab' es v (takeD S no) ∧ Stq 1 w w' lab lab' := by
  refine (takeN h.n hk 7).mono ?_
  rintro e w' ⟨v, rfl, hN, hD, t, hv⟩
  have m := Stq.tl t hv 7
  obtain ⟨s1, s2⟩ := small_take h.sS no
  exact ⟨v, _, rfl, h.net m hN s1, ⟨hD, fun g hg e he q => by have := h.h.kg e he g q; have := (hv g hg).1; omega, s2⟩, m⟩
theorem o_dtake (h : Oc w0 w lab xb rb hb gb fv vL vW S R bs es ps) (no : Int) :
    Calls Try.prog 22 #[.pointer (some ⟨rb, 0, none⟩), .int .i64 no] w fun en w' => ∃ v lab', en = .returned (.tuple #[.agg #[.int .i64 (takeT R no), v], .int .i64 (takeE R no)]) ∧ Oc w0 w' lab' xb rb hb gb fv vL vW S (takeS R no) bs es ps ∧ Da w' lab' 6 (takeD R no) v ∧ Stq 2 w w' lab lab' := by
  refine (dtakeN h.d no 6).mono ?_
  rintro e w' ⟨v, rfl, hN, hD, t, hv⟩
  have m := Stq.tl t hv 6
  exact ⟨v, _, rfl, h.ref m hN (small_take h.sR no).1, hD, m⟩
theorem o_send (h : Oc w0 w lab xb rb hb gb fv vL vW S R bs es ps) (hlast : S.last < 4611686018427387904) (to : Int) (ao : Option Addr) (n c : Nat) (hL : Lies w ao n c d) (hn : n ≤ 64) :
    Calls Try.prog 11 #[.pointer (some ⟨xb, 0, none⟩), .agg #[.int .i64 to, .slice ao n c]] w fun e w' => e = .returned (.int .i64 (sendA S)) ∧ ∃ lab', Oc w0 w' lab' xb rb hb gb fv vL vW (sendS S to d) R bs es ps ∧ Stq 1 w w' lab lab' := by
  refine (sendN h.n hlast to ao n c d hL (by omega)).mono ?_
  rintro e w' ⟨rfl, hN, t⟩
  exact ⟨rfl, _, h.net (Stq.rl t 1) hN (small_send h.sS to (by have := hL.hlen; omega)), Stq.rl t 1⟩
theorem o_dsend (h : Oc w0 w lab xb rb hb gb fv vL vW S R bs es ps) (hlast : R.last < 4611686018427387904) (to : Int) (ao : Option Addr) (n c : Nat) (hL : Lies w ao n c d) (hn : n ≤ 64) :
    Calls Try.prog 24 #[.pointer (some ⟨rb, 0, none⟩), .agg #[.int .i64 to, .slice ao n c]] w fun e w' => e = .returned (.int .i64 (sendA R)) ∧ ∃ lab', Oc w0 w' lab' xb rb hb gb fv vL vW S (sendS R to d) bs es ps ∧ Stq 2 w w' lab lab' := by
  refine (dsendN h.d hlast to ao n c d hL (by omega)).mono ?_
  rintro e w' ⟨rfl, hN, t⟩
  exact ⟨rfl, _, h.ref (Stq.rl t 2) hN (small_send h.sR to (by have := hL.hlen; omega)), Stq.rl t 2⟩
theorem o_keep (h : Oc w0 w lab xb rb hb gb fv vL vW S R bs es ps) {a0 : Option Addr} {n c0 : Nat} (hp : Pd w lab es (.slice a0 n c0) d) (he : es.length ≤ 1000) :
    Calls Try.prog 23 #[.pointer (some ⟨hb, 0, none⟩), .slice a0 n c0] w fun e w' => e = .returned (.tuple #[]) ∧ ∃ vA vC lab' u, Oc w0 w' lab' xb rb hb gb fv vA vC S R bs (es ++ [⟨.slice a0 n c0, d, u⟩]) ps ∧ Stq 3 w w' lab lab' := by
  have hn : d.length = n := by
    obtain ⟨ao, c, q⟩ := hp.da.slice
    cases q; rfl
  have ho := hp.da.own
  rw [hn] at ho
  refine (keep_h h.h a0 c0 d n hn (by have := hp.le; omega) he ho hp.da.lb hp.ne).mono ?_
  rintro e w' ⟨rfl, vA, vC, u, hH, t⟩
  exact ⟨rfl, vA, vC, _, u, h.hoard (Stq.rl t 3) hH, Stq.rl t 3⟩
/-- A label that no old block has. -/
theorem fresh_lab (lab : Nat → Nat) : ∀ n : Nat, ∃ j, ∀ i, i < n → lab i < j
  | 0 => ⟨0, fun i h => by omega⟩
  | n + 1 => by
    obtain ⟨j, h2⟩ := fresh_lab lab n
    refine ⟨max j (lab n + 1), fun i hi => ?_⟩
    by_cases q : i = n
    · subst q; omega
    · have := h2 i (by omega); omega
/-- A list of flights that was handed out; the first q of its datagrams were kept. -/
structure Uf (w : World) (lab : Nat → Nat) (es : List It) (ps : List Pf) (lv : Value) (fs : List En) (q : Nat) : Prop where
  row : w.ownsRow 0 42 3 lv fs.length (fs.flatMap flC)
  lb : ∀ b, lv.ownBlock = some b → lab b = 7
  ne : ∀ b, lv.ownBlock = some b → ∀ p ∈ ps, p.v.ownBlock ≠ some b
  da : ∀ t e, q ≤ t → fs[t]? = some e → Pd w lab es e.v e.d
  sep : fs.Pairwise Apt
  few : fs.length ≤ 4096
theorem Uf.mv {lv : Value} {fs : List En} {q : Nat} (h : Uf w lab es ps lv fs q) (m : Stq k w w' lab lab') (hk : k ≠ 7) : Uf w' lab' es ps lv fs q :=
  ⟨own_turns h.row m.t (fun b e r => hk (r.symm.trans (h.lb b e))), fun b e => (m.l b (own_lt h.row e) (fun r => hk (r.symm.trans (h.lb b e)))).trans (h.lb b e), h.ne, fun t e ht he => (h.da t e ht he).mv m hk, h.sep, h.few⟩
theorem Uf.kept {lv u : Value} {fs : List En} {q : Nat} {e : En} (h : Uf w lab es ps lv fs q) (he : fs[q]? = some e) : Uf w lab (es ++ [⟨e.v, e.d, u⟩]) ps lv fs (q + 1) := by
  refine ⟨h.row, h.lb, h.ne, fun t f ht hf => ?_, h.sep, h.few⟩
  have hp := h.da t f (by omega) hf
  refine ⟨hp.da, fun g hg x hx => ?_, hp.le⟩
  rcases List.mem_append.1 hx with r | r
  · exact hp.ne g hg x r
  · rw [List.mem_singleton] at r; subst r
    obtain ⟨a1, a2⟩ := List.getElem?_eq_some_iff.1 he
    obtain ⟨b1, b2⟩ := List.getElem?_eq_some_iff.1 hf
    subst a2; subst b2
    exact fun r => List.pairwise_iff_getElem.1 h.sep q t a1 b1 (by omega) g r hg
theorem o_under (h : Oc w0 w lab xb rb hb gb fv vL vW S R bs es ps) :
    Calls Try.prog 15 #[.pointer (some ⟨xb, 0, none⟩)] w fun e w' => ∃ lv fs lab', e = .returned lv ∧ Oc w0 w' lab' xb rb hb gb fv vL vW S R bs es ps ∧ Uf w' lab' es ps lv fs 0 ∧ FRow w' lab' 7 lv fs ∧ fs.map En.fl = S.l ∧ Below w.heap.size w w' := by
  obtain ⟨J, hJ⟩ := fresh_lab lab w.heap.size
  refine (underN h.n J).mono ?_
  rintro e w' ⟨lv, fs, rfl, hF, hm, u⟩
  have key : ∀ b, rl lab w J b = J → w.heap.size ≤ b := fun b q => by
    rcases Nat.lt_or_ge b w.heap.size with r | r
    · rw [rl_old r] at q; have := hJ b r; omega
    · exact r
  have k1 : ∀ b, lv.ownBlock = some b → w.heap.size ≤ b := fun b q => key b (hF.lv b q)
  have k2 : ∀ e ∈ fs, ∀ b, e.v.ownBlock = some b → w.heap.size ≤ b := fun e he b q => key b ((hF.en.da e he).lb b q)
  have da : ∀ e ∈ fs, Da w' (rl lab w 7) 7 e.d e.v := fun e he => ⟨(hF.en.da e he).own, fun b q => rl_new (k2 e he b q), (hF.en.da e he).len⟩
  have sm : ∀ e ∈ fs, e.d.length ≤ 64 := fun e he => by
    have : e.fl ∈ S.l := by rw [← hm]; exact List.mem_map_of_mem he
    exact h.sS _ this
  refine ⟨lv, fs, rl lab w 7, rfl, h.below u 7, ⟨hF.row, fun b q => rl_new (k1 b q), fun b q p hp r => ?_, fun t e _ he => ⟨da e (List.mem_of_getElem? he), fun g hg x hx r => ?_, sm e (List.mem_of_getElem? he)⟩, hF.en.sep, ?_⟩, ⟨hF.row, ⟨da, hF.en.sep⟩, fun b q => rl_new (k1 b q)⟩, hm, u⟩
  · have := own_lt (h.p.dat p hp) r; have := k1 b q; omega
  · have := own_lt (h.h.dat x hx) r; have := k2 e (List.mem_of_getElem? he) g hg; omega
  · have := h.n.ok.few; rw [← hm, List.length_map] at this; exact this
/-- The list of flights joins the others. -/
theorem Pls.add {lv pv' : Value} {fs : List En} {q : Nat} (h : Pls w lab pv ps) (hu : Uf w lab es ps lv fs q) (t : Turns (fun i => pv.ownBlock = some i) w w') (ho : w'.ownsRow 0 34 1 pv' (ps.length + 1) (ps.map Pf.v ++ [lv])) (hp : ∀ b, pv'.ownBlock = some b → pv.ownBlock = some b ∨ w.heap.size ≤ b) : Pls w' (rl lab w 4) pv' (ps ++ [⟨lv, fs.length, fs.flatMap flC⟩]) ∧ Stq 4 w w' lab (rl lab w 4) := by
  have m : Stq 4 w w' lab (rl lab w 4) := Stq.rl (t.mono (fun i _ q => h.kr i q)) 4
  have hu' := hu.mv m (by decide)
  have hd : ∀ p ∈ ps, w'.ownsRow 0 42 3 p.v p.n p.L := fun p hp => own_turns (h.dat p hp) t (own_apart (h.dat p hp) h.row (by decide))
  refine ⟨⟨by simpa using ho, fun b e => ?_, fun p hp => ?_, fun p hp b q => ?_, fun p hp => ?_, ?_⟩, m⟩
  · rcases hp b e with r | r
    · exact (rl_old (own_lt h.row r)).trans (h.kr b r)
    · exact rl_new r
  · rcases List.mem_append.1 hp with r | r
    · exact hd p r
    · rw [List.mem_singleton] at r; subst r; exact hu'.row
  · rcases List.mem_append.1 hp with r | r
    · exact (rl_old (own_lt (h.dat p r) q)).trans (h.kd p r b q)
    · rw [List.mem_singleton] at r; subst r; exact hu'.lb b q
  · rcases List.mem_append.1 hp with r | r
    · exact h.le p r
    · rw [List.mem_singleton] at r; subst r; exact hu.few
  · refine List.pairwise_append.2 ⟨h.sep, List.pairwise_singleton _ _, fun a ha b hb' g ga gb => ?_⟩
    rw [List.mem_singleton] at hb'; subst hb'
    exact hu.ne g gb a ha ga
end Go.Proofs.Ytpbanjgjljdepaa
