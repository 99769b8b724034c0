/- tells, its pieces: what a taken datagram is, and how it goes through a play's other steps. -/
import Derived.Test.YtpbanjgjljdepaaKC9
namespace Go.Proofs.Ytpbanjgjljdepaa
open Go.RowKit Go.Maps
set_option maxRecDepth 100000
variable {w w' w0 w1 W W' : World} {lab lab' L L' L'' : Nat → Nat} {k j pb c ob x : Nat} {a b : Nat → Nat} {v u bv bv' l p : Value} {st : Int} {lg : Bool} {F : Nat → Prop} {S R : Nat → St} {es : List Ke} {o : Op} {d : List Int}
/-- Bytes that are no play's stay through a play's step. -/
theorem Fr.da (h : Fr k W W' L L') (g : Da W L (k + 6) d v) : Da W' L' (k + 6) d v :=
  g.turns h.t (fun i _ q r => by have := r.2; omega) (fun i hi q => (h.hl i hi (fun r => by have := r.2; omega)).trans q)
/-- The list is new, or was the play's. -/
def Ours (w : World) (lab : Nat → Nat) (k : Nat) (v : Value) : Prop := ∀ i, v.ownBlock = some i → i < w.heap.size → Mine k (lab i)
/-- A packet, and where it lies. -/
structure Pk (w : World) (lab : Nat → Nat) (W : World) (L : Nat → Nat) (k x : Nat) (to : Int) (d : List Int) (v : Value) : Prop where
  hb : W.heap[x]? = some (.cells #[.int .i64 to, v] 28)
  hx : L x = k + 6
  hn : w.heap.size ≤ x
  da : Da W L (k + 6) d v
  us : Ours w lab k v
theorem Fr.pk {to : Int} (h : Fr k W W' L L') (g : Pk w lab W L k x to d v) : Pk w lab W' L' k x to d v := by
  have n : ¬ Mine k (L x) := fun r => by have := r.2; have := g.hx; omega
  exact ⟨(h.box g.hb n).1, (h.hl x (heap_lt g.hb) n).trans g.hx, g.hn, h.da g.da, g.us⟩
theorem Fr.ours (h : Fr k w W lab L) {m : Nat} (hv : ∀ i, v.ownBlock = some i → L i = m ∧ i < W.heap.size) (h1 : k ≤ m) (h2 : m < k + 6) : Ours w lab k v := fun i q hi => Classical.byContradiction fun r => by
  have e := h.hl i hi r
  have := (hv i q).1
  exact r ⟨by omega, by omega⟩
theorem Md.take (h : Md w0 w W lab L k pb a b bv st lg S R es o ob) (hk : 0 < k) (hc : c < 2) (hno : KeyI o.no) :
    Calls Try.prog 16 #[.pointer (some ⟨a c, 0, none⟩), .int .i64 o.no] W fun en W' => ∃ ao n cc L', en = .returned (.tuple #[.agg #[.int .i64 (takeT (S c) o.no), .slice ao n cc], .int .i64 (takeE (S c) o.no)]) ∧ Md w0 w W' lab L' k pb a b bv st lg (upd2 S c (takeS (S c) o.no)) R es o ob ∧ Da W' L' (k + 6) (takeD (S c) o.no) (.slice ao n cc) ∧ Fr k W W' L L' ∧ Ours w lab k (.slice ao n cc) := by
  refine (takeN (h.pl.n c hc) hno (k + 6)).mono ?_
  rintro en W' ⟨v, e, hN, hD, t, hv⟩
  have hl : ∀ i, i < W.heap.size → L i ≠ k + c → tl L W (k + c) (k + 6) v i = L i := fun i hi q => by
    rw [tl_off (fun r => q (hv i r).1), rl_old hi]
  obtain ⟨P, f⟩ := h.pl.stepN hc hN t hl (fun q f hf => h.pl.short q c hc f (List.mem_filter.1 hf).1)
  obtain ⟨ao, cc, rfl⟩ := hD.slice
  exact ⟨ao, _, cc, _, e, h.step hk P f, hD, f, h.fr.ours hv (by omega) (by omega)⟩
theorem Md.dtake (h : Md w0 w W lab L k pb a b bv st lg S R es o ob) (hk : 0 < k) (hc : c < 2) :
    Calls Try.prog 22 #[.pointer (some ⟨b c, 0, none⟩), .int .i64 o.no] W fun en W' => ∃ ao n cc L', en = .returned (.tuple #[.agg #[.int .i64 (takeT (R c) o.no), .slice ao n cc], .int .i64 (takeE (R c) o.no)]) ∧ Md w0 w W' lab L' k pb a b bv st lg S (upd2 R c (takeS (R c) o.no)) es o ob ∧ Da W' L' (k + 6) (takeD (R c) o.no) (.slice ao n cc) ∧ Fr k W W' L L' ∧ Ours w lab k (.slice ao n cc) := by
  refine (dtakeN (h.pl.d c hc) o.no (k + 6)).mono ?_
  rintro en W' ⟨v, e, hN, hD, t, hv⟩
  have hl : ∀ i, i < W.heap.size → L i ≠ k + 2 + c → tl L W (k + 2 + c) (k + 6) v i = L i := fun i hi q => by
    rw [tl_off (fun r => q (hv i r).1), rl_old hi]
  obtain ⟨P, f⟩ := h.pl.stepD hc hN t hl
  obtain ⟨ao, cc, rfl⟩ := hD.slice
  exact ⟨ao, _, cc, _, e, h.step hk P f, hD, f, h.fr.ours hv (by omega) (by omega)⟩
theorem takeD_short {T : St} {no : Int} (h : ∀ f ∈ T.l, f.d.length ≤ 4096) : (takeD T no).length ≤ 4096 := by
  cases hq : findS T no with
  | none => rw [(findS_none hq).2.1]; simp
  | some g => rw [(findS_some hq).2.1]; exact h g (List.mem_of_find?_eq_some hq)
/-- A box of the step's own. -/
structure Bx (w W : World) (L : Nat → Nat) (k x : Nat) (cs : Array Value) : Prop where
  hb : W.heap[x]? = some (.cells cs 28)
  hx : L x = k + 6
  hn : w.heap.size ≤ x
theorem Fr.bx {cs : Array Value} (h : Fr k W W' L L') (g : Bx w W L k x cs) : Bx w W' L' k x cs := by
  have n : ¬ Mine k (L x) := fun r => by have := r.2; have := g.hx; omega
  exact ⟨(h.box g.hb n).1, (h.hl x (heap_lt g.hb) n).trans g.hx, g.hn⟩
theorem Md.box (h : Md w0 w W lab L k pb a b bv st lg S R es o ob) (hk : 0 < k) (cs : Array Value) (hW : W' = W.alloc (.cells cs 28)) :
    Md w0 w W' lab (rl L W (k + 6)) k pb a b bv st lg S R es o ob ∧ Bx w W' (rl L W (k + 6)) k W.heap.size cs ∧ Fr k W W' L (rl L W (k + 6)) := by
  have b1 : Below W.heap.size W W' := by rw [hW]; exact (Below.refl _ W).alloc (Nat.le_refl _) _
  exact ⟨h.below hk b1, ⟨by rw [hW]; exact heap_alloc_new W _, rl_new (Nat.le_refl _), h.fr.t.size⟩, Fr.below b1 (k + 6)⟩
theorem Da.ne_bx {cs : Array Value} (h : Da W L j d v) (g : Bx w W L k x cs) : v.ownBlock ≠ some x := h.ne_cells g.hb (by decide)
/-- The packet is stored into a box that was laid ahead of the call. -/
theorem Md.stored {to : Int} {cs : Array Value} (h : Md w0 w W lab L k pb a b bv st lg S R es o ob) (hk : 0 < k) (hd : Da W L (k + 6) d v) (hv : Ours w lab k v) (g : Bx w W L k x cs) (t : Turns (fun i => i = x) W W') (hb : W'.heap[x]? = some (.cells #[.int .i64 to, v] 28)) :
    Md w0 w W' lab L k pb a b bv st lg S R es o ob ∧ Pk w lab W' L k x to d v := by
  have hm : ∀ i, i < W.heap.size → Mine k (L i) → ¬ i = x := fun i _ q r => by subst r; have := q.2; have := g.hx; omega
  have ho : ob ≠ x := fun q => by
    have := h.op
    rw [q, g.hb] at this
    cases this
  refine ⟨⟨h.pl.turns t hm (fun _ _ _ => rfl), ⟨h.fr.t.trans t (fun i hi q => by have := g.hn; omega), h.fr.hl⟩, h.wk.turns t (fun i q => by rw [q, g.hx]; omega) (fun _ _ => rfl), (t.block ob (heap_lt h.op) ho).trans h.op, h.ob⟩, hb, g.hx, g.hn, ?_, hv⟩
  have n := hd.ne_bx g
  exact ⟨own_turns hd.own t (fun b e q => n (by rw [← q]; exact e)), hd.lb, hd.len⟩
theorem Da.len_eq {ao : Option Addr} {n cc : Nat} (h : Da W L j d (.slice ao n cc)) : d.length = n := by
  obtain ⟨_, _, q⟩ := h.slice
  cases q; rfl
/-- A packet stays where another box turns. -/
theorem Pk.stays {y : Nat} {to : Int} {cs : Array Value} (h : Pk w lab W L k x to d v) (g : Bx w W L k y cs) (hne : x ≠ y) (t : Turns (fun i => i = y) W W') : Pk w lab W' L k x to d v := by
  have n := h.da.ne_bx g
  exact ⟨(t.block x (heap_lt h.hb) hne).trans h.hb, h.hx, h.hn, ⟨own_turns h.da.own t (fun b e q => n (by rw [← q]; exact e)), h.da.lb, h.da.len⟩, h.us⟩
theorem Pk.c0 {to : Int} (h : Pk w lab W L k x to d v) : W.cell? ⟨x, 0, none⟩ = some (.int .i64 to) := by simp [World.cell?, h.hb]
theorem Pk.c1 {to : Int} (h : Pk w lab W L k x to d v) : W.cell? ⟨x, 1, none⟩ = some v := by simp [World.cell?, h.hb]
/-- A list that is no play's joined the book. -/
theorem Md.booked {n : Nat} {xs : List Value} (h : Md w0 w W lab L k pb a b bv st lg S R es o ob) (hk : 0 < k) (q : Kept3 W w1 (fun i => L i = k + 4) bv l bv' es) (hr : W.ownsRow 0 5 1 l n xs) (hl : ∀ i, l.ownBlock = some i → L i = k + 6) (ho : Ours w lab k l) (t : Turns (fun i => i = pb) w1 w') (hb : w'.heap[pb]? = some (.cells (plC a b bv' st lg) 71 (0, 0))) (he : es.length ≤ 1297) :
    ∃ L' es', es'.length = es.length + 3 ∧ Md w0 w w' lab L' k pb a b bv' st lg S R es' o ob ∧ Turns (fun i => Mine k (L i) ∨ l.ownBlock = some i) W w' ∧ ∀ i, i < W.heap.size → ¬ Mine k (L i) → l.ownBlock ≠ some i → L' i = L i := by
  obtain ⟨es', h1, h2⟩ := h.pl.booked q (fun i r m => by have := hl i r; have := m.2; omega) t hb he
  obtain ⟨_, _, _, hT⟩ := q
  have hlb := h.pl.lb
  have T : Turns (fun i => Mine k (L i) ∨ l.ownBlock = some i) W w' := ((hT.mono (G := fun i => Mine k (L i) ∨ l.ownBlock = some i) (fun i _ q => q.elim (fun r => Or.inl (by have : L i = k + 4 := h.pl.bk.kb i r; exact ⟨by omega, by omega⟩)) Or.inr)).trans (t.mono (G := fun i => Mine k (L i) ∨ l.ownBlock = some i) (fun i _ q => by subst q; exact Or.inl ⟨by omega, by omega⟩)) (fun _ _ r => r))
  have H : ∀ i, i < W.heap.size → ¬ Mine k (L i) → l.ownBlock ≠ some i → tl L W (k + 4) (k + 4) l i = L i := fun i hi _ r => by rw [tl_off r, rl_old hi]
  have hob : l.ownBlock ≠ some ob := own_typ hr h.op (by decide)
  refine ⟨_, es', h1, ⟨h2, ⟨h.fr.t.trans T (fun i hi q => ?_), fun i hi q => ?_⟩, h.wk.turns T (fun i q => ?_) (fun i hi => ?_), (T.block ob (heap_lt h.op) (fun q => q.elim h.ob hob)).trans h.op, by rw [H ob (heap_lt h.op) h.ob hob]; exact h.ob⟩, T, H⟩
  · rcases q with q | q
    · refine Classical.byContradiction fun r => ?_
      rw [h.fr.hl i hi r] at q
      exact r q
    · exact ho i q hi
  · have hiW := Nat.lt_of_lt_of_le hi h.fr.t.size
    by_cases r : l.ownBlock = some i
    · exact absurd (ho i r hi) q
    · rw [tl_off r, rl_old hiW]; exact h.fr.hl i hi q
  · rcases q with q | q
    · have := q.1; omega
    · have := hl i q; omega
  · have hz := h.wk.z i hi
    exact H i (Nat.lt_of_lt_of_le hi h.wk.b.size) (fun q => by have := q.1; omega) (fun q => by have := hl i q; omega)
/-- The first packet has been taken. -/
structure Tk1 (w0 w W : World) (lab : Nat → Nat) (k pb : Nat) (a b : Nat → Nat) (bv : Value) (st : Int) (lg : Bool) (S R : Nat → St) (es : List Ke) (o : Op) (ob x : Nat) (to : Int) (d : List Int) (v : Value) : Prop where
  ex : ∃ L, Md w0 w W lab L k pb a b bv st lg S R es o ob ∧ Pk w lab W L k x to d v
end Go.Proofs.Ytpbanjgjljdepaa
