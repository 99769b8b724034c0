/- Many alarms beside one another, and the lists that they hand out. -/
import Derived.Test.YtbopghpfghaoeaaAQ2
import Derived.Test.YtbopghpfghaoeaaAS
namespace Go.Proofs.Ytbopghpfghaoeaa
open Go.RowKit Go.Maps
set_option maxRecDepth 100000

theorem Try.infoPt : (Try.prog.info? 24).map (fun i => (i.zero, i.size, i.bytes)) = some (some (.pointer none), 1, 8) := by kernel_rfl
abbrev pv (ps : List Nat) : List Value := ps.map (fun a => Value.pointer (some ⟨a, 0, none⟩))
/-- The i-th alarm is labelled 10 + i; their row 8. -/
structure Ta (w0 w : World) (lab : Nat → Nat) (av : Value) (ps : List Nat) (Ss : Nat → List (Int × Int)) : Prop where
  bk : Bk w0 lab w
  row : w.ownsRow 0 24 1 av ps.length (pv ps)
  lr : ∀ c, av.ownBlock = some c → lab c = 8
  al : ∀ (i : Nat) a, ps[i]? = some a → AlI w lab (10 + i) a (Ss i)
  hl : ps.length ≤ 40
theorem Ta.turns {F : Nat → Prop} {w0 w w' : World} {lab lab' : Nat → Nat} {av : Value} {ps : List Nat} {Ss : Nat → List (Int × Int)} (h : Ta w0 w lab av ps Ss) (t : Turns F w w') (h0 : ∀ i, F i → lab i ≠ 0) (hF : ∀ i, i < w.heap.size → (lab i = 8 ∨ (10 ≤ lab i ∧ lab i < 50)) → ¬ F i) (hl : ∀ i, i < w.heap.size → lab' i = lab i) : Ta w0 w' lab' av ps Ss :=
  ⟨h.bk.to2 t h0 (fun i hi _ => hl i hi), own_turns h.row t (fun b e => hF b (own_lt h.row e) (Or.inl (h.lr b e))), fun c e => (hl c (own_lt h.row e)).trans (h.lr c e), fun i a ha => (h.al i a ha).turns t (fun j hj e => hF j hj (Or.inr (by have := (List.getElem?_eq_some_iff.1 ha).1; have := h.hl; omega))) hl, h.hl⟩
theorem Ta.below {w0 w w' : World} {lab : Nat → Nat} {av : Value} {ps : List Nat} {Ss : Nat → List (Int × Int)} (h : Ta w0 w lab av ps Ss) (b : Below w.heap.size w w') (j : Nat) : Ta w0 w' (rl lab w j) av ps Ss :=
  h.turns (Below.turns b (fun _ => False)) (fun _ q => q.elim) (fun _ _ _ q => q) (fun _ hi => rl_old hi)
theorem Ta.drew {w0 w : World} {lab : Nat → Nat} {av : Value} {ps : List Nat} {Ss : Nat → List (Int × Int)} (h : Ta w0 w lab av ps Ss) (m : Nat) : Ta w0 (w.drewN m) lab av ps Ss :=
  h.turns (Turns.drewN (fun _ => False) w m) (fun _ q => q.elim) (fun _ _ _ q => q) (fun _ _ => rfl)
/-- What a call leaves. -/
def TaR (w0 w : World) (av : Value) (ps : List Nat) (Ss : Nat → List (Int × Int)) : Prop := ∃ lab, Ta w0 w lab av ps Ss
theorem TaR.bel {w0 w : World} {av : Value} {ps : List Nat} {Ss : Nat → List (Int × Int)} (h : TaR w0 w av ps Ss) : Below w0.heap.size w0 w := by
  obtain ⟨l, T⟩ := h; exact T.bk.b
theorem TaR.drew {w0 w : World} {av : Value} {ps : List Nat} {Ss : Nat → List (Int × Int)} (h : TaR w0 w av ps Ss) (m : Nat) : TaR w0 (w.drewN m) av ps Ss := by
  obtain ⟨l, T⟩ := h; exact ⟨l, T.drew m⟩
theorem TaR.row {w0 w : World} {av : Value} {ps : List Nat} {Ss : Nat → List (Int × Int)} (h : TaR w0 w av ps Ss) : w.ownsRow 0 24 1 av ps.length (pv ps) := by
  obtain ⟨l, T⟩ := h; exact T.row
/-- Behind New. -/
def TaN (w0 w : World) (av : Value) (ps : List Nat) (a : Nat) : Prop := ∃ lab, Ta w0 w lab av ps (fun _ => []) ∧ AlI w lab (10 + ps.length) a []
theorem TaR.new {w0 w : World} {av : Value} {ps : List Nat} (h : TaR w0 w av ps (fun _ => [])) :
    Calls Try.prog 8 #[] w fun e w' => ∃ a, e = .returned (.pointer (some ⟨a, 0, none⟩)) ∧ TaN w0 w' av ps a := by
  obtain ⟨lab, T⟩ := h
  refine (new_I w lab (10 + ps.length)).mono ?_
  rintro e w' ⟨a, rfl, q, b⟩
  exact ⟨a, rfl, _, T.below b _, q⟩
theorem TaN.row {w0 w : World} {av : Value} {ps : List Nat} {a : Nat} (h : TaN w0 w av ps a) : w.ownsRow 0 24 1 av ps.length (pv ps) := by
  obtain ⟨l, T, _⟩ := h; exact T.row
theorem TaN.append {w0 w w3 : World} {av v' : Value} {ps : List Nat} {a : Nat} {o : Obj} (h : TaN w0 w av ps a) (o3 : w3.ownsRow 0 24 1 v' (ps.length + 1) (pv ps ++ [.pointer (some ⟨a, 0, none⟩)])) (l : Laid (w.alloc o) w3 av v' ps.length (ps.length + 1)) (hl : ps.length + 1 ≤ 40) : TaR w0 w3 v' (ps ++ [a]) (fun _ => []) := by
  obtain ⟨lab, T, q⟩ := h
  obtain ⟨t, hb⟩ := Laid.step (w := w) (wr := w) (v := av) (fun b e => Or.inl e) (Turns.refl _ _) l
  have h8 : ∀ i, av.ownBlock = some i → lab i = 8 := T.lr
  refine ⟨rl lab w 8, T.bk.to2 t (fun i e => by rw [h8 i e]; decide) (fun _ hi _ => rl_old hi), ?_, ?_, ?_, by simpa using hl⟩
  · simpa [pv] using o3
  · intro c hc
    rcases hb c hc with r | r
    · rw [rl_old (own_lt T.row r)]; exact h8 c r
    · exact rl_new r
  · intro i x hx
    rcases Nat.lt_or_ge i ps.length with r | r
    · rw [List.getElem?_append_left r] at hx
      exact (T.al i x hx).turns t (fun j hj e q => by have := h8 j q; omega) (fun _ hi => rl_old hi)
    · rw [List.getElem?_append_right r] at hx
      have : i = ps.length := by
        have := (List.getElem?_eq_some_iff.1 hx).1
        simp at this; omega
      subst this
      simp at hx
      subst hx
      exact q.turns t (fun j hj e r => by have := h8 j r; omega) (fun _ hi => rl_old hi)
/-- The first j show S', the others S. -/
def mix (S S' : List (Int × Int)) (j : Nat) : Nat → List (Int × Int) := fun i => if i < j then S' else S
theorem mix_zero (S S' : List (Int × Int)) : mix S S' 0 = fun _ => S := by funext i; simp [mix]
theorem mix_at (S S' : List (Int × Int)) (j : Nat) : mix S S' j j = S := by simp [mix]
theorem Ta.one {w0 w w' : World} {lab lab' : Nat → Nat} {av : Value} {ps : List Nat} {S S' : List (Int × Int)} {j a : Nat} (h : Ta w0 w lab av ps (mix S S' j)) (hj : ps[j]? = some a) (t : Turns (fun i => lab i = 10 + j) w w') (hl : ∀ i, i < w.heap.size → lab' i = lab i) (hA : AlI w' lab' (10 + j) a S') : Ta w0 w' lab' av ps (mix S S' (j + 1)) :=
  ⟨h.bk.to2 t (fun i e => by have e : lab i = 10 + j := e; omega) (fun i hi _ => hl i hi), own_turns h.row t (fun b e => by have := h.lr b e; show ¬ lab b = 10 + j; omega), fun c e => (hl c (own_lt h.row e)).trans (h.lr c e), fun i x hx => by
    by_cases q : i = j
    · subst q
      rw [hj] at hx
      cases hx
      simpa [mix] using hA
    · have := (h.al i x hx).turns t (fun m hm e r => by have r : lab m = 10 + j := r; omega) hl
      have e : mix S S' (j + 1) i = mix S S' j i := by
        unfold mix
        by_cases r : i < j
        · rw [if_pos r, if_pos (by omega)]
        · rw [if_neg r, if_neg (by omega)]
      rw [e]; exact this, h.hl⟩
theorem TaR.set {w0 w : World} {av : Value} {ps : List Nat} {S : List (Int × Int)} {x t : Int} {j a : Nat} (h : TaR w0 w av ps (mix S (setS OI S x t) j)) (hj : ps[j]? = some a) (hx : -9223372036854775808 ≤ x ∧ x ≤ 9223372036854775807) (hl : S.length < 4398046511104) :
    Calls Try.prog 9 #[.pointer (some ⟨a, 0, none⟩), .int .i64 x, .int .i64 t] w fun e w' => e = .returned (.tuple #[]) ∧ TaR w0 w' av ps (mix S (setS OI S x t) (j + 1)) := by
  obtain ⟨lab, T⟩ := h
  have hA := T.al j a hj
  rw [mix_at] at hA
  refine (setA_I hA x t (okI hx) hl).mono ?_
  rintro e w' ⟨rfl, q, tt⟩
  exact ⟨rfl, _, T.one hj tt (fun _ hi => rl_old hi) q⟩
theorem TaR.all {w0 w : World} {av : Value} {ps : List Nat} {S S' : List (Int × Int)} (h : TaR w0 w av ps (mix S S' ps.length)) : TaR w0 w av ps (fun _ => S') := by
  obtain ⟨lab, T⟩ := h
  exact ⟨lab, { T with al := fun i a ha => by have := T.al i a ha; rw [mix, if_pos (List.getElem?_eq_some_iff.1 ha).1] at this; exact this }⟩
/-- The lists us, of which vs lie in the row lv: the i-th is labelled 200 + i, the row 9. -/
structure Tl (w0 w : World) (lab : Nat → Nat) (av : Value) (ps : List Nat) (S S' : List (Int × Int)) (D : List Int) (lv : Value) (vs us : List Value) : Prop where
  ta : Ta w0 w lab av ps (mix S S' us.length)
  row : w.ownsRow 0 29 1 lv vs.length vs
  lr : ∀ c, lv.ownBlock = some c → lab c = 9
  ent : ∀ (i : Nat) v, us[i]? = some v → w.ownsRow 0 3 1 v D.length (D.map (Value.int .i64)) ∧ ∀ c, v.ownBlock = some c → lab c = 200 + i
def TlR (w0 w : World) (av : Value) (ps : List Nat) (S S' : List (Int × Int)) (D : List Int) (lv : Value) (vs us : List Value) : Prop := ∃ lab, Tl w0 w lab av ps S S' D lv vs us
theorem TlR.row {w0 w : World} {av : Value} {ps : List Nat} {S S' : List (Int × Int)} {D : List Int} {lv : Value} {vs us : List Value} (h : TlR w0 w av ps S S' D lv vs us) : w.ownsRow 0 29 1 lv vs.length vs := by
  obtain ⟨l, T⟩ := h; exact T.row
theorem TlR.rowA {w0 w : World} {av : Value} {ps : List Nat} {S S' : List (Int × Int)} {D : List Int} {lv : Value} {vs us : List Value} (h : TlR w0 w av ps S S' D lv vs us) : w.ownsRow 0 24 1 av ps.length (pv ps) := by
  obtain ⟨l, T⟩ := h; exact T.ta.row
theorem TlR.bel {w0 w : World} {av : Value} {ps : List Nat} {S S' : List (Int × Int)} {D : List Int} {lv : Value} {vs us : List Value} (h : TlR w0 w av ps S S' D lv vs us) : Below w0.heap.size w0 w := by
  obtain ⟨l, T⟩ := h; exact T.ta.bk.b
theorem TaR.lists {w0 w : World} {av : Value} {ps : List Nat} {S : List (Int × Int)} (h : TaR w0 w av ps (fun _ => S)) (S' : List (Int × Int)) (D : List Int) : TlR w0 w av ps S S' D (.slice none 0 0) [] [] := by
  obtain ⟨lab, T⟩ := h
  exact ⟨lab, by rw [List.length_nil, mix_zero]; exact T, World.ownsRow_nil _ _ _ _, fun c hc => (by cases hc), fun i v hv => (by simp at hv)⟩
theorem TlR.due {w0 w : World} {av : Value} {ps : List Nat} {S : List (Int × Int)} {now : Int} {lv : Value} {vs : List Value} {a : Nat} (h : TlR w0 w av ps S (leftS S now) ((dueS S now).map Prod.fst) lv vs vs) (hj : ps[vs.length]? = some a) :
    Calls Try.prog 10 #[.pointer (some ⟨a, 0, none⟩), .int .i64 now] w fun e w' => ∃ v, e = .returned v ∧ TlR w0 w' av ps S (leftS S now) ((dueS S now).map Prod.fst) lv vs (vs ++ [v]) := by
  obtain ⟨lab, T⟩ := h
  have hA := T.ta.al _ a hj
  rw [mix_at] at hA
  refine (dueA_I hA now (200 + vs.length)).mono ?_
  rintro e w' ⟨v, rfl, l', o, hv, q, hl, t⟩
  rw [kvI_eq] at o
  refine ⟨v, rfl, l', ?_, own_turns T.row t (fun b e => by have := T.lr b e; show ¬ lab b = _; omega), fun c e => (hl c (own_lt T.row e)).trans (T.lr c e), fun i x hx => ?_⟩
  · rw [List.length_append]; exact T.ta.one hj t hl q
  · rcases Nat.lt_or_ge i vs.length with r | r
    · rw [List.getElem?_append_left r] at hx
      obtain ⟨h1, h2⟩ := T.ent i x hx
      have hps := (List.getElem?_eq_some_iff.1 hj).1
      have := T.ta.hl
      exact ⟨own_turns h1 t (fun b e => by have := h2 b e; show ¬ lab b = _; omega), fun c e => (hl c (own_lt h1 e)).trans (h2 c e)⟩
    · rw [List.getElem?_append_right r] at hx
      have : i = vs.length := by
        have := (List.getElem?_eq_some_iff.1 hx).1
        simp at this; omega
      subst this
      simp at hx
      subst hx
      exact ⟨by simpa using o, fun c hc => (hv c hc).2⟩
theorem TlR.append {w0 w w3 : World} {av : Value} {ps : List Nat} {S S' : List (Int × Int)} {D : List Int} {lv v v' : Value} {vs : List Value} {o : Obj} (h : TlR w0 w av ps S S' D lv vs (vs ++ [v])) (o3 : w3.ownsRow 0 29 1 v' (vs.length + 1) (vs ++ [v])) (l : Laid (w.alloc o) w3 lv v' vs.length (vs.length + 1)) : TlR w0 w3 av ps S S' D v' (vs ++ [v]) (vs ++ [v]) := by
  obtain ⟨lab, T⟩ := h
  obtain ⟨t, hb⟩ := Laid.step (w := w) (wr := w) (v := lv) (fun b e => Or.inl e) (Turns.refl _ _) l
  have h9 : ∀ i, lv.ownBlock = some i → lab i = 9 := T.lr
  refine ⟨rl lab w 9, T.ta.turns t (fun i e => by rw [h9 i e]; decide) (fun i hi e r => by have := h9 i r; omega) (fun _ hi => rl_old hi), by simpa using o3, fun c hc => ?_, fun i x hx => ?_⟩
  · rcases hb c hc with r | r
    · rw [rl_old (own_lt T.row r)]; exact h9 c r
    · exact rl_new r
  · obtain ⟨h1, h2⟩ := T.ent i x hx
    exact ⟨own_turns h1 t (fun b e r => by have := h2 b e; have := h9 b r; omega), fun c e => (rl_old (own_lt h1 e)).trans (h2 c e)⟩
/-- Beside the book: j lists have been kept; wv is the list of what was wanted, labelled 7. -/
structure Tb (w0 w : World) (lab : Nat → Nat) (D : List Int) (lv : Value) (vs : List Value) (bw : Nat) (wv : Value) (kb j : Nat) (es : List Ke) : Prop where
  bk : Bk w0 lab w
  row : w.ownsRow 0 29 1 lv vs.length vs
  lr : ∀ c, lv.ownBlock = some c → lab c = 9
  ent : ∀ (i : Nat) v, j ≤ i → vs[i]? = some v → w.ownsRow 0 3 1 v D.length (D.map (Value.int .i64)) ∧ ∀ c, v.ownBlock = some c → lab c = 200 + i
  was : w.ownsRow bw 3 1 wv D.length (D.map (Value.int .i64))
  lw : ∀ c, wv.ownBlock = some c → lab c = 7
  K : Bw w lab kb es
  hes : es.length = 3 * j
def TbR (w0 w : World) (D : List Int) (lv : Value) (vs : List Value) (wv : Value) (kb j : Nat) : Prop := ∃ lab bw es, Tb w0 w lab D lv vs bw wv kb j es
theorem TbR.row {w0 w : World} {D : List Int} {lv wv : Value} {vs : List Value} {kb j : Nat} (h : TbR w0 w D lv vs wv kb j) : w.ownsRow 0 29 1 lv vs.length vs := by
  obtain ⟨_, _, _, T⟩ := h; exact T.row
theorem TbR.bel {w0 w : World} {D : List Int} {lv wv : Value} {vs : List Value} {kb j : Nat} (h : TbR w0 w D lv vs wv kb j) : Below w0.heap.size w0 w := by
  obtain ⟨_, _, _, T⟩ := h; exact T.bk.b
/-- Behind Ints and the book's box. -/
theorem TlR.book {w0 w w1 : World} {av : Value} {ps : List Nat} {S S' : List (Int × Int)} {D : List Int} {lv wv : Value} {vs : List Value} (h : TlR w0 w av ps S S' D lv vs vs) (o : w1.ownsRow w.heap.size 3 1 wv D.length (D.map (Value.int .i64))) (b : Below w.heap.size w w1) : TbR w0 (w1.alloc (.cells #[.slice none 0 0, .slice none 0 0] 71)) D lv vs wv w1.heap.size 0 := by
  obtain ⟨lab, T⟩ := h
  have b2 : Below w1.heap.size w1 (w1.alloc (.cells #[.slice none 0 0, .slice none 0 0] 71)) := (Below.refl _ w1).alloc (Nat.le_refl _) _
  have t1 := Below.turns b (fun _ => False)
  have t2 := Below.turns b2 (fun _ => False)
  have T1 := (T.ta.below b 7).below b2 5
  have hl : ∀ i, i < w.heap.size → rl (rl lab w 7) w1 5 i = lab i := fun i hi => (rl_old (Nat.lt_of_lt_of_le hi b.size)).trans (rl_old hi)
  refine ⟨rl (rl lab w 7) w1 5, w.heap.size, [], T1.bk, own_turns (own_turns T.row t1 (fun _ _ q => q)) t2 (fun _ _ q => q), fun c e => (hl c (own_lt T.row e)).trans (T.lr c e), fun i v _ hv => ?_, own_turns o t2 (fun _ _ q => q), fun c e => ?_, ⟨.slice none 0 0, .slice none 0 0, ⟨heap_alloc_new _ _, World.ownsRow_nil _ _ _ _, World.ownsRow_nil _ _ _ _, rl_new (Nat.le_refl _), fun _ q => (by cases q), fun _ q => (by cases q), fun i e he => (by simp at he), by simp⟩⟩, rfl⟩
  · obtain ⟨h1, h2⟩ := T.ent i v hv
    exact ⟨own_turns (own_turns h1 t1 (fun _ _ q => q)) t2 (fun _ _ q => q), fun c e => (hl c (own_lt h1 e)).trans (h2 c e)⟩
  · rw [rl_old (own_lt o e)]
    exact rl_new (o.lt c e).1
theorem TbR.same {w0 w : World} {D : List Int} {lv wv v : Value} {vs : List Value} {kb j : Nat} (h : TbR w0 w D lv vs wv kb j) (hv : vs[j]? = some v) (hD : D.length ≤ 200000000000000) :
    Calls Try.prog 37 #[v, wv] w fun e w' => e = .returned (.bool true) ∧ TbR w0 w' D lv vs wv kb j := by
  obtain ⟨lab, bw, es, T⟩ := h
  obtain ⟨o, _⟩ := T.ent j v (Nat.le_refl _) hv
  obtain ⟨a1, c1, hv1, L1⟩ := Li.row o
  obtain ⟨a2, c2, hv2, L2⟩ := Li.row T.was
  rw [hv1, hv2]
  refine (sameI_any a1 a2 _ _ c1 c2 _ _ w hD L1 L2).mono ?_
  rintro e w' ⟨rfl, m, rfl⟩
  rw [← hv2]
  have t := Turns.drewN (fun _ => False) w m
  exact ⟨by simp, lab, bw, es, T.bk.drew m, own_turns T.row t (fun _ _ q => q), T.lr, fun i x hi hx => ⟨own_turns (T.ent i x hi hx).1 t (fun _ _ q => q), (T.ent i x hi hx).2⟩, own_turns T.was t (fun _ _ q => q), T.lw, T.K.turns t (fun _ _ _ q => q) (fun _ _ _ => rfl), T.hes⟩
theorem TbR.keep {w0 w : World} {D : List Int} {lv wv v : Value} {vs : List Value} {kb j : Nat} (h : TbR w0 w D lv vs wv kb j) (hv : vs[j]? = some v) (hD : D.length ≤ 3000000) (hj : j < 40) :
    Calls Try.prog 35 #[.pointer (some ⟨kb, 0, none⟩), v] w fun e w' => e = .returned (.tuple #[]) ∧ TbR w0 w' D lv vs wv kb (j + 1) := by
  obtain ⟨lab, bw, es, T⟩ := h
  obtain ⟨o, hlab⟩ := T.ent j v (Nat.le_refl _) hv
  obtain ⟨lb, hlb⟩ : ∃ lb : Nat → Nat, lb = fun i => if lab i = 200 + j then 4 else if lab i = 4 then 6 else lab i := ⟨_, rfl⟩
  have e1 : ∀ i, lab i = 200 + j → lb i = 4 := fun i e => by rw [hlb]; show (if _ then _ else _) = _; rw [if_pos e]
  have e2 : ∀ i, lab i ≠ 200 + j → lab i ≠ 4 → lb i = lab i := fun i e r => by rw [hlb]; show (if _ then _ else _) = _; rw [if_neg e, if_neg r]
  have hK : Bw w lb kb es := T.K.turns (Turns.refl (fun _ => False) w) (fun _ _ _ q => q) (fun i _ q => e2 i (by omega) (by omega))
  have hes := T.hes
  refine (keep_any hK j T.hes v _ _ o (fun b e => e1 b (hlab b e)) hD (by omega)).mono ?_
  rintro r w' ⟨rfl, g1, g2, lab', K, t, hl⟩
  have hF : ∀ i, lab i ≠ 200 + j → lab i ≠ 4 → lab i ≠ 5 → ¬ (lb i = 4 ∨ lb i = 5) := fun i a b c => by rw [e2 i a b]; omega
  have hL : ∀ i, i < w.heap.size → lab i ≠ 200 + j → lab i ≠ 4 → lab' i = lab i := fun i hi a b => by rw [hl i hi (by rw [e2 i a b]; exact b), e2 i a b]
  refine ⟨rfl, lab', bw, _, T.bk.to2 t (fun i q z => ?_) (fun i hi q => hL i hi (by omega) (by omega)), own_turns T.row t (fun b e => by have := T.lr b e; exact hF b (by omega) (by omega) (by omega)), fun c e => (by have := T.lr c e; rw [hL c (own_lt T.row e) (by omega) (by omega)]; exact this), fun i x hi hx => ?_, own_turns T.was t (fun b e => by have := T.lw b e; exact hF b (by omega) (by omega) (by omega)), fun c e => (by have := T.lw c e; rw [hL c (own_lt T.was e) (by omega) (by omega)]; exact this), K, by simp; omega⟩
  · rw [e2 i (by omega) (by omega)] at q; omega
  · obtain ⟨h1, h2⟩ := T.ent i x (by omega) hx
    exact ⟨own_turns h1 t (fun b e => by have := h2 b e; exact hF b (by omega) (by omega) (by omega)), fun c e => (by have := h2 c e; rw [hL c (own_lt h1 e) (by omega) (by omega)]; exact this)⟩
theorem TbR.whole {w0 w : World} {D : List Int} {lv wv : Value} {vs : List Value} {kb j : Nat} (h : TbR w0 w D lv vs wv kb j) :
    Calls Try.prog 36 #[.pointer (some ⟨kb, 0, none⟩)] w fun e w' => e = .returned (.bool true) ∧ Below w0.heap.size w0 w' := by
  obtain ⟨lab, bw, es, T⟩ := h
  refine (whole_any T.K).mono ?_
  rintro e w' ⟨rfl, m, rfl⟩
  exact ⟨rfl, (T.bk.drew m).b⟩
end Go.Proofs.Ytbopghpfghaoeaa
