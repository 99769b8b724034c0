/- JournalSaves: one more save. -/
import Derived.Test.YtnmdnglbpkpfdaaGreatDoorPk14
import Derived.Test.YtnmdnglbpkpfdaaGreatDoorPk03
namespace Go.Proofs.YtnmdnglbpkpfdaaGreatDoor
open Go.RowKit Go.Maps
set_option maxRecDepth 100000

theorem SvY.snoc {B : Nat} {w w3 w4 : World} {G : Nat → Prop} {jb bm tb db q N K : Nat} {wv svv : Value} {la wm ns : Nat} {m : List (Nat × Nat)} {f : Nat → List Int} {sv sv' : Value} {l : List SvI} {s : St} {ss : List St} {sI : SvI} {v' u' : Value} {g4 c4 : Nat} {o : Obj} {tw : Nat} {ov : Value} {os : List Nat} {ys : List It}
    (h : SvY B w G jb bm tb db q N K wv svv la wm ns m f sv l s ss) (So : StOk w G s m f) (k : Kp G w w3) (X3 : Tx w3 db F40 40 N G jb 2 30 1 0 29 bm 0 [] (fun _ => []) tb wm ns m f sv' ((la + 1 : Nat) : Int)) (V3 : Svs w3 G tb wm sv' (l ++ [sI]) (la + 1)) (h1 : sI.mark = la + 1) (h2 : sI.m = m) (h3 : sI.f = f) (h4 : sI.hn = ns) (lv' : ∀ b, sv'.ownBlock = some b → B ≤ b)
    (xv : Wt w3 G v' s.xs) (nu : Ns w3 G u' (m.map (·.1))) (fv : ∀ b, v'.ownBlock = some b → w.heap.size ≤ b)
    (ho4 : w4.ownsRow 0 54 3 (.slice (some ⟨g4, 0, none⟩) (ss.length + 1) c4) (ss.length + 1) (stC ss ++ [.int .i64 ((la + 1 : Nat) : Int), v', u'])) (hg4 : (w3.alloc o).grownBy w4 svv.ownBlock) (hat4 : svv.ownBlock = some g4 ∨ g4 = (w3.alloc o).heap.size) (hB : B ≤ w.heap.size) (T : Tn w3 G tw db ov wv os ys) :
    SvY B w4 G jb bm tb db q N (K + 1) wv (.slice (some ⟨g4, 0, none⟩) (ss.length + 1) c4) (la + 1) wm ns m f sv' (l ++ [sI]) s (ss ++ [⟨la + 1, v', u', s.xs⟩]) ∧ StOk w4 G s m f ∧ Tn w4 G tw db ov wv os ys ∧ Turns (fun i => svv.ownBlock = some i) w3 w4 := by
  have t : Turns (fun i => svv.ownBlock = some i) w3 w4 := (Turns.alloc _ w3 o).trans (Turns.grown hg4 (fun b hb => hb)) (fun _ _ e => e)
  have r3 := k.row h.row (by decide) h.gr
  have box3 := k.block _ _ _ _ h.gq h.box (by decide)
  have hs3 : (w3.alloc o).heap.size = w3.heap.size + 1 := by simp
  have P : Tx w4 db F40 40 N G jb 2 30 1 0 29 bm 0 [] (fun _ => []) tb wm ns m f sv' ((la + 1 : Nat) : Int) ∧ Svs w4 G tb wm sv' (l ++ [sI]) (la + 1) ∧ w4.heap[q]? = some (.cells #[.int .i64 0, s.v, s.u] 54) ∧ (∀ s' m' f', StOk w3 G s' m' f' → StOk w4 G s' m' f') ∧ Tn w4 G tw db ov wv os ys := by
    have hbx : w4.heap[q]? = some (.cells #[.int .i64 0, s.v, s.u] 54) := (t.block q (heap_lt box3) h.qs).trans box3
    rcases r3.2 with ⟨hv, _⟩ | ⟨g, cap, cur, hv, _, hh, _⟩
    · have b4 : Below w3.heap.size w3 w4 := t.below (fun i e => by rw [hv] at e; cases e) (Nat.le_refl _)
      exact ⟨X3.below b4, V3.turns (Below.turns b4 (fun _ => False)) (fun _ _ => id) (fun _ _ => ⟨id, id, id, fun _ _ => id⟩), hbx, fun s' m' f' hs => hs.kp (Kp.below b4), T.kp (Kp.below b4)⟩
    · have u : Turns (fun i => i = g) w3 w4 := t.mono (fun i _ e => by rw [hv] at e; cases e; rfl)
      exact ⟨X3.turn1 hh (by decide) (by decide) (h.gr g (by rw [hv]; rfl)) u, V3.turn1 hh (by decide) (by decide) (by decide) (by decide) u, hbx, fun s' m' f' hs => hs.turnQ hh u, T.turnQ hh u⟩
  obtain ⟨X4, V4, box4, hst, T4⟩ := P
  have So3 := So.kp k
  obtain ⟨gn, cn, hv⟩ := So.x.form So.len
  have hkn := h.kn
  have hks := k.size
  refine ⟨⟨X4, V4, box4, h.gq, h.mo, ?_, fun b hb => ?_, by simp [h.len], fun i t' e ht he => ?_, fun t' ht e => ?_, h.aw, fun e => ?_, h.lw, lv', h.ls, fun b hb => ?_, by simp; omega⟩, hst _ _ _ So3, T4, t⟩
  · rw [List.length_append, stC_snoc]
    exact ho4
  · have hb : some g4 = some b := hb
    cases hb
    exact hat4.elim (h.gr g4) (fun e r => by have := X3.D.lt g4 r; omega)
  · by_cases hi : i < ss.length
    · rw [List.getElem?_append_left hi] at ht
      rw [List.getElem?_append_left (by rw [← h.len]; exact hi)] at he
      obtain ⟨a, b, c, d⟩ := h.all i t' e ht he
      exact ⟨a, hst _ _ _ (b.kp k), c, by omega⟩
    · have hl : i < (ss ++ [(⟨la + 1, v', u', s.xs⟩ : St)]).length := (List.getElem?_eq_some_iff.1 ht).1
      rw [List.length_append] at hl
      have hi2 : i = ss.length := by simp at hl; omega
      rw [hi2, List.getElem?_append_right (Nat.le_refl _)] at ht
      rw [hi2, h.len, List.getElem?_append_right (Nat.le_refl _)] at he
      simp at ht he
      subst ht he
      refine ⟨h1.symm, hst _ _ _ ?_, ?_, by omega⟩
      · rw [h2, h3]
        exact ⟨xv, So.len, nu, So.see⟩
      · rw [h2]; exact h.mo
  · rcases List.mem_append.1 ht with ht | ht
    · exact h.ap t' ht e
    · simp at ht
      subst ht
      have e' : v'.ownBlock = some gn := by rw [hv] at e; exact e
      have e1 := fv gn e'
      have e2 := (So.x.row.lt gn (by rw [hv]; rfl)).2
      omega
  · have e : some g4 = some q := e
    cases e
    exact hat4.elim h.qs (fun e => by have := heap_lt box3; omega)
  · have hb : some g4 = some b := hb
    cases hb
    exact hat4.elim (h.lr g4) (fun e => by omega)
end Go.Proofs.YtnmdnglbpkpfdaaGreatDoor

/- JournalSaves: back to a save. -/
namespace Go.Proofs.YtnmdnglbpkpfdaaGreatDoor
open Go.RowKit Go.Maps
set_option maxRecDepth 100000

theorem stC_take (l : List St) : ∀ a : Nat, (stC l).take (a * 3) = stC (l.take a) := by
  induction l with
  | nil => intro a; simp [stC]
  | cons s l ih =>
    intro a
    cases a with
    | zero => simp [stC]
    | succ a =>
      have := ih a
      rw [show (a + 1) * 3 = a * 3 + 1 + 1 + 1 by omega]
      simp only [stC, List.flatMap_cons, St.cells, List.take_succ_cons, List.cons_append, List.nil_append] at *
      rw [this]
/-- The first ones of a row of one's own. -/
theorem own_take {w : World} {base e size g cap n a : Nat} {xs : List Value} (h : w.ownsRow base e size (.slice (some ⟨g, 0, none⟩) n cap) n xs) (ha : a ≤ n) : w.ownsRow base e size (.slice (some ⟨g, 0, none⟩) a cap) a (xs.take (a * size)) := by
  obtain ⟨h1, h2⟩ := h
  have hm : a * size ≤ n * size := Nat.mul_le_mul_right _ ha
  rcases h2 with ⟨q, _⟩ | ⟨g', cap', cur, hv, hg, hh, hn, hcap, hsz, htake⟩
  · cases q
  · cases hv
    refine ⟨by rw [List.length_take, h1, Nat.min_eq_left hm], .inr ⟨g, cap, cur, rfl, hg, hh, by omega, hcap, hsz, ?_⟩⟩
    rw [← htake, List.take_take, Nat.min_eq_left hm]
theorem SvY.cut {B : Nat} {w w3 w4 : World} {G : Nat → Prop} {jb bm tb db q N K : Nat} {wv : Value} {gs cs la wm ns : Nat} {m : List (Nat × Nat)} {f : Nat → List Int} {sv sv' : Value} {l : List SvI} {s : St} {ss : List St} {wm' j : Nat} {eI : SvI} {t : St} {v' u' : Value} {tw : Nat} {ov : Value} {os : List Nat} {ys : List It}
    (h : SvY B w G jb bm tb db q N K wv (.slice (some ⟨gs, 0, none⟩) ss.length cs) la wm ns m f sv l s ss) (k : Kp G w w3) (hi : l[j]? = some eI) (ht : ss[j]? = some t)
    (X3 : Tx w3 db F40 40 N G jb 2 30 1 0 29 bm 0 [] (fun _ => []) tb wm' eI.hn eI.m eI.f sv' (la : Int)) (V3 : Svs w3 G tb wm' sv' (l.take (j + 1)) la) (lwm : w.heap.size ≤ wm') (ob : sv'.ownBlock = sv.ownBlock) (hB : B ≤ w.heap.size)
    (xv : Wt w3 G v' t.xs) (nu : Ns w3 G u' (eI.m.map (·.1))) (fv : ∀ b, v'.ownBlock = some b → w.heap.size ≤ b) (T : Tn w3 G tw db ov wv os ys) (hw : ∀ b, wv.ownBlock = some b → b < w.heap.size)
    (u : Turns (fun i => i = q) w3 w4) (b4 : w4.heap[q]? = some (.cells #[.int .i64 0, v', u'] 54)) :
    SvY B w4 G jb bm tb db q N (K + 1) wv (.slice (some ⟨gs, 0, none⟩) (j + 1) cs) la wm' eI.hn eI.m eI.f sv' (l.take (j + 1)) ⟨0, v', u', t.xs⟩ (ss.take (j + 1)) ∧ StOk w4 G ⟨0, v', u', t.xs⟩ eI.m eI.f ∧ Tn w4 G tw db ov wv os ys := by
  have r3 := k.row h.row (by decide) h.gr
  have box3 := k.block _ _ _ _ h.gq h.box (by decide)
  have hkn := h.kn
  have hjl : j < ss.length := (List.getElem?_eq_some_iff.1 ht).1
  obtain ⟨a1, a2, a3, a4⟩ := h.all j t eI ht hi
  have So3 : StOk w3 G ⟨0, v', u', t.xs⟩ eI.m eI.f := ⟨xv, a2.len, nu, a2.see⟩
  obtain ⟨gv, cv, hv⟩ := xv.form a2.len
  have lgv := fv gv (by rw [hv]; rfl)
  have hlen : (ss.take (j + 1)).length = j + 1 := by rw [List.length_take]; omega
  refine ⟨⟨X3.turn1 box3 (by decide) (by decide) h.gq u, V3.turn1 box3 (by decide) (by decide) (by decide) (by decide) u, b4, h.gq, a3, ?_, h.gr, ?_, fun i t' e ht' he => ?_, fun t' ht' e => ?_, fun e => ?_, h.qs, Nat.le_trans hB lwm, fun b hb => h.lv b (by rw [← ob]; exact hb), fun b hb => Nat.le_trans hB (fv b hb), h.lr, ?_⟩, So3.turnQ box3 u, T.turnQ box3 u⟩
  · rw [hlen, ← stC_take]
    exact own_turns (own_take r3 (by omega)) u (fun b hb e => h.qs (by rw [← e]; exact hb))
  · have := h.len
    rw [List.length_take, List.length_take]; omega
  · have hij : i < j + 1 := by have := (List.getElem?_eq_some_iff.1 ht').1; omega
    rw [List.getElem?_take_of_lt hij] at ht' he
    obtain ⟨c1, c2, c3, c4⟩ := h.all i t' e ht' he
    exact ⟨c1, (c2.kp k).turnQ box3 u, c3, by omega⟩
  · have hm : t' ∈ ss := List.mem_of_mem_take ht'
    obtain ⟨i, hil, hit⟩ := List.getElem_of_mem hm
    have hit' : ss[i]? = some t' := by rw [List.getElem?_eq_getElem hil, hit]
    have hil2 : i < l.length := by rw [← h.len]; exact hil
    obtain ⟨c1, c2, c3, c4⟩ := h.all i t' l[i] hit' (List.getElem?_eq_getElem hil2)
    have e' : t'.v.ownBlock = some gv := by rw [e]; show v'.ownBlock = _; rw [hv]; rfl
    have := (c2.x.row.lt gv e').2
    omega
  · have e' : wv.ownBlock = some gv := by rw [e]; show v'.ownBlock = _; rw [hv]; rfl
    have := hw gv e'
    omega
  · rw [List.length_take]; omega
end Go.Proofs.YtnmdnglbpkpfdaaGreatDoor

/- JournalSaves: edits; what its loop holds. -/
namespace Go.Proofs.YtnmdnglbpkpfdaaGreatDoor
open Go.RowKit Go.Maps
set_option maxRecDepth 100000

theorem put_see {m : List (Nat × Nat)} {f fa : Nat → List Int} {xs : List It} (hr : Rising m) (h : ∀ (k o : Nat) (x : It), (outs 40)[k]? = some o → xs[k]? = some x → x.bs = seesF F40 m f [] fa o) {j o g : Nat} (hoj : (outs 40)[j]? = some o) (y : It) : ∀ (k o' : Nat) (x : It), (outs 40)[k]? = some o' → (xs.set j y)[k]? = some x → x.bs = seesF F40 (mput m o g) (updF f o y.bs) [] fa o' := by
  intro k o' x ho hx
  by_cases e : j = k
  · subst e
    rw [hoj] at ho
    cases ho
    have hl : j < (xs.set j y).length := (List.getElem?_eq_some_iff.1 hx).1
    rw [List.length_set] at hl
    rw [List.getElem?_set_self hl] at hx
    cases hx
    unfold seesF
    rw [lk_mput m o g o hr, if_pos rfl]
    simp [updF]
  · rw [List.getElem?_set_ne e] at hx
    have hnd : (outs 40).Nodup := by rw [outs_40]; decide
    have hoo : ¬ o = o' := fun q => e ((List.getElem?_inj (List.getElem?_eq_some_iff.1 hoj).1 hnd).1 (by rw [hoj, ho, q]))
    rw [h k o' x ho hx]
    unfold seesF
    rw [lk_mput m o g o' hr, if_neg hoo]
    simp [updF, show ¬ o' = o from fun q => hoo q.symm]
theorem StOk.at {w : World} {G : Nat → Prop} {s : St} {m : List (Nat × Nat)} {f : Nat → List Int} (h : StOk w G s m f) {gn cn j : Nat} {x : It} (hv : s.v = .slice (some ⟨gn, 0, none⟩) 10 cn) (hj : j < 10) (hx : s.xs[j]? = some x) : w.cell? ⟨gn, j, none⟩ = some (.slice (some ⟨x.g, 0, none⟩) 512 x.cap) := by
  have r := h.x.row
  rw [h.len, hv] at r
  rw [r.cellAt j (by omega), List.getElem?_map, hx]
  rfl
theorem Tryz.infoSt : (Tryz.prog.info? 54).map (fun i => (i.zero, i.size, i.bytes)) = some (some (.agg #[.int .i64 0, .slice none 0 0, .slice none 0 0]), 3, 56) := by kernel_rfl
theorem cell_three9 (w : World) (x y z : Value) (t : TypeId) : ∀ j u, [x, y, z][j]? = some u → (w.alloc (.cells #[x, y, z] t)).cell? ((⟨w.heap.size, 0, none⟩ : Addr).add j) = some u := by
  intro j u hj
  match j, hj with
  | 0, hj => simp at hj; subst hj; simp [Addr.add]
  | 1, hj => simp at hj; subst hj; simp [Addr.add]
  | 2, hj => simp at hj; subst hj; simp [Addr.add]
theorem Jn.below {w w' : World} {d : Nat} {S : DevS} {k N : Nat} {G : Nat → Prop} {jb st sz : Nat} {seq : Int} {place : Nat} {free : Int} {bm nd : Nat} {a : List (Nat × Nat)} {fa : Nat → List Int} (h : Jn w d S k N G jb st sz seq place free bm nd a fa) (b : Below w.heap.size w w') : Jn w' d S k N G jb st sz seq place free bm nd a fa :=
  ⟨h.D.below b, (b.block jb (heap_lt h.J)).trans h.J, h.A.turns (Below.turns b (fun _ => False)) id, h.VA.below b, h.gj, h.ga, h.gva, h.ja⟩
theorem Jn.turn1 {w w' : World} {d : Nat} {S : DevS} {k N : Nat} {G : Nat → Prop} {jb st sz : Nat} {seq : Int} {place : Nat} {free : Int} {bm nd : Nat} {a : List (Nat × Nat)} {fa : Nat → List Int} (h : Jn w d S k N G jb st sz seq place free bm nd a fa) {g : Nat} {cs : Array Value} {t : Nat} {fz : Nat × Nat} (hg : w.heap[g]? = some (.cells cs t fz)) (ht : t ∉ jty) (hu : t ≠ 5) (gG : ¬ G g) (u : Turns (fun i => i = g) w w') : Jn w' d S k N G jb st sz seq place free bm nd a fa := by
  refine ⟨h.D.turns u (fun i hi e => gG (e ▸ hi)), (u.block jb (heap_lt h.J) (fun e => jty_jb h.J hg ht e.symm)).trans h.J, h.A.turns u (fun e => mp_cells h.A hg e.symm), h.VA.turns u (fun p hp e => ?_), h.gj, h.ga, h.gva, h.ja⟩
  have h1 := (h.VA p hp).1
  rw [e, hg] at h1
  simp [bl] at h1
  exact hu h1.2.1
theorem SvY.more {B : Nat} {w : World} {G : Nat → Prop} {jb bm tb db q N K : Nat} {wv svv : Value} {la wm ns : Nat} {m : List (Nat × Nat)} {f : Nat → List Int} {sv : Value} {l : List SvI} {s : St} {ss : List St} (h : SvY B w G jb bm tb db q N K wv svv la wm ns m f sv l s ss) : SvY B w G jb bm tb db q N (K + 1) wv svv la wm ns m f sv l s ss :=
  h.kept ⟨Nat.le_refl _, fun _ _ _ _ _ hx _ => hx⟩ h.X h.V h.mo h.lw h.lv (by omega) (by have := h.kn; omega)
/-- What a round finds. -/
structure SvR (w0 w : World) (G : Nat → Prop) (tw db : Nat) (ov wv : Value) (xs0 : List It) (jb bm tb q N k : Nat) (svv : Value) (la : Nat) : Prop where
  ex : ∃ wm ns m f sv l s ss, SvY w0.heap.size w G jb bm tb db q N k wv svv la wm ns m f sv l s ss ∧ StOk w G s m f
  t : Tn w G tw db ov wv (outs 40) xs0
  b : Below w0.heap.size w0 w
end Go.Proofs.YtnmdnglbpkpfdaaGreatDoor
