/- Rows of bytes whose block bears a mark behind its end (a text turned into bytes): append, as a text, kept. -/
import Derived.Test.YtjkmdacgiebbfaaDoorPE
import Derived.Lib.ConvBytes
import Derived.Lib.AppendStr
import Derived.Laws.CopyRow
import Derived.Laws.BytesArg
namespace Go.Proofs.YtjkmdacgiebbfaaDoor
open Go.RowKit
set_option maxRecDepth 100000

/-- A row of bytes that is the caller's own; nothing within it is frozen. -/
def OwnM (w : World) (base : Nat) (v : Value) (n : Nat) (xs : List Value) : Prop :=
  xs.length = n ∧ ((v = .slice none 0 0 ∧ n = 0) ∨ ∃ g cap cur fz, v = .slice (some ⟨g, 0, none⟩) n cap ∧ base ≤ g ∧ w.heap[g]? = some (.cells cur 5 fz) ∧ (∀ j, j < cap → ¬ (fz.1 ≤ j ∧ j < fz.2)) ∧ n ≤ cap ∧ cap ≤ maxLen ∧ cur.size = cap ∧ cur.toList.take n = xs)

theorem OwnM.of {w : World} {base n : Nat} {v : Value} {xs : List Value} (h : w.ownsRow base 5 1 v n xs) : OwnM w base v n xs := by
  refine ⟨by simpa using h.1, ?_⟩
  rcases h.2 with hn | ⟨g, cap, cur, hv, hb, hg, h1, h2, h3, h4⟩
  · exact .inl hn
  · exact .inr ⟨g, cap, cur, (0, 0), hv, hb, hg, fun j _ hj => by simp at hj, h1, h2, by simpa using h3, by simpa using h4⟩
theorem OwnM.mono {w : World} {b b' n : Nat} {v : Value} {xs : List Value} (h : OwnM w b' v n xs) (hb : b ≤ b') : OwnM w b v n xs := by
  refine ⟨h.1, ?_⟩
  rcases h.2 with hn | ⟨g, cap, cur, fz, hv, hg, r⟩
  · exact .inl hn
  · exact .inr ⟨g, cap, cur, fz, hv, Nat.le_trans hb hg, r⟩
theorem OwnM.kept {w w' : World} {base n : Nat} {v : Value} {xs : List Value} {row : Option Nat} (h : OwnM w base v n xs) (hg : w.grownBy w' row) (hne : v.ownBlock = none ∨ v.ownBlock ≠ row) : OwnM w' base v n xs := by
  refine ⟨h.1, ?_⟩
  rcases h.2 with hn | ⟨g, cap, cur, fz, rfl, hb, hgg, r⟩
  · exact .inl hn
  · refine .inr ⟨g, cap, cur, fz, rfl, hb, ?_, r⟩
    rw [hg.block g (Array.getElem?_eq_some_iff.1 hgg).1 (by simpa [Value.ownBlock] using hne)]
    exact hgg
theorem OwnM.alloc {w : World} {base n : Nat} {v : Value} {xs : List Value} (h : OwnM w base v n xs) (o : Obj) : OwnM (w.alloc o) base v n xs :=
  h.kept (World.grownBy_alloc w o none) (by cases hv : v.ownBlock <;> simp)
/-- What lay below stands. -/
theorem OwnM.below {w w' : World} {base n : Nat} {v : Value} {xs : List Value} (h : OwnM w base v n xs) (hb : Below w.heap.size w w') : OwnM w' base v n xs := by
  refine ⟨h.1, ?_⟩
  rcases h.2 with hn | ⟨g, cap, cur, fz, hv, hg, hgg, r⟩
  · exact .inl hn
  · refine .inr ⟨g, cap, cur, fz, hv, hg, ?_, r⟩
    rw [hb.block g (Array.getElem?_eq_some_iff.1 hgg).1]
    exact hgg
theorem OwnM.ge {w : World} {base n : Nat} {v : Value} {xs : List Value} (h : OwnM w base v n xs) : ∀ i, v.ownBlock = some i → base ≤ i := by
  intro i hi
  rcases h.2 with ⟨rfl, _⟩ | ⟨g, cap, cur, fz, rfl, hg, _⟩
  · cases hi
  · simp [Value.ownBlock] at hi; omega
theorem OwnM.slice {w : World} {base n : Nat} {v : Value} {xs : List Value} (h : OwnM w base v n xs) : ∃ ao c, v = .slice ao n c := by
  rcases h.2 with ⟨rfl, rfl⟩ | ⟨g, cap, cur, fz, rfl, _⟩ <;> exact ⟨_, _, rfl⟩
theorem OwnM.cells {w : World} {base n : Nat} {v : Value} {xs : List Value} (h : OwnM w base v n xs) {g : Nat} (hg : v.ownBlock = some g) : ∀ j u, xs[j]? = some u → w.cell? ((⟨g, 0, none⟩ : Addr).add j) = some u := by
  intro j u hu
  rcases h.2 with ⟨rfl, _⟩ | ⟨g', cap, cur, fz, rfl, _, hgg, _, _, _, _, ht⟩
  · cases hg
  · simp [Value.ownBlock] at hg
    subst hg
    rw [show (⟨g', 0, none⟩ : Addr).add j = ⟨g', j, none⟩ by unfold Addr.add; split <;> simp_all, cell_of_row w g' j cur _ fz hgg]
    rw [← ht, List.getElem?_take] at hu
    split at hu
    · simpa using hu
    · cases hu

/-- Cells written one behind the other into a row of which none is frozen. -/
theorem stored_M (P : Program) (g : Nat) (fz : Nat × Nat) (t : TypeId) (vs : List Value) : ∀ (o i : Nat) (cur : Array Value) (w : World), w.heap[g]? = some (.cells cur t fz) → (∀ j, j < cur.size → ¬ (fz.1 ≤ j ∧ j < fz.2)) → o + i + vs.length ≤ cur.size → (∀ v ∈ vs, v.oneCell' = true) →
    ∃ cur', (storeCells ⟨g, o, none⟩ vs i).run P w = .ok () (w.setRow g cur') ∧ cur'.size = cur.size ∧ cur'.toList.take (o + i + vs.length) = cur.toList.take (o + i) ++ vs := by
  induction vs with
  | nil =>
    intro o i cur w hg _ _ _
    refine ⟨cur, ?_, rfl, by simp⟩
    rw [setRow_self w g cur t fz hg]
    rfl
  | cons v vs ih =>
    intro o i cur w hg hf hl h1
    rw [List.length_cons] at hl
    have hi : o + i < cur.size := by omega
    have hfro : w.frozen? ⟨g, o + i, none⟩ = false := by
      have hh := hf (o + i) hi
      obtain ⟨lo, hz⟩ := fz
      simp only at hh
      have hw : w.frozen? ⟨g, o + i, none⟩ = (decide (lo ≤ o + i) && decide (o + i < hz)) := by unfold World.frozen?; rw [hg]
      rw [hw, Bool.and_eq_false_iff, decide_eq_false_iff_not, decide_eq_false_iff_not]
      omega
    have hcell : w.cell? ⟨g, o + i, none⟩ = some cur[o + i] := by simp [World.cell?, hg, hi]
    have hst : (store ((⟨g, o, none⟩ : Addr).add i) v).run P w = .ok () (w.setRow g (cur.setIfInBounds (o + i) v)) := by
      rw [show (⟨g, o, none⟩ : Addr).add i = ⟨g, o + i, none⟩ by unfold Addr.add; split <;> simp_all, run_store P w _ v _ (h1 v List.mem_cons_self), hcell]
      simp [hfro, setCell_eq_setRow w g (o + i) cur t fz v hg]
    obtain ⟨cur', hr, hs, ht⟩ := ih o (i + 1) (cur.setIfInBounds (o + i) v) _ (setRow_heap w g cur _ t _ hg) (fun j hj => hf j (by simpa using hj)) (by simp; omega) (fun x hx => h1 x (List.mem_cons_of_mem _ hx))
    refine ⟨cur', ?_, by rw [hs]; simp, ?_⟩
    · simp only [storeCells, Sem.run_bind, hst, Result.andThen_ok, hr, setRow_setRow]
    · rw [List.length_cons, show o + i + (vs.length + 1) = o + (i + 1) + vs.length by omega, ht, Array.toList_setIfInBounds, ← Nat.add_assoc, List.take_add_one, List.take_set_of_le (Nat.le_refl _)]
      simp [hi]

/-- Behind an append. -/
structure Apd (w w' : World) (base : Nat) (v v' : Value) (n m : Nat) (xs : List Value) : Prop where
  own : OwnM w' base v' (n + m) xs
  grown : w.grownBy w' v.ownBlock

theorem apd_grow {w : World} {base n m cap : Nat} {v : Value} {xs news : List Value} (h : OwnM w base v n xs) (hl : news.length = m) (h63 : n + m ≤ 140737488355328) (hbase : base ≤ w.heap.size) :
    Apd w (w.drew.alloc (.cells (xs.toArray ++ news.toArray ++ Builtin.zeroCells (Value.int IntKind.u8 0).cells (grownCap w (n + m) cap 5 - (n + m))) 5)) base v (.slice (some ⟨w.heap.size, 0, none⟩) (n + m) (grownCap w (n + m) cap 5)) n m (xs ++ news) := by
  have hge := grownCap_ge w (n + m) cap 5
  have hcm := grownCap_le_maxLen w (n + m) cap 5 (by simp only [maxLen]; omega)
  have hx := h.1
  refine ⟨⟨by simp [hx, hl], .inr ⟨_, _, _, (0, 0), rfl, hbase, heap_alloc_new w.drew _, fun j _ hj => by simp at hj, hge, hcm, ?_, ?_⟩⟩, ⟨rfl, rfl, rfl, by simp, fun k hk _ => Below.heap_alloc w.drew _ k hk⟩⟩
  · have hz1 : (Value.int IntKind.u8 0).cells.size = 1 := rfl
    simp only [Array.size_append, List.size_toArray, size_zeroCells, hz1, hx, hl]
    omega
  · simp only [Array.toList_append]
    rw [show n + m = (xs ++ news).length by simp [hx, hl]]
    exact List.take_left

theorem run_append_M {P : Program} {w : World} (base : Nat) (t ty : TypeId) (i : TypeInfo) (ht : P.underlying t = some (.slice 5)) (hi : P.info? 5 = some i) (hz : i.zero = some (.int .u8 0)) (hs1 : i.size = 1) (hb1 : i.bytes = 1)
    (v : Value) (n : Nat) (xs : List Value) (h : OwnM w base v n xs) (ad : Addr) (m c : Nat) (news : List Value) (hl : news.length = m) (hnews : ∀ j u, news[j]? = some u → w.cell? (ad.add j) = some u) (h1 : ∀ u ∈ news, u.oneCell' = true)
    (h63 : n + m ≤ 140737488355328) (hbase : base ≤ w.heap.size) :
    ∃ v' w', (Builtin.append_ #[t, t] ty #[v, .slice (some ad) m c]).run P w = .ok v' w' ∧ Apd w w' base v v' n m (xs ++ news) := by
  rcases h.2 with ⟨rfl, rfl⟩ | ⟨g, cap, cur, fz, rfl, hbg, hg, hfz, hnc, hcm, hcs, htake⟩
  · obtain ⟨v', w', r1, r2, r3, _⟩ := run_append_own (P := P) w base t ty 5 i (.int .u8 0) 1 1 ht hi hz hs1 hb1 rfl (by decide) (.slice none 0 0) 0 xs ⟨by simpa using h.1, .inl ⟨rfl, rfl⟩⟩ ad m c news (by omega) hnews h1 (by simp only [maxLen]; omega) (by omega) hbase
    exact ⟨v', w', r1, OwnM.of r2, r3⟩
  · have hx := h.1
    by_cases hroom : n + m ≤ cap
    · obtain ⟨cur', hr, hs', ht'⟩ := stored_M P g fz _ news n 0 cur w hg (by rw [hcs]; exact hfz) (by omega) h1
      have hf := run_firstCells_some (P := P) w i.size m ad m c news (by rw [hs1]; omega) hnews
      rw [hs1] at hf
      refine ⟨_, _, ?_, ⟨by simp [hx, hl], .inr ⟨g, cap, cur', fz, rfl, hbg, setRow_heap w g cur _ _ _ hg, hfz, hroom, hcm, by omega, ?_⟩⟩, ⟨rfl, rfl, rfl, by simp, fun k _ hk => setRow_other w g k _ (fun e => hk (by simp [Value.ownBlock, e]))⟩⟩
      · simp [Builtin.append_, run_underlying ht, sizeOf, typeInfo, hi, Builtin.lenOf, hroom, hf, Addr.add_lit, hs1, hr]
      · rw [← htake, ← hl]; exact ht'
    · have hr := run_append_grow (P := P) w t ty 5 i (.int .u8 0) ht hi hz ⟨g, 0, none⟩ n cap xs (by rw [hs1]; omega) (h.cells (g := g) rfl) ad m c news (by rw [hs1]; omega) hnews (by omega) (by omega) (growslice_fits (by omega) (by rw [hb1]; omega))
      exact ⟨_, _, hr, apd_grow h hl h63 hbase⟩

theorem run_append_str_M {P : Program} {w : World} (base : Nat) (t u ty : TypeId) (i : TypeInfo) (ht : P.underlying t = some (.slice 5)) (hu : P.underlying u = some .string) (hi : P.info? 5 = some i) (hz : i.zero = some (.int .u8 0)) (hs1 : i.size = 1) (hb1 : i.bytes = 1)
    (v : Value) (n : Nat) (xs : List Value) (h : OwnM w base v n xs) (s : ByteArray) (h63 : n + s.size ≤ 140737488355328) (hbase : base ≤ w.heap.size) :
    ∃ v' w', (Builtin.append_ #[t, u] ty #[v, .string s]).run P w = .ok v' w' ∧ Apd w w' base v v' n s.size (xs ++ Lib.strCells s) := by
  rcases h.2 with ⟨rfl, rfl⟩ | ⟨g, cap, cur, fz, rfl, hbg, hg, hfz, hnc, hcm, hcs, htake⟩
  · obtain ⟨v', w', r1, r2, r3, _⟩ := Lib.run_append_own_string (P := P) w base t u ty 5 i ht hu hi hz hs1 hb1 (.slice none 0 0) 0 xs ⟨by simpa using h.1, .inl ⟨rfl, rfl⟩⟩ s (by simp only [maxLen]; omega) (by omega) hbase
    exact ⟨v', w', r1, OwnM.of r2, r3⟩
  · have hx := h.1
    have hl := Lib.strCells_length s
    by_cases hroom : n + s.size ≤ cap
    · obtain ⟨cur', hr, hs', ht'⟩ := stored_M P g fz _ (Lib.strCells s) n 0 cur w hg (by rw [hcs]; exact hfz) (by omega) (Lib.strCells_oneCell s)
      have hf := Lib.run_firstCells_string (P := P) w 1 s
      refine ⟨_, _, ?_, ⟨by simp [hx, hl], .inr ⟨g, cap, cur', fz, rfl, hbg, setRow_heap w g cur _ _ _ hg, hfz, hroom, hcm, by omega, ?_⟩⟩, ⟨rfl, rfl, rfl, by simp, fun k _ hk => setRow_other w g k _ (fun e => hk (by simp [Value.ownBlock, e]))⟩⟩
      · simp [Builtin.append_, run_underlying ht, run_underlying hu, sizeOf, typeInfo, hi, Builtin.lenOf, hroom, hf, Addr.add_lit, hs1, hr]
      · rw [← htake, ← hl]; exact ht'
    · have hr := Lib.run_append_grow_string (P := P) w t u ty 5 i (.int .u8 0) ht hu hi hz ⟨g, 0, none⟩ n cap xs (by rw [hs1]; omega) (h.cells (g := g) rfl) s (by omega) (by omega) (growslice_fits (by omega) (by rw [hb1]; omega))
      exact ⟨_, _, hr, apd_grow h hl h63 hbase⟩

/-- For the walk. -/
theorem wpList_append_M {P : Program} {w : World} {ops : Array Oper} {rest : List Oper} {o : Oper} {a : Act} {Q : Exit → Act → World → Prop} (hgd : o.guard = none) (s x : Operand) (t : TypeId)
    (ho : o.op = .call { callee := .builtin .append, args := #[s, x], argTypes := #[t, t] })
    (base : Nat) (i : TypeInfo) (ht : P.underlying t = some (.slice 5)) (hi : P.info? 5 = some i) (hz : i.zero = some (.int .u8 0)) (hs1 : i.size = 1) (hb1 : i.bytes = 1)
    (v : Value) (n : Nat) (xs : List Value) (hs : a.eval s = v) (h : OwnM w base v n xs) (ad : Addr) (m c : Nat) (news : List Value) (hx : a.eval x = .slice (some ad) m c) (hl : news.length = m) (hnews : ∀ j u, news[j]? = some u → w.cell? (ad.add j) = some u) (h1 : ∀ u ∈ news, u.oneCell' = true)
    (h63 : n + m ≤ 140737488355328) (hbase : base ≤ w.heap.size)
    (hk : ∀ v' w', Apd w w' base v v' n m (xs ++ news) → wpList P ops Q rest (a.put o.dst v') w') : wpList P ops Q (o :: rest) a w := by
  refine wpList_plain hgd fun K hK => ?_
  obtain ⟨v', w', hr, h2⟩ := run_append_M (P := P) base t o.type i ht hi hz hs1 hb1 v n xs h ad m c news hl hnews h1 h63 hbase
  unfold Oper.wp execOp
  simp only [ho, resolve, invoke, builtin, Sem.run_bind, Sem.run_pure, Result.andThen_ok, List.map_toArray, List.map_cons, List.map_nil, hs, hx, hr]
  exact hK _ _ (hk v' w' h2)
theorem wpList_append_str_M {P : Program} {w : World} {ops : Array Oper} {rest : List Oper} {o : Oper} {a : Act} {Q : Exit → Act → World → Prop} (hgd : o.guard = none) (s x : Operand) (t u : TypeId)
    (ho : o.op = .call { callee := .builtin .append, args := #[s, x], argTypes := #[t, u] })
    (base : Nat) (i : TypeInfo) (ht : P.underlying t = some (.slice 5)) (hu : P.underlying u = some .string) (hi : P.info? 5 = some i) (hz : i.zero = some (.int .u8 0)) (hs1 : i.size = 1) (hb1 : i.bytes = 1)
    (v : Value) (n : Nat) (xs : List Value) (hs : a.eval s = v) (h : OwnM w base v n xs) (str : ByteArray) (hx : a.eval x = .string str)
    (h63 : n + str.size ≤ 140737488355328) (hbase : base ≤ w.heap.size)
    (hk : ∀ v' w', Apd w w' base v v' n str.size (xs ++ Lib.strCells str) → wpList P ops Q rest (a.put o.dst v') w') : wpList P ops Q (o :: rest) a w := by
  refine wpList_plain hgd fun K hK => ?_
  obtain ⟨v', w', hr, h2⟩ := run_append_str_M (P := P) base t u o.type i ht hu hi hz hs1 hb1 v n xs h str h63 hbase
  unfold Oper.wp execOp
  simp only [ho, resolve, invoke, builtin, Sem.run_bind, Sem.run_pure, Result.andThen_ok, List.map_toArray, List.map_cons, List.map_nil, hs, hx, hr]
  exact hK _ _ (hk v' w' h2)

/-- What is appended to in its own place leaves what lay below. -/
theorem Apd.below {w w1 w' : World} {base n m : Nat} {v v' : Value} {xs ys : List Value} (h : Apd w1 w' base v v' n m xs) (ho : OwnM w1 base v n ys) (h1 : Below base w w1) (hb : base ≤ w1.heap.size) : Below base w w' :=
  h1.trans ((Turns.grown (F := fun i => v.ownBlock = some i) h.grown (fun _ hb => hb)).below (fun i hi => ho.ge i hi) hb)
theorem strCells_ub (s : ByteArray) : Lib.strCells s = (bs s).map ub := by
  unfold Lib.strCells bs ub
  simp
/-- A text turned into bytes. -/
theorem own_conv (w : World) (s : ByteArray) (hs : s.size ≤ 140737488355328) : OwnM (Lib.bytesWorld w 5 s) w.heap.size (.slice (some ⟨w.heap.size, 0, none⟩) s.size (grownCap w s.size 0 5)) s.size ((bs s).map ub) := by
  have hge := grownCap_ge w s.size 0 5
  have hcm := grownCap_le_maxLen w s.size 0 5 (by simp only [maxLen]; omega)
  have hsz : (Lib.bytesCells w 5 s).size = grownCap w s.size 0 5 := by
    unfold Lib.bytesCells
    simp only [Array.size_append, Array.size_map, Array.size_replicate]
    have : s.data.size = s.size := rfl
    omega
  refine ⟨by simp, .inr ⟨_, _, _, _, rfl, Nat.le_refl _, Lib.bytesWorld_at_new w _ s, fun j hj hh => by rw [hsz] at hh; simp at hh; omega, hge, hcm, hsz, ?_⟩⟩
  have hl : (Lib.strCells s).length = s.size := Lib.strCells_length s
  rw [← strCells_ub, ← hl]
  unfold Lib.bytesCells
  rw [Array.toList_append]
  conv => lhs; rw [show (s.data.map fun b => Value.int .u8 b.toNat).toList = Lib.strCells s by unfold Lib.strCells; simp]
  exact List.take_left
theorem OwnM.cellAt {w : World} {base n : Nat} {g : Nat} {c : Nat} {xs : List Value} (h : OwnM w base (.slice (some ⟨g, 0, none⟩) n c) n xs) (i : Nat) (hi : i < n) : w.cell? ⟨g, i, none⟩ = some (xs.getD i (.int .u8 0)) := by
  have hx := h.1
  have := h.cells (g := g) rfl i (xs[i]'(by omega)) (by simp)
  rw [show (⟨g, 0, none⟩ : Addr).add i = ⟨g, i, none⟩ by unfold Addr.add; split <;> simp_all] at this
  rw [this]
  simp [List.getD, show i < xs.length by omega]
/-- The row as a text. -/
theorem conv_M {w : World} {B n c : Nat} {ao : Option Addr} {l : By} (h : OwnM w B (.slice ao n c) n (l.map ub)) : (convert 23 9 (.slice ao n c)).run Tryd.prog w = .ok (.string (tx l)) w := by
  have hl : l.length = n := by have := h.1; simpa using this
  rcases h.2 with ⟨hv, hn⟩ | ⟨g, cap, cur, fz, hv, _⟩
  · cases hv
    have h0 : l = [] := List.eq_nil_of_length_eq_zero (by omega)
    subst h0
    exact run_convert_bytes_nil (P := Tryd.prog) w 23 5 Tryd.underlying23 Tryd.underlying5 0 0 9 Tryd.underlying9
  · cases hv
    rw [← str_bytes l]
    refine run_convert_bytes_arg (P := Tryd.prog) w 23 5 Tryd.underlying23 Tryd.underlying5 g 0 n c _ (by simpa using hl) (fun i hi => ?_) 9 Tryd.underlying9
    rw [Nat.zero_add, h.cellAt i (by omega)]
    simp [List.getD, show i < l.length by omega]
end Go.Proofs.YtjkmdacgiebbfaaDoor
