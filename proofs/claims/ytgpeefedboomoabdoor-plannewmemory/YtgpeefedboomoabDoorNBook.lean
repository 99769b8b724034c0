/- append onto a slice that the call owns: in its own row, or in a new block; a copy by append; a book of lists of texts, each with its mark, in memory. -/
import Derived.Test.YtgpeefedboomoabDoorMJ
import Derived.Maps.AppendAt
import Derived.Laws.OwnMore
namespace Go.Proofs.YtgpeefedboomoabDoor
open Go.RowKit

section
variable {P : Program} (w : World)

/-- Where the new slice lies. -/
def Laid (w w' : World) (v v' : Value) (n k : Nat) : Prop :=
  (∃ g cap, v = .slice (some ⟨g, 0, none⟩) n cap ∧ v' = .slice (some ⟨g, 0, none⟩) k cap ∧ w.grownBy w' (some g)) ∨ (∃ cap', v' = .slice (some ⟨w.heap.size, 0, none⟩) k cap' ∧ w.grownBy w' none)

theorem run_append_own_split (base : Nat) (t ty e : TypeId) (i : TypeInfo) (z : Value) (size bytes : Nat) (ht : P.underlying t = some (.slice e)) (hi : P.info? e = some i) (hz : i.zero = some z)
    (hsize : i.size = size) (hby : i.bytes = bytes) (hzs : z.cells.size = size) (hsz : 0 < size)
    (v : Value) (n : Nat) (xs : List Value) (hown : w.ownsRow base e size v n xs)
    (a : Addr) (m c : Nat) (news : List Value) (hm : 0 < m) (hl : news.length = m * size) (hnews : ∀ j u, news[j]? = some u → w.cell? (a.add j) = some u) (h1 : ∀ u ∈ news, u.oneCell' = true)
    (h63 : n + m ≤ maxLen) (hbytes : (n + m) * bytes ≤ 140737488355328) (hbase : base ≤ w.heap.size) :
    ∃ v' w', (Builtin.append_ #[t, t] ty #[v, .slice (some a) m c]).run P w = .ok v' w' ∧ w'.ownsRow base e size v' (n + m) (xs ++ news) ∧ Laid w w' v v' n (n + m) := by
  obtain ⟨v', w', hr, h2, h3, _, _⟩ := run_append_own_at (P := P) w base t ty e i z size bytes ht hi hz hsize hby hzs hsz v n xs hown a m c news hl hnews h1 h63 hbytes hbase
  refine ⟨v', w', hr, h2, ?_⟩
  subst hsize
  subst hby
  have hsmall : n + m ≤ 9223372036854775807 := by simp only [maxLen] at h63; omega
  rcases hown.2 with ⟨rfl, rfl⟩ | ⟨g, cap, cur, rfl, hbg, hg, hnc, hcm, hcs, htake⟩
  · have hr2 := run_append_nil (P := P) w t ty e i z ht hi hz a m c news hl hnews (by omega) (by omega) (by have hb := hbytes; simp only [Nat.zero_add] at hb; omega)
    rw [hr2] at hr
    cases hr
    right
    exact ⟨_, by rw [Nat.zero_add], ⟨rfl, rfl, rfl, by simp, fun k hk _ => Below.heap_alloc w.drew _ k hk⟩⟩
  · by_cases hroom : n + m ≤ cap
    · have hfit : n * i.size + news.length ≤ cur.size := by rw [hl, hcs, ← Nat.add_mul]; exact Nat.mul_le_mul_right _ hroom
      have hr2 := run_append_room (P := P) w t ty e i ht hi g n cap cur hg a m c news hl hnews h1 hroom hfit
      rw [hr2] at hr
      cases hr
      left
      exact ⟨g, cap, rfl, rfl, h3⟩
    · have holds : ∀ j u, xs[j]? = some u → w.cell? ((⟨g, 0, none⟩ : Addr).add j) = some u := hown.cells (g := g) rfl
      have hr2 := run_append_grow (P := P) w t ty e i z ht hi hz ⟨g, 0, none⟩ n cap xs hown.1 holds a m c news hl hnews (by omega) (by omega) (growslice_fits (by omega) hbytes)
      rw [hr2] at hr
      cases hr
      right
      exact ⟨_, rfl, ⟨rfl, rfl, rfl, by simp, fun k hk _ => Below.heap_alloc w.drew _ k hk⟩⟩

theorem wpList_append_own_split {ops : Array Oper} {rest : List Oper} {o : Oper} {a : Act} {Q : Exit → Act → World → Prop} (hgd : o.guard = none) (s x : Operand) (t : TypeId)
    (ho : o.op = .call { callee := .builtin .append, args := #[s, x], argTypes := #[t, t] })
    (base : Nat) (e : TypeId) (i : TypeInfo) (z : Value) (size bytes : Nat) (ht : P.underlying t = some (.slice e)) (hi : P.info? e = some i) (hz : i.zero = some z)
    (hsize : i.size = size) (hby : i.bytes = bytes) (hzs : z.cells.size = size) (hsz : 0 < size)
    (v : Value) (n : Nat) (xs : List Value) (hs : a.eval s = v) (hown : w.ownsRow base e size v n xs)
    (ad : Addr) (m c : Nat) (news : List Value) (hm : 0 < m) (hx : a.eval x = .slice (some ad) m c) (hl : news.length = m * size) (hnews : ∀ j u, news[j]? = some u → w.cell? (ad.add j) = some u) (h1 : ∀ u ∈ news, u.oneCell' = true)
    (h63 : n + m ≤ maxLen) (hbytes : (n + m) * bytes ≤ 140737488355328) (hbase : base ≤ w.heap.size)
    (h : ∀ v' w', w'.ownsRow base e size v' (n + m) (xs ++ news) → Laid w w' v v' n (n + m) → wpList P ops Q rest (a.put o.dst v') w') :
    wpList P ops Q (o :: rest) a w := by
  refine wpList_plain hgd fun K hK => ?_
  obtain ⟨v', w', hr, h2, h3⟩ := run_append_own_split (P := P) w base t o.type e i z size bytes ht hi hz hsize hby hzs hsz v n xs hown ad m c news hm hl hnews h1 h63 hbytes hbase
  unfold Oper.wp execOp
  simp only [ho, resolve, invoke, builtin, Sem.run_bind, Sem.run_pure, Result.andThen_ok, List.map_toArray, List.map_cons, List.map_nil, hs, hx, hr]
  exact hK _ _ (h v' w' h2 h3)

/-- A copy by append onto the nil slice, of a row of the call's own. -/
theorem wpList_append_clone {ops : Array Oper} {rest : List Oper} {o : Oper} {a : Act} {Q : Exit → Act → World → Prop} (hgd : o.guard = none) (s x : Operand) (t : TypeId)
    (ho : o.op = .call { callee := .builtin .append, args := #[s, x], argTypes := #[t, t] })
    (base : Nat) (e : TypeId) (i : TypeInfo) (z : Value) (size bytes : Nat) (ht : P.underlying t = some (.slice e)) (hi : P.info? e = some i) (hz : i.zero = some z)
    (hsize : i.size = size) (hby : i.bytes = bytes) (hzs : z.cells.size = size) (hsz : 0 < size)
    (v : Value) (n : Nat) (xs : List Value) (hs : a.eval s = .slice none 0 0) (hx : a.eval x = v) (hown : w.ownsRow base e size v n xs) (h1 : ∀ u ∈ xs, u.oneCell' = true)
    (h63 : n ≤ maxLen) (hbytes : n * bytes ≤ 140737488355328)
    (h : ∀ v' w', w'.ownsRow w.heap.size e size v' n xs → Below w.heap.size w w' → wpList P ops Q rest (a.put o.dst v') w') :
    wpList P ops Q (o :: rest) a w := by
  have hnil : w.ownsRow w.heap.size e size (.slice none 0 0) 0 [] := ⟨by simp, Or.inl ⟨rfl, rfl⟩⟩
  have key : ∃ v' w', (Builtin.append_ #[t, t] o.type #[.slice none 0 0, v]).run P w = .ok v' w' ∧ w'.ownsRow w.heap.size e size v' n xs ∧ Below w.heap.size w w' := by
    have hown' := hown
    rcases hown.2 with ⟨rfl, rfl⟩ | ⟨g, cap, cur, rfl, hbg, hg, hnc, hcm, hcs, htake⟩
    · refine ⟨_, _, run_append_owned_none (P := P) w w.heap.size t o.type e i size ht hi _ 0 [] hnil, ⟨hown.1, Or.inl ⟨rfl, rfl⟩⟩, Below.refl _ _⟩
    · obtain ⟨v', w', hr, h2, h3, _⟩ := run_append_own (P := P) w w.heap.size t o.type e i z size bytes ht hi hz hsize hby hzs hsz _ 0 [] hnil ⟨g, 0, none⟩ n cap xs hown.1 (hown'.cells (g := g) rfl) h1 (by omega) (by simpa using hbytes) (Nat.le_refl _)
      refine ⟨v', w', hr, by simpa using h2, (Below.refl _ w).grown h3 (Nat.le_refl _) (fun k hk => by cases hk)⟩
  refine wpList_plain hgd fun K hK => ?_
  obtain ⟨v', w', hr, h2, h3⟩ := key
  unfold Oper.wp execOp
  simp only [ho, resolve, invoke, builtin, Sem.run_bind, Sem.run_pure, Result.andThen_ok, List.map_toArray, List.map_cons, List.map_nil, hs, hx, hr]
  exact hK _ _ (h v' w' h2 h3)
end

theorem own_val {w : World} {base e s n : Nat} {v : Value} {xs : List Value} (h : w.ownsRow base e s v n xs) : ∃ ao c, v = .slice ao n c := by
  rcases h.2 with ⟨rfl, rfl⟩ | ⟨g, cap, cur, rfl, _⟩
  · exact ⟨_, _, rfl⟩
  · exact ⟨_, _, rfl⟩
theorem own_old {w : World} {base e n : Nat} {v : Value} {xs : List Value} (h : w.ownsRow base e 1 v n xs) {b : Nat} (hb : v.ownBlock = some b) : base ≤ b ∧ b < w.heap.size ∧ ∃ cs, w.heap[b]? = some (.cells cs e) := by
  rcases h.2 with ⟨rfl, _⟩ | ⟨g, cap, cur, rfl, hg, hh, _⟩
  · cases hb
  · cases hb
    exact ⟨hg, lt_of_block hh, cur, hh⟩

theorem oneCells (xs : List Int) : ∀ u, u ∈ xs.map (Value.int .u8) → u.oneCell' = true := by
  intro u hu
  obtain ⟨x, _, rfl⟩ := List.mem_map.1 hu
  rfl

/-- A list of the book: where it lies, how long it is, its mark. -/
structure Ent where
  ao : Option Addr
  len : Nat
  cap : Nat
  mark : Int
def Ent.val (e : Ent) : Value := .slice e.ao e.len e.cap
/-- A list full of its mark. -/
def full (n : Nat) (m : Int) : List Value := (List.replicate n m).map (Value.int .u8)
theorem full_length (n : Nat) (m : Int) : (full n m).length = n := by simp [full]
theorem full_snoc (n : Nat) (m : Int) : full (n + 1) m = full n m ++ [.int .u8 m] := by
  simp [full, List.replicate_succ']
theorem full_take {n k : Nat} (m : Int) (h : n ≤ k) : (full k m).take n = full n m := by
  unfold full; rw [← List.map_take, List.take_replicate, Nat.min_eq_left h]

/-- A book in memory: its box, its two rows, its lists, each full of its mark; 'B' holds of every block that is the book's. -/
structure Bk (w : World) (base bk : Nat) (B : Nat → Prop) (es : List Ent) : Prop where
  rows : ∃ vL vM, w.heap[bk]? = some (.cells #[vL, vM] 28) ∧ w.ownsRow base 26 1 vL es.length (es.map Ent.val) ∧ w.ownsRow base 5 1 vM es.length (es.map fun e => Value.int .u8 e.mark) ∧
    (∀ k, vL.ownBlock = some k → B k) ∧ (∀ k, vM.ownBlock = some k → B k ∧ ∀ e ∈ es, e.val.ownBlock ≠ some k)
  hbk : base ≤ bk ∧ B bk
  lies : ∀ e ∈ es, w.ownsRow base 5 1 e.val e.len (full e.len e.mark) ∧ ∀ b, e.val.ownBlock = some b → B b
/-- A row whose block is as it was. -/
theorem own_keep {w w' : World} {base e n : Nat} {v : Value} {xs : List Value} (h : w.ownsRow base e 1 v n xs) (hk : ∀ b, v.ownBlock = some b → w'.heap[b]? = w.heap[b]?) : w'.ownsRow base e 1 v n xs := by
  obtain ⟨h1, h2⟩ := h
  refine ⟨h1, ?_⟩
  rcases h2 with h2 | ⟨g, cap, cur, hv, hg, hh, r⟩
  · exact Or.inl h2
  · refine Or.inr ⟨g, cap, cur, hv, hg, (hk g ?_).trans hh, r⟩
    subst hv; rfl
/-- What leaves the book's blocks alone leaves the book. -/
theorem Bk.keep {w w' : World} {base bk : Nat} {B : Nat → Prop} {es : List Ent} (h : Bk w base bk B es) (hk : ∀ k, k < w.heap.size → B k → w'.heap[k]? = w.heap[k]?) : Bk w' base bk B es := by
  obtain ⟨⟨vL, vM, hb, hL, hM, hBL, hBM⟩, hbk, hl⟩ := h
  refine ⟨⟨vL, vM, (hk bk (lt_of_block hb) hbk.2).trans hb, own_keep hL (fun b hb => hk b (own_old hL hb).2.1 (hBL b hb)), own_keep hM (fun b hb => hk b (own_old hM hb).2.1 (hBM b hb).1), hBL, hBM⟩, hbk, fun e he => ?_⟩
  obtain ⟨h1, h2⟩ := hl e he
  exact ⟨own_keep h1 (fun b hb => hk b (own_old h1 hb).2.1 (h2 b hb)), h2⟩
theorem Bk.below {w w' : World} {base bk : Nat} {B : Nat → Prop} {es : List Ent} (h : Bk w base bk B es) (hb : Below w.heap.size w w') : Bk w' base bk B es := h.keep fun k hk _ => hb.block k hk
theorem Bk.old {w : World} {base bk : Nat} {B : Nat → Prop} {es : List Ent} (h : Bk w base bk B es) {e : Ent} (he : e ∈ es) {b : Nat} (hb : e.val.ownBlock = some b) : b < w.heap.size := (own_old (h.lies e he).1 hb).2.1
end Go.Proofs.YtgpeefedboomoabDoor
