/- Results as plain mathematics; entries in memory. -/
import Derived.Test.YtjkmdacgiebbfaaDoorW12
import Derived.Test.YtjkmdacgiebbfaaDoorWB
namespace Go.Proofs.YtjkmdacgiebbfaaDoor
open Go.RowKit Go.Sort
set_option maxRecDepth 100000

/-- An entry. -/
structure Ent where
  name : ByteArray
  id : Int
  kind : Int
/-- A result; dv, lv: its Data and its List as they lie. -/
structure Rs where
  call : Int
  op : Int
  st : Int
  hd : Int
  ai : Int
  ak : Int
  az : Int
  ac : Int
  dv : Value
  dl : By
  lv : Value
  es : List Ent
  more : Bool
def Rs.vals (r : Rs) : Array Value := #[.int .i64 r.call, .int .i64 r.op, .int .i64 r.st, .int .i64 r.hd, .int .i64 r.ai, .int .i64 r.ak, .int .i64 r.az, .int .i64 r.ac, r.dv, r.lv, .bool r.more]
def Rs.val (r : Rs) : Value := .agg r.vals
def Rs.nums (r : Rs) : List Int := [r.call, r.op, r.st, r.hd, r.ai, r.ak, r.az, r.ac, if r.more then 1 else 0]
def Ent.word (e : Ent) : By := textT (bs e.name) ++ numsT [e.id, e.kind]
def entsT (es : List Ent) : By := es.flatMap fun e => 32 :: e.word
def Rs.rest (r : Rs) : By := numsT r.nums ++ 32 :: textT r.dl ++ entsT r.es
def retW : By := [114, 101, 116, 117, 114, 110, 101, 100]
def Rs.line (a : Int) (r : Rs) : By := retW ++ numsT [a] ++ r.rest
def Ent.small (e : Ent) : Prop := e.name.size ≤ 1048576 ∧ isI e.id ∧ isI e.kind
/-- Entries in memory. -/
structure EAt (w : World) (v : Value) (es : List Ent) : Prop where
  form : ∃ ao c, v = .slice ao es.length c ∧ (∀ ad, ao = some ad → ∀ j (h : j < es.length), w.cell? (ad.add (3 * j)) = some (.string es[j].name) ∧ w.cell? (ad.add (3 * j + 1)) = some (.int .i64 es[j].id) ∧ w.cell? (ad.add (3 * j + 2)) = some (.int .i64 es[j].kind)) ∧ (ao = none → es = [])
theorem EAt.below {w w' : World} {v : Value} {es : List Ent} (h : EAt w v es) (hb : Below w.heap.size w w') : EAt w' v es := by
  obtain ⟨ao, c, rfl, h1, h2⟩ := h.form
  refine ⟨ao, c, rfl, fun ad had j hj => ?_, h2⟩
  obtain ⟨c0, c1, c2⟩ := h1 ad had j hj
  exact ⟨(hb.cell (World.block_lt_of_cell? w _ c0)).trans c0, (hb.cell (World.block_lt_of_cell? w _ c1)).trans c1, (hb.cell (World.block_lt_of_cell? w _ c2)).trans c2⟩
theorem EAt.cells {w : World} {ad : Addr} {n c : Nat} {es : List Ent} (h : EAt w (.slice (some ad) n c) es) (j : Nat) (hj : j < es.length) : w.cell? (ad.add (3 * j)) = some (.string es[j].name) ∧ w.cell? (ad.add (3 * j + 1)) = some (.int .i64 es[j].id) ∧ w.cell? (ad.add (3 * j + 2)) = some (.int .i64 es[j].kind) := by
  obtain ⟨ao, c', he, h1, _⟩ := h.form
  cases he
  exact h1 ad rfl j hj
structure Rs.Ok (r : Rs) (w : World) : Prop where
  data : BAt w r.dv r.dl
  list : EAt w r.lv r.es
  dlen : r.dl.length ≤ 1048576
  elen : r.es.length ≤ 1048576
  ent : ∀ e ∈ r.es, e.small
  nums : ∀ x ∈ r.nums, isI x
theorem Rs.Ok.below {r : Rs} {w w' : World} (h : r.Ok w) (hb : Below w.heap.size w w') : r.Ok w' := ⟨h.data.below hb, h.list.below hb, h.dlen, h.elen, h.ent, h.nums⟩

theorem nums_app (a b : List Int) : numsT (a ++ b) = numsT a ++ numsT b := List.flatMap_append
theorem entw_len (e : Ent) (h : e.small) : e.word.length ≤ 4194400 := by
  obtain ⟨h1, h2, h3⟩ := h
  have q1 := textT_len (bs e.name)
  have q2 := numsT_len [e.id, e.kind] (by intro x hx; simp at hx; rcases hx with rfl | rfl <;> assumption)
  rw [size_bs] at q1
  unfold Ent.word
  rw [List.length_append]
  simp only [List.length_cons, List.length_nil] at q2
  omega
theorem ents_len (es : List Ent) (h : ∀ e ∈ es, e.small) : (entsT es).length ≤ 4194401 * es.length := by
  induction es with
  | nil => simp [entsT]
  | cons e es ih =>
    have h1 := entw_len e (h e List.mem_cons_self)
    have h2 := ih fun x hx => h x (List.mem_cons_of_mem _ hx)
    unfold entsT at h2 ⊢
    rw [List.flatMap_cons, List.length_append, List.length_cons, List.length_cons]
    omega
theorem ents_take (es : List Ent) (q : Nat) (h : q < es.length) : entsT (es.take (q + 1)) = entsT (es.take q) ++ 32 :: es[q].word := by
  unfold entsT
  rw [List.take_add_one, List.getElem?_eq_getElem h, List.flatMap_append]
  simp

/-- A result in its box. -/
structure RBx (w : World) (b : Nat) (r : Rs) : Prop where
  heap : w.heap[b]? = some (.cells r.vals 30 (0, 0))
theorem RBx.new (w : World) (r : Rs) : RBx (w.alloc (.cells r.vals 30)) w.heap.size r := ⟨heap_alloc_new _ _⟩
theorem RBx.lt {w : World} {b : Nat} {r : Rs} (h : RBx w b r) : b < w.heap.size := (Array.getElem?_eq_some_iff.1 h.heap).1
theorem RBx.below {w w' : World} {b : Nat} {r : Rs} (h : RBx w b r) (hb : Below w.heap.size w w') : RBx w' b r := ⟨(hb.block b h.lt).trans h.heap⟩
theorem RBx.cell {w : World} {b : Nat} {r : Rs} (h : RBx w b r) (k : Nat) (v : Value) (hv : r.vals[k]? = some v) : w.cell? ⟨b, k, none⟩ = some v := by rw [Lib.cell_of_heap h.heap]; exact hv
theorem RBx.cells {w : World} {b : Nat} {r : Rs} (h : RBx w b r) : w.cell? ⟨b, 0, none⟩ = some (.int .i64 r.call) ∧ w.cell? ⟨b, 1, none⟩ = some (.int .i64 r.op) ∧ w.cell? ⟨b, 2, none⟩ = some (.int .i64 r.st) ∧ w.cell? ⟨b, 3, none⟩ = some (.int .i64 r.hd) ∧ w.cell? ⟨b, 4, none⟩ = some (.int .i64 r.ai) ∧ w.cell? ⟨b, 5, none⟩ = some (.int .i64 r.ak) ∧ w.cell? ⟨b, 6, none⟩ = some (.int .i64 r.az) ∧ w.cell? ⟨b, 7, none⟩ = some (.int .i64 r.ac) ∧ w.cell? ⟨b, 8, none⟩ = some r.dv ∧ w.cell? ⟨b, 9, none⟩ = some r.lv ∧ w.cell? ⟨b, 10, none⟩ = some (.bool r.more) :=
  ⟨h.cell 0 _ rfl, h.cell 1 _ rfl, h.cell 2 _ rfl, h.cell 3 _ rfl, h.cell 4 _ rfl, h.cell 5 _ rfl, h.cell 6 _ rfl, h.cell 7 _ rfl, h.cell 8 _ rfl, h.cell 9 _ rfl, h.cell 10 _ rfl⟩
end Go.Proofs.YtjkmdacgiebbfaaDoor
