/- Events as plain mathematics; an event in its box. -/
import Derived.Test.YtjkmdacgiebbfaaDoorW14
import Derived.Test.YtjkmdacgiebbfaaDoorW15
namespace Go.Proofs.YtjkmdacgiebbfaaDoor
open Go.RowKit Go.Sort
set_option maxRecDepth 100000

/-- An event; its Handle, its Kept reply, its Flight. -/
structure Ev where
  kind : Int
  a : Int
  k : Int
  m : Int
  code : Int
  call : Cl
  res : Rs
  hn : Int
  hi : Int
  he : Int
  hp : ByteArray
  kc : Int
  ks : Int
  kt : Int
  kv : Value
  kl : By
  fn : Int
  ft : Int
  fv : Value
  fl : By
def Ev.vals (e : Ev) : Array Value := #[.int .i64 e.kind, .int .i64 e.a, .int .i64 e.k, .int .i64 e.m, .int .i64 e.code,
  .int .i64 e.call.op, .int .i64 e.call.h, .int .i64 e.call.h2, .int .i64 e.call.off, .int .i64 e.call.len, .string e.call.path, .string e.call.name, .string e.call.name2, e.call.dv,
  .int .i64 e.res.call, .int .i64 e.res.op, .int .i64 e.res.st, .int .i64 e.res.hd, .int .i64 e.res.ai, .int .i64 e.res.ak, .int .i64 e.res.az, .int .i64 e.res.ac, e.res.dv, e.res.lv, .bool e.res.more,
  .int .i64 e.hn, .int .i64 e.hi, .int .i64 e.he, .string e.hp,
  .int .i64 e.kc, .int .i64 e.ks, .int .i64 e.kt, e.kv, .int .i64 e.fn, .int .i64 e.ft, e.fv]
def Ev.val (e : Ev) : Value := .agg e.vals
def wRef : By := [114, 101, 102, 117, 115, 101, 100]
def wSta : By := [115, 116, 97, 114, 116, 101, 100]
def wSen : By := [115, 101, 110, 116]
def wSer : By := [115, 101, 114, 118, 101, 100]
def wHan : By := [104, 97, 110, 100, 108, 101]
def wDow : By := [100, 111, 119, 110]
def wUp : By := [117, 112]
def wSrv : By := [115, 101, 114, 118, 101, 114]
def wKep : By := [107, 101, 112, 116]
def wMar : By := [109, 97, 114, 107]
def wFli : By := [102, 108, 105, 103, 104, 116]
/-- An event's line. -/
def Ev.line (e : Ev) : By :=
  if e.kind = 1 then wRef ++ numsT [e.a, e.k, e.code] else if e.kind = 2 then wSta ++ numsT [e.a, e.k] ++ 32 :: e.call.told else if e.kind = 3 then wSen ++ numsT [e.a, e.k] else if e.kind = 4 then wSer ++ numsT [e.k]
  else if e.kind = 5 then e.res.line e.a else if e.kind = 6 then wHan ++ numsT [e.a, e.hn, e.hi, e.he] ++ 32 :: textT (bs e.hp) else if e.kind = 7 then wDow ++ numsT [e.code, e.k, e.m] else if e.kind = 8 then wUp ++ numsT [e.k]
  else if e.kind = 9 then wSrv ++ numsT [e.a, e.k, e.m] else if e.kind = 10 then wKep ++ numsT [e.kc, e.ks, e.kt] ++ 32 :: hexT e.kl else if e.kind = 11 then wMar ++ numsT [e.a, e.k, e.m] else if e.kind = 12 then wFli ++ numsT [e.fn, e.ft] ++ 32 :: hexT e.fl else []
/-- What an event that came in is. -/
structure Ev.Ok (e : Ev) (w : World) : Prop where
  ints : isI e.a ∧ isI e.k ∧ isI e.m ∧ isI e.code ∧ isI e.hn ∧ isI e.hi ∧ isI e.he ∧ isI e.kc ∧ isI e.ks ∧ isI e.kt ∧ isI e.fn ∧ isI e.ft
  csm : e.call.small
  cby : e.call.bytes ≤ 1048576
  cin : e.call.ints
  cli : e.call.Lies w
  res : e.res.Ok w
  hps : e.hp.size ≤ 1048576
  kat : BAt w e.kv e.kl
  kle : e.kl.length ≤ 1048576
  fat : BAt w e.fv e.fl
  fle : e.fl.length ≤ 1048576
theorem Ev.Ok.below {e : Ev} {w w' : World} (h : e.Ok w) (hb : Below w.heap.size w w') : e.Ok w' := ⟨h.ints, h.csm, h.cby, h.cin, h.cli.below hb, h.res.below hb, h.hps, h.kat.below hb, h.kle, h.fat.below hb, h.fle⟩
structure EBx (w : World) (b : Nat) (e : Ev) : Prop where
  heap : w.heap[b]? = some (.cells e.vals 38 (0, 0))
theorem EBx.new (w : World) (e : Ev) : EBx (w.alloc (.cells e.vals 38)) w.heap.size e := ⟨heap_alloc_new _ _⟩
theorem EBx.lt {w : World} {b : Nat} {e : Ev} (h : EBx w b e) : b < w.heap.size := (Array.getElem?_eq_some_iff.1 h.heap).1
theorem EBx.cell {w : World} {b : Nat} {e : Ev} (h : EBx w b e) (k : Nat) (v : Value) (hv : e.vals[k]? = some v) : w.cell? ⟨b, k, none⟩ = some v := by rw [Lib.cell_of_heap h.heap]; exact hv
theorem EBx.below {w w' : World} {b : Nat} {e : Ev} (h : EBx w b e) (hb : Below w.heap.size w w') : EBx w' b e := ⟨(hb.block b h.lt).trans h.heap⟩
theorem told_len (c : Cl) (hs : c.small) (hi : c.ints) : c.told.length ≤ 20000000 := by
  unfold Cl.told
  split
  · decide
  · have h1 := name_len c.op
    have h2 := words_len c hs hi (formOf c.op)
    have h3 := form_len c.op
    unfold Cl.text
    rw [List.length_append]
    have h4 : (List.flatMap (fun k => 32 :: c.wordK k) (formOf c.op)).length = (c.wordsK (formOf c.op)).length := rfl
    have h5 : 4194307 * (formOf c.op).length ≤ 4194307 * 4 := Nat.mul_le_mul_left _ h3
    omega
theorem hexT_len (l : By) : (hexT l).length ≤ 2 * l.length + 2 := by
  unfold hexT
  split
  · simp
  · rw [hex_len]; omega
theorem rest_len (r : Rs) {w : World} (h : r.Ok w) : r.rest.length ≤ 5000000000000 := by
  have h1 := numsT_len r.nums h.nums
  have h2 := textT_len r.dl
  have h3 := ents_len r.es h.ent
  have h4 := h.dlen
  have h5 := h.elen
  have h6 : r.nums.length = 9 := rfl
  have h7 : 4194401 * r.es.length ≤ 4194401 * 1048576 := Nat.mul_le_mul_left _ h5
  unfold Rs.rest
  rw [List.length_append, List.length_append, List.length_cons]
  omega
end Go.Proofs.YtjkmdacgiebbfaaDoor
