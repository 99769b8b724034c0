/- A net in memory, the program's and the document's: its box, its flights; whose each block is. -/
import Derived.Test.YtpbanjgjljdepaaV1
import Derived.Test.YtpbanjgjljdepaaMJ
namespace Go.Proofs.Ytpbanjgjljdepaa
open Go.RowKit Go.Maps
set_option maxRecDepth 100000

/-- A flight. -/
structure Fl where
  no : Int
  to : Int
  d : List Int
/-- A flight, and where its bytes lie. -/
structure En where
  no : Int
  to : Int
  d : List Int
  v : Value
abbrev En.fl (e : En) : Fl := ⟨e.no, e.to, e.d⟩
def flC (e : En) : List Value := [.int .i64 e.no, .int .i64 e.to, e.v]
abbrev pkV (e : En) : Value := .agg #[.int .i64 e.to, e.v]
/-- Bytes of k's. -/
structure Da (w : World) (lab : Nat → Nat) (k : Nat) (d : List Int) (v : Value) : Prop where
  own : w.ownsRow 0 5 1 v d.length (d.map (Value.int .u8))
  lb : ∀ b, v.ownBlock = some b → lab b = k
  len : d.length ≤ 140737488355328
variable {w w' : World} {lab lab' : Nat → Nat} {k j : Nat} {F : Nat → Prop}
theorem Da.turns {d : List Int} {v : Value} (h : Da w lab k d v) (t : Turns F w w') (hF : ∀ i, i < w.heap.size → lab i = k → ¬ F i) (hl : ∀ i, i < w.heap.size → lab i = k → lab' i = k) : Da w' lab' k d v :=
  ⟨own_turns h.own t (fun b e => hF b (own_lt h.own e) (h.lb b e)), fun b e => hl b (own_lt h.own e) (h.lb b e), h.len⟩
theorem Da.lt {d : List Int} {v : Value} (h : Da w lab k d v) : ∀ b, v.ownBlock = some b → b < w.heap.size := fun _ e => own_lt h.own e
theorem Da.nil (w : World) (lab : Nat → Nat) (k : Nat) : Da w lab k [] (.slice none 0 0) := ⟨World.ownsRow_nil _ _ _ _, fun _ h => by (cases h), by simp⟩
theorem Da.slice {d : List Int} {v : Value} (h : Da w lab k d v) : ∃ ao c, v = .slice ao d.length c := own_slice h.own
theorem Da.lies {d : List Int} {ao : Option Addr} {n c : Nat} (h : Da w lab k d (.slice ao n c)) (hn : d.length = n) : Lies w ao n c d := by
  have := h.own; rw [hn] at this; exact Lies.owned this
/-- Two lists that share nothing. -/
def Apt (a b : En) : Prop := ∀ g, a.v.ownBlock = some g → b.v.ownBlock ≠ some g
/-- Flights of k's. -/
structure Ens (w : World) (lab : Nat → Nat) (k : Nat) (es : List En) : Prop where
  da : ∀ e ∈ es, Da w lab k e.d e.v
  sep : es.Pairwise Apt
theorem Ens.nil (w : World) (lab : Nat → Nat) (k : Nat) : Ens w lab k [] := ⟨fun _ h => by (cases h), List.Pairwise.nil⟩
theorem Ens.turns {es : List En} (h : Ens w lab k es) (t : Turns F w w') (hF : ∀ i, i < w.heap.size → lab i = k → ¬ F i) (hl : ∀ i, i < w.heap.size → lab i = k → lab' i = k) : Ens w' lab' k es :=
  ⟨fun e he => (h.da e he).turns t hF hl, h.sep⟩
theorem Ens.sub {es fs : List En} (h : Ens w lab k es) (hs : List.Sublist fs es) : Ens w lab k fs := ⟨fun e he => h.da e (hs.subset he), h.sep.sublist hs⟩
theorem Ens.snoc {es : List En} (h : Ens w lab k es) {e : En} (hd : Da w lab k e.d e.v) (hn : ∀ g, e.v.ownBlock = some g → ∀ x ∈ es, x.v.ownBlock ≠ some g) : Ens w lab k (es ++ [e]) := by
  refine ⟨fun x hx => ?_, List.pairwise_append.2 ⟨h.sep, List.pairwise_singleton _ _, fun a ha b hb => ?_⟩⟩
  · rcases List.mem_append.1 hx with q | q
    · exact h.da x q
    · rw [List.mem_singleton] at q; subst q; exact hd
  · rw [List.mem_singleton] at hb; subst hb
    exact fun g ga gb => hn g gb a ha ga
/-- A list of flights in memory. -/
structure FRow (w : World) (lab : Nat → Nat) (k : Nat) (v : Value) (es : List En) : Prop where
  row : w.ownsRow 0 42 3 v es.length (es.flatMap flC)
  en : Ens w lab k es
  lv : ∀ b, v.ownBlock = some b → lab b = k
theorem FRow.turns {v : Value} {es : List En} (h : FRow w lab k v es) (t : Turns F w w') (hF : ∀ i, i < w.heap.size → lab i = k → ¬ F i) (hl : ∀ i, i < w.heap.size → lab i = k → lab' i = k) : FRow w' lab' k v es :=
  ⟨own_turns h.row t (fun b e => hF b (own_lt h.row e) (h.lv b e)), h.en.turns t hF hl, fun b e => hl b (own_lt h.row e) (h.lv b e)⟩
theorem FRow.nil (w : World) (lab : Nat → Nat) (k : Nat) : FRow w lab k (.slice none 0 0) [] := ⟨World.ownsRow_nil _ _ _ _, Ens.nil _ _ _, fun _ h => by (cases h)⟩
/-- A net, as the document tells it. -/
structure St where
  last : Int
  l : List Fl
/-- What may be. -/
structure St.Ok (S : St) : Prop where
  ris : S.l.Pairwise (fun a b => a.no < b.no)
  nos : ∀ f ∈ S.l, 1 ≤ f.no ∧ f.no ≤ S.last
  few : S.l.length ≤ 4096
  l0 : 0 ≤ S.last
  ll : S.last ≤ 4611686018427387904
/-- The program's. -/
structure NtX (w : World) (lab : Nat → Nat) (k xb bm : Nat) (last : Int) (es : List En) : Prop where
  box : w.heap[xb]? = some (.cells #[.map (some bm), .int .i64 last] 76 (0, 0))
  map : Mv w bm es.length (es.map fun e => (e.no, pkV e))
  en : Ens w lab k es
  lx : lab xb = k
  lm : lab bm = k
theorem NtX.turns {xb bm : Nat} {last : Int} {es : List En} (h : NtX w lab k xb bm last es) (t : Turns F w w') (hF : ∀ i, i < w.heap.size → lab i = k → ¬ F i) (hl : ∀ i, i < w.heap.size → lab i = k → lab' i = k) : NtX w' lab' k xb bm last es :=
  ⟨(t.block xb (heap_lt h.box) (hF _ (heap_lt h.box) h.lx)).trans h.box, h.map.turns t (hF _ h.map.lt h.lm), h.en.turns t hF hl, hl _ (heap_lt h.box) h.lx, hl _ h.map.lt h.lm⟩
/-- The document's. -/
structure DnX (w : World) (lab : Nat → Nat) (k xb : Nat) (v : Value) (last : Int) (es : List En) : Prop where
  box : w.heap[xb]? = some (.cells #[v, .int .i64 last] 83 (0, 0))
  row : FRow w lab k v es
  lx : lab xb = k
theorem DnX.turns {xb : Nat} {last : Int} {v : Value} {es : List En} (h : DnX w lab k xb v last es) (t : Turns F w w') (hF : ∀ i, i < w.heap.size → lab i = k → ¬ F i) (hl : ∀ i, i < w.heap.size → lab i = k → lab' i = k) : DnX w' lab' k xb v last es :=
  ⟨(t.block xb (heap_lt h.box) (hF _ (heap_lt h.box) h.lx)).trans h.box, h.row.turns t hF hl, hl _ (heap_lt h.box) h.lx⟩
/-- Both, wherever they lie. -/
def Nt (w : World) (lab : Nat → Nat) (k xb : Nat) (S : St) : Prop := ∃ bm es, NtX w lab k xb bm S.last es ∧ es.map En.fl = S.l ∧ S.Ok
def Dn (w : World) (lab : Nat → Nat) (k xb : Nat) (S : St) : Prop := ∃ v es, DnX w lab k xb v S.last es ∧ es.map En.fl = S.l ∧ S.Ok
theorem Nt.turns {xb : Nat} {S : St} (h : Nt w lab k xb S) (t : Turns F w w') (hF : ∀ i, i < w.heap.size → lab i = k → ¬ F i) (hl : ∀ i, i < w.heap.size → lab i = k → lab' i = k) : Nt w' lab' k xb S := by
  obtain ⟨bm, es, h, r⟩ := h; exact ⟨bm, es, h.turns t hF hl, r⟩
theorem Dn.turns {xb : Nat} {S : St} (h : Dn w lab k xb S) (t : Turns F w w') (hF : ∀ i, i < w.heap.size → lab i = k → ¬ F i) (hl : ∀ i, i < w.heap.size → lab i = k → lab' i = k) : Dn w' lab' k xb S := by
  obtain ⟨v, es, h, r⟩ := h; exact ⟨v, es, h.turns t hF hl, r⟩
/-- The document's answers. -/
def fullS (S : St) : Bool := decide (4096 ≤ S.l.length)
def sendA (S : St) : Int := if fullS S = true then 0 else S.last + 1
def sendS (S : St) (to : Int) (d : List Int) : St := if fullS S = true then S else ⟨S.last + 1, S.l ++ [⟨S.last + 1, to, d⟩]⟩
def findS (S : St) (no : Int) : Option Fl := S.l.find? fun f => f.no == no
def takeS (S : St) (no : Int) : St := ⟨S.last, S.l.filter fun f => f.no != no⟩
def takeE (S : St) (no : Int) : Int := if (findS S no).isSome then 0 else 201
def takeD (S : St) (no : Int) : List Int := ((findS S no).map Fl.d).getD []
def takeT (S : St) (no : Int) : Int := ((findS S no).map Fl.to).getD 0
def copyA (S : St) (no : Int) : Int := if (findS S no).isSome then sendA S else 0
def copyS (S : St) (no : Int) : St := if (findS S no).isSome then sendS S (takeT S no) (takeD S no) else S
def flipE (S : St) (no at_ v : Int) : Int := if (findS S no).isSome then (if 0 ≤ at_ ∧ at_ < (takeD S no).length then (if 1 ≤ v ∧ v ≤ 255 then 0 else 203) else 202) else 201
def xorB (x v : Int) : Int := bits BinOp.xor IntKind.u8 x v
def flipD (d : List Int) (at_ v : Int) : List Int := d.set at_.toNat (xorB (d.getD at_.toNat 0) v)
def flipS (S : St) (no at_ v : Int) : St := if flipE S no at_ v = 0 then ⟨S.last, S.l.map fun f => if f.no = no then ⟨f.no, f.to, flipD f.d at_ v⟩ else f⟩ else S
end Go.Proofs.Ytpbanjgjljdepaa
