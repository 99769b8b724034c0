/- A whole request, a whole reply, laid into a box and read out of it in one step. -/
import Derived.Test.YtdkcplndplhblaaGreatDoorPk35
import Derived.Deep.WholeRow
import Derived.Laws.Tables
import Derived.Test.YtdkcplndplhblaaGreatDoorPk33
import Derived.Test.YtdkcplndplhblaaGreatDoorPk26
namespace Go.Proofs.YtdkcplndplhblaaGreatDoor
open Go.RowKit
set_option maxRecDepth 100000

theorem rqw_size : (Tryz.prog.info? 24).map (·.size) = some 13 := by kernel_rfl
/-- A store of a whole request, its operands evaluated. -/
def RqwStore (p v : Value) (o : Oper) (a : Act) (w : World) (next : Act → World → Prop) (Q : Exit → Act → World → Prop) : Prop :=
  Oper.wp Tryz.prog { o with op := .store 24 (.const p) (.const v) } a w next Q
theorem rqw_store (d : Option Tmp) (x y : Operand) (t : TypeId) (p : String) (f : Array Edge) (g : Option (Nat × Bool)) (a : Act) (w : World) (next : Act → World → Prop) (Q : Exit → Act → World → Prop) :
    Oper.wp Tryz.prog ⟨d, .store 24 x y, t, p, f, g⟩ a w next Q = RqwStore (a.eval x) (a.eval y) ⟨d, .assign x, t, p, f, g⟩ a w next Q := rfl
theorem RqwStore.row {w : World} {b : Nat} {old cs : Array Value} (h : w.heap[b]? = some (.cells old 24 (0, 0))) (hs : old.size = 13) (hc : cs.size = 13) (h1 : cs.all (·.oneCell') = true) (o : Oper) (a : Act) (next : Act → World → Prop) (Q : Exit → Act → World → Prop) :
    RqwStore (.pointer (some ⟨b, 0, none⟩)) (.agg cs) o a w next Q = next (a.put o.dst undef) (w.setRow b cs) := by
  have e : (Instr.storeAt 24 (.pointer (some ⟨b, 0, none⟩)) (.agg cs)).run Tryz.prog w = .ok () (w.setRow b cs) := by
    simp only [Instr.storeAt, Instr.sureAddr, Sem.run_bind, Sem.run_pure, Result.andThen]
    exact run_storeVar_row w b 24 24 old cs h (by rw [hc]; exact rqw_size) (by rw [hs, hc]) h1
  unfold RqwStore Oper.wp execOp
  simp only [Act.eval, Sem.run_bind, e, Result.andThen_ok, Sem.run_pure]
  rfl
/-- A load of a whole request, its operand evaluated. -/
def RqwLoad (p : Value) (o : Oper) (a : Act) (w : World) (next : Act → World → Prop) (Q : Exit → Act → World → Prop) : Prop :=
  Oper.wp Tryz.prog { o with op := .load 24 (.const p) } a w next Q
theorem rqw_load (d : Option Tmp) (x : Operand) (t : TypeId) (p : String) (f : Array Edge) (g : Option (Nat × Bool)) (a : Act) (w : World) (next : Act → World → Prop) (Q : Exit → Act → World → Prop) :
    Oper.wp Tryz.prog ⟨d, .load 24 x, t, p, f, g⟩ a w next Q = RqwLoad (a.eval x) ⟨d, .assign x, t, p, f, g⟩ a w next Q := rfl
theorem RqwLoad.row {w : World} {b : Nat} {cs : Array Value} (h : w.heap[b]? = some (.cells cs 24 (0, 0))) (hs : cs.size = 13) (o : Oper) (a : Act) (next : Act → World → Prop) (Q : Exit → Act → World → Prop) :
    RqwLoad (.pointer (some ⟨b, 0, none⟩)) o a w next Q = next (a.put o.dst (.agg cs)) w := by
  have e : (Instr.loadAt 24 (.pointer (some ⟨b, 0, none⟩))).run Tryz.prog w = .ok (.agg cs) w := by
    simp only [Instr.loadAt, Instr.sureAddr, Sem.run_bind, Sem.run_pure, Result.andThen]
    exact run_loadVar_row w b 24 24 cs (0, 0) _ h Tryz.underlying24 rfl (by rw [hs]; exact rqw_size)
  unfold RqwLoad Oper.wp execOp
  simp only [Act.eval, Sem.run_bind, e, Result.andThen_ok, Sem.run_pure]
  rfl

theorem rpw_size : (Tryz.prog.info? 30).map (·.size) = some 12 := by kernel_rfl
/-- A store of a whole reply, its operands evaluated. -/
def RpwStore (p v : Value) (o : Oper) (a : Act) (w : World) (next : Act → World → Prop) (Q : Exit → Act → World → Prop) : Prop :=
  Oper.wp Tryz.prog { o with op := .store 30 (.const p) (.const v) } a w next Q
theorem rpw_store (d : Option Tmp) (x y : Operand) (t : TypeId) (p : String) (f : Array Edge) (g : Option (Nat × Bool)) (a : Act) (w : World) (next : Act → World → Prop) (Q : Exit → Act → World → Prop) :
    Oper.wp Tryz.prog ⟨d, .store 30 x y, t, p, f, g⟩ a w next Q = RpwStore (a.eval x) (a.eval y) ⟨d, .assign x, t, p, f, g⟩ a w next Q := rfl
theorem RpwStore.row {w : World} {b : Nat} {old cs : Array Value} (h : w.heap[b]? = some (.cells old 30 (0, 0))) (hs : old.size = 12) (hc : cs.size = 12) (h1 : cs.all (·.oneCell') = true) (o : Oper) (a : Act) (next : Act → World → Prop) (Q : Exit → Act → World → Prop) :
    RpwStore (.pointer (some ⟨b, 0, none⟩)) (.agg cs) o a w next Q = next (a.put o.dst undef) (w.setRow b cs) := by
  have e : (Instr.storeAt 30 (.pointer (some ⟨b, 0, none⟩)) (.agg cs)).run Tryz.prog w = .ok () (w.setRow b cs) := by
    simp only [Instr.storeAt, Instr.sureAddr, Sem.run_bind, Sem.run_pure, Result.andThen]
    exact run_storeVar_row w b 30 30 old cs h (by rw [hc]; exact rpw_size) (by rw [hs, hc]) h1
  unfold RpwStore Oper.wp execOp
  simp only [Act.eval, Sem.run_bind, e, Result.andThen_ok, Sem.run_pure]
  rfl
/-- A load of a whole reply, its operand evaluated. -/
def RpwLoad (p : Value) (o : Oper) (a : Act) (w : World) (next : Act → World → Prop) (Q : Exit → Act → World → Prop) : Prop :=
  Oper.wp Tryz.prog { o with op := .load 30 (.const p) } a w next Q
theorem rpw_load (d : Option Tmp) (x : Operand) (t : TypeId) (p : String) (f : Array Edge) (g : Option (Nat × Bool)) (a : Act) (w : World) (next : Act → World → Prop) (Q : Exit → Act → World → Prop) :
    Oper.wp Tryz.prog ⟨d, .load 30 x, t, p, f, g⟩ a w next Q = RpwLoad (a.eval x) ⟨d, .assign x, t, p, f, g⟩ a w next Q := rfl
theorem RpwLoad.row {w : World} {b : Nat} {cs : Array Value} (h : w.heap[b]? = some (.cells cs 30 (0, 0))) (hs : cs.size = 12) (o : Oper) (a : Act) (next : Act → World → Prop) (Q : Exit → Act → World → Prop) :
    RpwLoad (.pointer (some ⟨b, 0, none⟩)) o a w next Q = next (a.put o.dst (.agg cs)) w := by
  have e : (Instr.loadAt 30 (.pointer (some ⟨b, 0, none⟩))).run Tryz.prog w = .ok (.agg cs) w := by
    simp only [Instr.loadAt, Instr.sureAddr, Sem.run_bind, Sem.run_pure, Result.andThen]
    exact run_loadVar_row w b 30 30 cs (0, 0) _ h Tryz.underlying30 rfl (by rw [hs]; exact rpw_size)
  unfold RpwLoad Oper.wp execOp
  simp only [Act.eval, Sem.run_bind, e, Result.andThen_ok, Sem.run_pure]
  rfl

theorem setRow_grown (w : World) (b : Nat) (cs : Array Value) : w.grownBy (w.setRow b cs) (some b) :=
  ⟨rfl, rfl, rfl, by simp [World.setRow], fun i _ hne => setRow_other w b i cs (by simpa using hne)⟩
theorem rqw_new (s : Req) (ao : Option Addr) (n c : Nat) (w : World) (C : Array Value) (hC : C.size = 13) (o : Oper) (a : Act) (next : Act → World → Prop) (Q : Exit → Act → World → Prop) :
    RqwStore (.pointer (some ⟨w.heap.size, 0, none⟩)) (.agg #[.int .i64 s.client, .int .i64 s.seq, .int .i64 s.ack, .int .i64 s.epoch, .int .i64 s.op, .int .i64 s.id, .int .i64 s.id2, .int .i64 s.off, .int .i64 s.len, .string s.path, .string s.name, .string s.name2, .slice ao n c]) o a (w.alloc (.cells C 24)) next Q = next (a.put o.dst undef) (w.alloc (.cells #[.int .i64 s.client, .int .i64 s.seq, .int .i64 s.ack, .int .i64 s.epoch, .int .i64 s.op, .int .i64 s.id, .int .i64 s.id2, .int .i64 s.off, .int .i64 s.len, .string s.path, .string s.name, .string s.name2, .slice ao n c] 24)) := by
  rw [RqwStore.row (heap_alloc_last w _) hC rfl (by simp [Value.oneCell']), World.setRow_alloc_new]
theorem rpw_new (s : Rep) (ao : Option Addr) (n c : Nat) (lo : Option Addr) (ln lc : Nat) (w : World) (C : Array Value) (hC : C.size = 12) (o : Oper) (a : Act) (next : Act → World → Prop) (Q : Exit → Act → World → Prop) :
    RpwStore (.pointer (some ⟨w.heap.size, 0, none⟩)) (.agg #[.int .i64 s.client, .int .i64 s.seq, .int .i64 s.epoch, .int .i64 s.op, .int .i64 s.status, .int .i64 s.ai, .int .i64 s.ak, .int .i64 s.az, .int .i64 s.ac, .slice ao n c, .slice lo ln lc, .bool s.more]) o a (w.alloc (.cells C 30)) next Q = next (a.put o.dst undef) (w.alloc (.cells #[.int .i64 s.client, .int .i64 s.seq, .int .i64 s.epoch, .int .i64 s.op, .int .i64 s.status, .int .i64 s.ai, .int .i64 s.ak, .int .i64 s.az, .int .i64 s.ac, .slice ao n c, .slice lo ln lc, .bool s.more] 30)) := by
  rw [RpwStore.row (heap_alloc_last w _) hC rfl (by simp [Value.oneCell']), World.setRow_alloc_new]
/-- The world with a request laid into a box; with a reply. -/
def putRq (w : World) (b : Nat) (s : Req) (ao : Option Addr) (n c : Nat) : World := w.setRow b #[.int .i64 s.client, .int .i64 s.seq, .int .i64 s.ack, .int .i64 s.epoch, .int .i64 s.op, .int .i64 s.id, .int .i64 s.id2, .int .i64 s.off, .int .i64 s.len, .string s.path, .string s.name, .string s.name2, .slice ao n c]
def putRp (w : World) (b : Nat) (s : Rep) (ao : Option Addr) (n c : Nat) (lo : Option Addr) (ln lc : Nat) : World := w.setRow b #[.int .i64 s.client, .int .i64 s.seq, .int .i64 s.epoch, .int .i64 s.op, .int .i64 s.status, .int .i64 s.ai, .int .i64 s.ak, .int .i64 s.az, .int .i64 s.ac, .slice ao n c, .slice lo ln lc, .bool s.more]
theorem putRq_grown (w : World) (b : Nat) (s : Req) (ao : Option Addr) (n c : Nat) : w.grownBy (putRq w b s ao n c) (some b) := setRow_grown _ _ _
theorem putRp_grown (w : World) (b : Nat) (s : Rep) (ao : Option Addr) (n c : Nat) (lo : Option Addr) (ln lc : Nat) : w.grownBy (putRp w b s ao n c lo ln lc) (some b) := setRow_grown _ _ _
theorem putRq_is {w : World} {b : Nat} {r : Req} {bo : Option Addr} {m d : Nat} (s : Req) (ao : Option Addr) (n c : Nat) (h : RqB w b r bo m d) : RqB (putRq w b s ao n c) b s ao n c := setRow_heap _ _ _ _ _ _ h
theorem putRp_is {w : World} {b : Nat} {r : Rep} {bo : Option Addr} {m d : Nat} {mo : Option Addr} {mn mc : Nat} (s : Rep) (ao : Option Addr) (n c : Nat) (lo : Option Addr) (ln lc : Nat) (h : RpB w b r bo m d mo mn mc) : RpB (putRp w b s ao n c lo ln lc) b s ao n c lo ln lc := setRow_heap _ _ _ _ _ _ h
theorem rqw_put {w : World} {b : Nat} {r : Req} {bo : Option Addr} {m d : Nat} (h : RqB w b r bo m d) (s : Req) (ao : Option Addr) (n c : Nat) (o : Oper) (a : Act) (next : Act → World → Prop) (Q : Exit → Act → World → Prop) :
    RqwStore (.pointer (some ⟨b, 0, none⟩)) (.agg #[.int .i64 s.client, .int .i64 s.seq, .int .i64 s.ack, .int .i64 s.epoch, .int .i64 s.op, .int .i64 s.id, .int .i64 s.id2, .int .i64 s.off, .int .i64 s.len, .string s.path, .string s.name, .string s.name2, .slice ao n c]) o a w next Q = next (a.put o.dst undef) (putRq w b s ao n c) := RqwStore.row h rfl rfl (by simp [Value.oneCell']) o a next Q
theorem rpw_put {w : World} {b : Nat} {r : Rep} {bo : Option Addr} {m d : Nat} {mo : Option Addr} {mn mc : Nat} (h : RpB w b r bo m d mo mn mc) (s : Rep) (ao : Option Addr) (n c : Nat) (lo : Option Addr) (ln lc : Nat) (o : Oper) (a : Act) (next : Act → World → Prop) (Q : Exit → Act → World → Prop) :
    RpwStore (.pointer (some ⟨b, 0, none⟩)) (.agg #[.int .i64 s.client, .int .i64 s.seq, .int .i64 s.epoch, .int .i64 s.op, .int .i64 s.status, .int .i64 s.ai, .int .i64 s.ak, .int .i64 s.az, .int .i64 s.ac, .slice ao n c, .slice lo ln lc, .bool s.more]) o a w next Q = next (a.put o.dst undef) (putRp w b s ao n c lo ln lc) := RpwStore.row h rfl rfl (by simp [Value.oneCell']) o a next Q
theorem rqw_get {w : World} {b : Nat} {s : Req} {ao : Option Addr} {n c : Nat} (h : RqB w b s ao n c) (o : Oper) (a : Act) (next : Act → World → Prop) (Q : Exit → Act → World → Prop) :
    RqwLoad (.pointer (some ⟨b, 0, none⟩)) o a w next Q = next (a.put o.dst (.agg #[.int .i64 s.client, .int .i64 s.seq, .int .i64 s.ack, .int .i64 s.epoch, .int .i64 s.op, .int .i64 s.id, .int .i64 s.id2, .int .i64 s.off, .int .i64 s.len, .string s.path, .string s.name, .string s.name2, .slice ao n c])) w := RqwLoad.row h rfl o a next Q
theorem rpw_get {w : World} {b : Nat} {s : Rep} {ao : Option Addr} {n c : Nat} {lo : Option Addr} {ln lc : Nat} (h : RpB w b s ao n c lo ln lc) (o : Oper) (a : Act) (next : Act → World → Prop) (Q : Exit → Act → World → Prop) :
    RpwLoad (.pointer (some ⟨b, 0, none⟩)) o a w next Q = next (a.put o.dst (.agg #[.int .i64 s.client, .int .i64 s.seq, .int .i64 s.epoch, .int .i64 s.op, .int .i64 s.status, .int .i64 s.ai, .int .i64 s.ak, .int .i64 s.az, .int .i64 s.ac, .slice ao n c, .slice lo ln lc, .bool s.more])) w := RpwLoad.row h rfl o a next Q
theorem rq_rp_ne {w : World} {a b : Nat} {s : Req} {y : Rep} {ao bo : Option Addr} {n c m d : Nat} {lo : Option Addr} {ln lc : Nat} (h1 : RqB w a s ao n c) (h2 : RpB w b y bo m d lo ln lc) : a ≠ b := by
  rintro rfl
  rw [RqB] at h1
  rw [RpB, h1] at h2
  simp at h2
end Go.Proofs.YtdkcplndplhblaaGreatDoor

/- MsgDecodes by its contract. -/
namespace Go.Proofs.YtdkcplndplhblaaGreatDoor
open Go.RowKit
set_option maxRecDepth 100000

attribute [local go_sem ↓ 100000] rqw_store rqw_load rpw_store rpw_load
attribute [local go_sem] rqw_new rpw_new
theorem Lies.rqp {w : World} {ao bo co : Option Addr} {k c q n d n2 d2 : Nat} {zs : List Int} {s r : Req} (h : Lies w ao k c zs) (hq : RqB w q s bo n d) : Lies (putRq w q r co n2 d2) ao k c zs := h.past hq (rq_cells s bo n d) (putRq_grown _ _ _ _ _ _)
theorem Lies.rpp {w : World} {ao bo co : Option Addr} {k c q n d n2 d2 : Nat} {lo lo2 : Option Addr} {ln lc ln2 lc2 : Nat} {zs : List Int} {s r : Rep} (h : Lies w ao k c zs) (hq : RpB w q s bo n d lo ln lc) : Lies (putRp w q r co n2 d2 lo2 ln2 lc2) ao k c zs := h.past hq (rp_cells s bo n d lo ln lc) (putRp_grown _ _ _ _ _ _ _ _ _)
theorem three_bys2 : Bys three := by intro x hx; simp [three] at hx; omega
/-- A list of entries does not lie in a reply's box: no text stands there at all. -/
theorem CLies.past {w w' : World} {ao : Option Addr} {n c q : Nat} {l : List Ent} {C : Array Value} {T : TypeId} (h : CLies w ao n c 3 (entCells l)) (hq : w.heap[q]? = some (.cells C T (0, 0))) (hC : ∀ (o : Nat) (s : ByteArray), C[o]? ≠ some (.string s)) (hg : w.grownBy w' (some q)) (hl : l.length = n) : CLies w' ao n c 3 (entCells l) := by
  by_cases h0 : 0 < n
  · refine h.grown hg (fun ad had e => ?_)
    subst had
    have hc := h.hcells ad rfl 0 (.string (l[0]'(by omega)).name) (by match l, hl with | x :: l, _ => rfl | [], hl => simp at hl; omega)
    have hb : ad.block = q := by simpa using e
    obtain ⟨b, o, sp⟩ := ad
    simp only at hb
    subst hb
    have hsp : sp = none := by simpa [Addr.add] using World.cell?_spot hc
    subst hsp
    rw [Addr.add_lit] at hc
    simp only [World.cell?, hq, Nat.add_zero] at hc
    exact hC _ _ hc
  · obtain rfl : n = 0 := by omega
    have : l = [] := List.eq_nil_of_length_eq_zero hl
    subst this
    exact ⟨rfl, h.hle, h.hnone, fun ad had t u hu => by simp [entCells] at hu⟩
theorem rp_text (s : Rep) (ao : Option Addr) (n c : Nat) (lo : Option Addr) (ln lc : Nat) (o : Nat) (v : ByteArray) : (#[.int .i64 s.client, .int .i64 s.seq, .int .i64 s.epoch, .int .i64 s.op, .int .i64 s.status, .int .i64 s.ai, .int .i64 s.ak, .int .i64 s.az, .int .i64 s.ac, .slice ao n c, .slice lo ln lc, .bool s.more] : Array Value)[o]? ≠ some (.string v) := by
  intro h
  match o, h with
  | 0, h => simp at h
  | 1, h => simp at h
  | 2, h => simp at h
  | 3, h => simp at h
  | 4, h => simp at h
  | 5, h => simp at h
  | 6, h => simp at h
  | 7, h => simp at h
  | 8, h => simp at h
  | 9, h => simp at h
  | 10, h => simp at h
  | 11, h => simp at h
  | o + 12, h => simp at h

set_option maxHeartbeats 8000000 in
theorem decodes_any (ao : Option Addr) (n c : Nat) (bs : List Int) (er : Nat → Addr) (w : World) (hE : Errs w er) (hL : Lies w ao n c bs) (hn : n ≤ 140737488351232) (hby : Bys bs) :
    Calls Tryz.prog 6 #[.slice ao n c] w fun e w' => e = .returned (.bool true) ∧ Below w.heap.size w w' := by
  have hni : (n : Int) ≤ 140737488351232 := by omega
  go_enter Tryz.func6, Tryz.ntmps6
  go_wp2_with fail
  refine (head_any er _ hE).mono ?_
  rintro e w1 ⟨rfl, hB1⟩
  go_wp2_with fail
  refine (room4 ao n c bs _ hn (hL.below hB1 (Nat.le_refl _))).mono ?_
  rintro e w2 ⟨g, cap, rfl, ho2, hb2⟩
  have hB2 := hB1.trans (hb2.mono hB1.size)
  have hO2 := ownsRow_mono ho2 hB1.size
  have hcap := own_cap ho2
  have hcapI : (n : Int) ≤ (cap : Int) := by omega
  have hP2 := (Lies.owned hO2).pre (k := n) (by omega)
  rw [List.take_left' hL.hlen] at hP2
  clear hB1 ho2 hb2
  go_wp2_with fail
  refine (decodeRequest_any _ n cap bs er _ hP2 (by omega) hby (hE.below hB2 (Nat.le_refl _))).mono ?_
  rintro e w3 ⟨s1, a1, n1, c1, rfl, hs1, ho1, hb3⟩
  have HS1 : Hid (s1 = rqD bs) := hs1
  clear hs1
  have hL1 := Lies.owned ho1
  have hb3x := hb3.trans ((newBox w3 (.cells #[.int .i64 s1.client, .int .i64 s1.seq, .int .i64 s1.ack, .int .i64 s1.epoch, .int .i64 s1.op, .int .i64 s1.id, .int .i64 s1.id2, .int .i64 s1.off, .int .i64 s1.len, .string s1.path, .string s1.name, .string s1.name2, .slice a1 n1 c1] 24)).mono hb3.size)
  have hB3 := hB2.trans (hb3x.mono hB2.size)
  have hB3w := Nat.le_trans hB2.size hb3.size
  have hO3 := own_below hO2 hb3x
  have hL1 := hL1.below (newBox w3 (.cells #[.int .i64 s1.client, .int .i64 s1.seq, .int .i64 s1.ack, .int .i64 s1.epoch, .int .i64 s1.op, .int .i64 s1.id, .int .i64 s1.id2, .int .i64 s1.off, .int .i64 s1.len, .string s1.path, .string s1.name, .string s1.name2, .slice a1 n1 c1] 24)) (Nat.le_refl _)
  have hR3 : RqB (w3.alloc (.cells #[.int .i64 s1.client, .int .i64 s1.seq, .int .i64 s1.ack, .int .i64 s1.epoch, .int .i64 s1.op, .int .i64 s1.id, .int .i64 s1.id2, .int .i64 s1.off, .int .i64 s1.len, .string s1.path, .string s1.name, .string s1.name2, .slice a1 n1 c1] 24)) w3.heap.size s1 a1 n1 c1 := heap_alloc_new _ _
  clear hB2 hO2 hP2 ho1 hb3 hb3x
  have hbr : w3.heap.size < (w3.alloc (.cells #[.int .i64 s1.client, .int .i64 s1.seq, .int .i64 s1.ack, .int .i64 s1.epoch, .int .i64 s1.op, .int .i64 s1.id, .int .i64 s1.id2, .int .i64 s1.off, .int .i64 s1.len, .string s1.path, .string s1.name, .string s1.name2, .slice a1 n1 c1] 24)).heap.size := by simp
  have hB3s : w.heap.size ≤ w3.heap.size := hB3w
  go_wp2_with fail
  generalize w3.alloc (.cells #[.int .i64 s1.client, .int .i64 s1.seq, .int .i64 s1.ack, .int .i64 s1.epoch, .int .i64 s1.op, .int .i64 s1.id, .int .i64 s1.id2, .int .i64 s1.off, .int .i64 s1.len, .string s1.path, .string s1.name, .string s1.name2, .slice a1 n1 c1] 24) = x3 at *
  generalize w3.heap.size = br at *
  refine (rdecRq_any ao n c bs _ (hL.below hB3 (Nat.le_refl _)) (by omega) hby).mono ?_
  rintro e w4 ⟨s2, a2, n2, c2, rfl, hs2, hL2, hb4⟩
  have HS2 : Hid (s2 = rqD bs) := hs2
  clear hs2
  have hb4x := hb4.trans ((newBox w4 (.cells #[.int .i64 s2.client, .int .i64 s2.seq, .int .i64 s2.ack, .int .i64 s2.epoch, .int .i64 s2.op, .int .i64 s2.id, .int .i64 s2.id2, .int .i64 s2.off, .int .i64 s2.len, .string s2.path, .string s2.name, .string s2.name2, .slice a2 n2 c2] 24)).mono hb4.size)
  have hB4 := hB3.trans (hb4x.mono hB3.size)
  have hO4 := own_below hO3 hb4x
  have hL1 := hL1.below hb4x (Nat.le_refl _)
  have hL2 := hL2.below (newBox w4 (.cells #[.int .i64 s2.client, .int .i64 s2.seq, .int .i64 s2.ack, .int .i64 s2.epoch, .int .i64 s2.op, .int .i64 s2.id, .int .i64 s2.id2, .int .i64 s2.off, .int .i64 s2.len, .string s2.path, .string s2.name, .string s2.name2, .slice a2 n2 c2] 24)) (Nat.le_refl _)
  have hR4 := RqB.below hR3 hb4x
  have hQ4 : RqB (w4.alloc (.cells #[.int .i64 s2.client, .int .i64 s2.seq, .int .i64 s2.ack, .int .i64 s2.epoch, .int .i64 s2.op, .int .i64 s2.id, .int .i64 s2.id2, .int .i64 s2.off, .int .i64 s2.len, .string s2.path, .string s2.name, .string s2.name2, .slice a2 n2 c2] 24)) w4.heap.size s2 a2 n2 c2 := heap_alloc_new _ _
  have hbrw : w.heap.size ≤ br := hB3s
  have hbrq : br < w4.heap.size := Nat.lt_of_lt_of_le hbr hb4.size
  clear hB3 hO3 hR3 hb4 hb4x hbr
  have lq := @rqw_get _ _ _ _ _ _ hR4
  have lu := @rqw_get _ _ _ _ _ _ hQ4
  go_wp2_with fail
  clear lq lu
  generalize w4.alloc (.cells #[.int .i64 s2.client, .int .i64 s2.seq, .int .i64 s2.ack, .int .i64 s2.epoch, .int .i64 s2.op, .int .i64 s2.id, .int .i64 s2.id2, .int .i64 s2.off, .int .i64 s2.len, .string s2.path, .string s2.name, .string s2.name2, .slice a2 n2 c2] 24) = x4 at *
  generalize w4.heap.size = bq at *
  have hn1 : n1 ≤ 200000000000000 := by have h := rqD_len bs; rw [← HS1.out, hL1.hlen, hL.hlen] at h; omega
  refine (sameRq_any s1 s2 a1 n1 c1 a2 n2 c2 _ hn1 hL1 hL2).mono ?_
  rintro e w5 ⟨t5, rfl, ht5, hb5⟩
  obtain rfl : t5 = true := ht5.2 (HS1.out.trans HS2.out.symm)
  have hB5 := hB4.trans (hb5.mono hB4.size)
  have hO5 := own_below hO4 hb5
  have hR5 := RqB.below hR4 hb5
  have hQ5 := RqB.below hQ4 hb5
  clear hB4 hO4 hR4 hQ4 hL1 hL2 hb5 ht5
  have hee : (rqDE bs != rqDE bs) = false := by simp
  generalize rqDE bs = E5 at *
  go_wp2_with (go_at_call 13; refine (num_id _ _).mono ?_; rintro e wn ⟨rfl, hwn⟩; subst wn)
  clear hee
  have hP5 := (Lies.owned hO5).pre (k := n) (by omega)
  rw [List.take_left' hL.hlen] at hP5
  refine (decodeReply_any _ n cap bs er _ hP5 (by omega) hby (hE.below hB5 (Nat.le_refl _))).mono ?_
  rintro e w6 ⟨y1, d1, k1, e1, lo1, ln1, lc1, rfl, hy1, hod, hol, hll1, hb6⟩
  have HY1 : Hid (y1 = rpD bs) := hy1
  clear hy1
  have hLd := (Lies.owned hod).below (newBox w6 (.cells #[.int .i64 y1.client, .int .i64 y1.seq, .int .i64 y1.epoch, .int .i64 y1.op, .int .i64 y1.status, .int .i64 y1.ai, .int .i64 y1.ak, .int .i64 y1.az, .int .i64 y1.ac, .slice d1 k1 e1, .slice lo1 ln1 lc1, .bool y1.more] 30)) (Nat.le_refl _)
  have hLl := (CLies.owned hol).below (newBox w6 (.cells #[.int .i64 y1.client, .int .i64 y1.seq, .int .i64 y1.epoch, .int .i64 y1.op, .int .i64 y1.status, .int .i64 y1.ai, .int .i64 y1.ak, .int .i64 y1.az, .int .i64 y1.ac, .slice d1 k1 e1, .slice lo1 ln1 lc1, .bool y1.more] 30)) (Nat.le_refl _)
  have hb6x := hb6.trans ((newBox w6 (.cells #[.int .i64 y1.client, .int .i64 y1.seq, .int .i64 y1.epoch, .int .i64 y1.op, .int .i64 y1.status, .int .i64 y1.ai, .int .i64 y1.ak, .int .i64 y1.az, .int .i64 y1.ac, .slice d1 k1 e1, .slice lo1 ln1 lc1, .bool y1.more] 30)).mono hb6.size)
  have hB6 := hB5.trans (hb6x.mono hB5.size)
  have hby1w : w.heap.size ≤ w6.heap.size := Nat.le_trans hB5.size hb6.size
  have hO6 := own_below hO5 hb6x
  have hR6 := RqB.below hR5 hb6x
  have hQ6 := RqB.below hQ5 hb6x
  have hY6 : RpB (w6.alloc (.cells #[.int .i64 y1.client, .int .i64 y1.seq, .int .i64 y1.epoch, .int .i64 y1.op, .int .i64 y1.status, .int .i64 y1.ai, .int .i64 y1.ak, .int .i64 y1.az, .int .i64 y1.ac, .slice d1 k1 e1, .slice lo1 ln1 lc1, .bool y1.more] 30)) w6.heap.size y1 d1 k1 e1 lo1 ln1 lc1 := heap_alloc_new _ _
  have HLL1 : Hid (y1.list.length = ln1) := hll1
  clear hB5 hO5 hP5 hR5 hQ5 hod hol hb6 hb6x hll1
  have hby1 : w6.heap.size < (w6.alloc (.cells #[.int .i64 y1.client, .int .i64 y1.seq, .int .i64 y1.epoch, .int .i64 y1.op, .int .i64 y1.status, .int .i64 y1.ai, .int .i64 y1.ak, .int .i64 y1.az, .int .i64 y1.ac, .slice d1 k1 e1, .slice lo1 ln1 lc1, .bool y1.more] 30)).heap.size := by simp
  go_wp2_with fail
  generalize w6.alloc (.cells #[.int .i64 y1.client, .int .i64 y1.seq, .int .i64 y1.epoch, .int .i64 y1.op, .int .i64 y1.status, .int .i64 y1.ai, .int .i64 y1.ak, .int .i64 y1.az, .int .i64 y1.ac, .slice d1 k1 e1, .slice lo1 ln1 lc1, .bool y1.more] 30) = x6 at *
  generalize w6.heap.size = by1 at *
  refine (rdecRp_any ao n c bs _ (hL.below hB6 (Nat.le_refl _)) (by omega) hby).mono ?_
  rintro e w7 ⟨y2, d2, k2, e2, lo2, ln2, lc2, rfl, hy2, hMd, hMl, hll2, hb7⟩
  have HY2 : Hid (y2 = rpD bs) := hy2
  clear hy2
  have hb7x := hb7.trans ((newBox w7 (.cells #[.int .i64 y2.client, .int .i64 y2.seq, .int .i64 y2.epoch, .int .i64 y2.op, .int .i64 y2.status, .int .i64 y2.ai, .int .i64 y2.ak, .int .i64 y2.az, .int .i64 y2.ac, .slice d2 k2 e2, .slice lo2 ln2 lc2, .bool y2.more] 30)).mono hb7.size)
  have hB7 := hB6.trans (hb7x.mono hB6.size)
  have hO7 := own_below hO6 hb7x
  have hR7 := RqB.below hR6 hb7x
  have hQ7 := RqB.below hQ6 hb7x
  have hY7 := RpB.below hY6 hb7x
  have hLd := hLd.below hb7x (Nat.le_refl _)
  have hLl := hLl.below hb7x (Nat.le_refl _)
  have hMd := hMd.below (newBox w7 (.cells #[.int .i64 y2.client, .int .i64 y2.seq, .int .i64 y2.epoch, .int .i64 y2.op, .int .i64 y2.status, .int .i64 y2.ai, .int .i64 y2.ak, .int .i64 y2.az, .int .i64 y2.ac, .slice d2 k2 e2, .slice lo2 ln2 lc2, .bool y2.more] 30)) (Nat.le_refl _)
  have hMl := hMl.below (newBox w7 (.cells #[.int .i64 y2.client, .int .i64 y2.seq, .int .i64 y2.epoch, .int .i64 y2.op, .int .i64 y2.status, .int .i64 y2.ai, .int .i64 y2.ak, .int .i64 y2.az, .int .i64 y2.ac, .slice d2 k2 e2, .slice lo2 ln2 lc2, .bool y2.more] 30)) (Nat.le_refl _)
  have hZ7 : RpB (w7.alloc (.cells #[.int .i64 y2.client, .int .i64 y2.seq, .int .i64 y2.epoch, .int .i64 y2.op, .int .i64 y2.status, .int .i64 y2.ai, .int .i64 y2.ak, .int .i64 y2.az, .int .i64 y2.ac, .slice d2 k2 e2, .slice lo2 ln2 lc2, .bool y2.more] 30)) w7.heap.size y2 d2 k2 e2 lo2 ln2 lc2 := heap_alloc_new _ _
  have HLL2 : Hid (y2.list.length = ln2) := hll2
  have hbyy : by1 < w7.heap.size := Nat.lt_of_lt_of_le hby1 hb7.size
  clear hB6 hO6 hR6 hQ6 hY6 hb7 hb7x hll2 hby1
  have lq := @rpw_get _ _ _ _ _ _ _ _ _ hY7
  have lu := @rpw_get _ _ _ _ _ _ _ _ _ hZ7
  go_wp2_with fail
  clear lq lu
  generalize w7.alloc (.cells #[.int .i64 y2.client, .int .i64 y2.seq, .int .i64 y2.epoch, .int .i64 y2.op, .int .i64 y2.status, .int .i64 y2.ai, .int .i64 y2.ak, .int .i64 y2.az, .int .i64 y2.ac, .slice d2 k2 e2, .slice lo2 ln2 lc2, .bool y2.more] 30) = x7 at *
  generalize w7.heap.size = by2 at *
  have hk1 : k1 ≤ 200000000000000 := by have h := (rpD_len bs).1; rw [← HY1.out, hLd.hlen, hL.hlen] at h; omega
  have hk2 : ln1 ≤ 200000000000000 := by have h := (rpD_len bs).2; rw [← HY1.out, HLL1.out] at h; omega
  refine (sameRp_any y1 y2 d1 k1 e1 lo1 ln1 lc1 d2 k2 e2 lo2 ln2 lc2 _ hk1 hk2 hLd hMd hLl hMl HLL1.out HLL2.out).mono ?_
  rintro e w8 ⟨t8, rfl, ht8, hb8⟩
  obtain rfl : t8 = true := ht8.2 (HY1.out.trans HY2.out.symm)
  have hB8 := hB7.trans (hb8.mono hB7.size)
  have hO8 := own_below hO7 hb8
  have hR8 := RqB.below hR7 hb8
  have hQ8 := RqB.below hQ7 hb8
  have hY8 := RpB.below hY7 hb8
  have hZ8 := RpB.below hZ7 hb8
  clear hB7 hO7 hR7 hQ7 hY7 hZ7 hLd hLl hMd hMl hb8 ht8
  have hP8 := (Lies.owned hO8).pre (k := n) (by omega)
  rw [List.take_left' hL.hlen] at hP8
  obtain ⟨KK, hKK⟩ : ∃ KK : Int, (if bs.take 4 = [65, 78, 81, 49] then 1 else if bs.take 4 = [65, 78, 82, 49] then 2 else 0) = KK := ⟨_, rfl⟩
  have HKK : Hid ((if bs.take 4 = [65, 78, 81, 49] then (1 : Int) else if bs.take 4 = [65, 78, 82, 49] then 2 else 0) = KK) := hKK
  have cK := kind_any _ n cap bs w8 hP8 hby
  rw [hKK] at cK
  clear hKK
  go_wp2_with fail
  refine cK.mono ?_
  rintro e wk ⟨rfl, hwk⟩
  subst hwk
  clear cK hP8
  go_wp2_with fail
  refine (room4 ao n c bs _ hn (hL.below hB8 (Nat.le_refl _))).mono ?_
  rintro e w9 ⟨g9, c9, rfl, ho9, hb9⟩
  have hB9 := hB8.trans (hb9.mono hB8.size)
  have hO9 := own_below hO8 hb9
  have hR9 := RqB.below hR8 hb9
  have hQ9 := RqB.below hQ8 hb9
  have hY9 := RpB.below hY8 hb9
  have hZ9 := RpB.below hZ8 hb9
  have hX9 := Lies.owned ho9
  clear hB8 hO8 hR8 hQ8 hY8 hZ8 ho9 hb9
  go_wp2_with fail
  refine (same_any _ _ _ _ _ _ _ _ _ (by omega) (Lies.owned hO9) hX9).mono ?_
  rintro e w10 ⟨rfl, m10, hw10⟩
  have hb10 : Below w9.heap.size w9 w10 := by rw [hw10]; exact below_drewN (Below.refl _ _) m10
  have hB10 := hB9.trans (hb10.mono hB9.size)
  have hO10 := own_below hO9 hb10
  have hR10 := RqB.below hR9 hb10
  have hQ10 := RqB.below hQ9 hb10
  have hY10 := RpB.below hY9 hb10
  have hZ10 := RpB.below hZ9 hb10
  clear hB9 hO9 hR9 hQ9 hY9 hZ9 hX9 hb10 hw10
  rw [decide_eq_true rfl]
  have hee : (rpDE bs != rpDE bs) = false := by simp
  have hkk : (KK != KK) = false := by simp
  generalize rpDE bs = E8 at *
  have cR := rkind_any ao n c bs w10 (hL.below hB10 (Nat.le_refl _))
  rw [HKK.out] at cR
  clear HKK
  by_cases h0 : n = 0
  · subst h0
    go_wp2_with (first | (go_at_call 13; refine (num_id _ _).mono ?_; rintro e wn ⟨rfl, hwn⟩; subst wn) | (go_at_call 34; refine cR.mono ?_; rintro e wn ⟨rfl, hwn⟩; subst wn))
    go_ret
    exact ⟨rfl, hB10⟩
  have h0i : ((n : Int) == 0) = false := by simp; omega
  have hi0 : n - 1 - n / 3 < n := by omega
  obtain ⟨i0, hi0e⟩ : ∃ i0, i0 = n - 1 - n / 3 := ⟨_, rfl⟩
  rw [← hi0e] at hi0
  have hXl : (bs ++ three).length = n + 3 := by simp [hL.hlen, three]
  have hcell : w10.cell? ⟨g, n - 1 - n / 3, none⟩ = some (.int .u8 ((bs ++ three)[i0]'(by omega))) := by
    rw [← hi0e, hO10.cellAt i0 (by omega), List.getElem?_map, List.getElem?_eq_getElem (by omega)]; rfl
  have hfz : w10.frozen? ⟨g, n - 1 - n / 3, none⟩ = false := hO10.frozenAt _
  generalize (bs ++ three)[i0]'(by omega) = z at *
  have hst := hO10.stored (n - 1 - n / 3) (.int .u8 (bits .xor .u8 z 16))
  rw [← List.map_set] at hst
  have hgl := (hO10.lt g rfl).1
  have hB11 := hB10.grown hst.2 hB10.size (fun k hk => by cases hk; exact hgl)
  have hR11 := RqB.row hR10 hst.2 (fun e => own_not hO10 hR10 (by decide) (by rw [e]; rfl))
  have hQ11 := RqB.row hQ10 hst.2 (fun e => own_not hO10 hQ10 (by decide) (by rw [e]; rfl))
  have hY11 := RpB.row hY10 hst.2 (fun e => own_not hO10 hY10 (by decide) (by rw [e]; rfl))
  have hZ11 := RpB.row hZ10 hst.2 (fun e => own_not hO10 hZ10 (by decide) (by rw [e]; rfl))
  have hO11 := hst.1
  have hBX : Bys ((bs ++ three).set (n - 1 - n / 3) (bits .xor .u8 z 16)) := set_bys (hby.app three_bys2) (xor_by _ _)
  generalize (bs ++ three).set (n - 1 - n / 3) (bits .xor .u8 z 16) = X at *
  clear hst hB10 hR10 hQ10 hY10 hZ10 hgl hXl
  go_wp2_with (first | (go_at_call 13; refine (num_id _ _).mono ?_; rintro e wn ⟨rfl, hwn⟩; subst wn) | (go_at_call 34; refine cR.mono ?_; rintro e wn ⟨rfl, hwn⟩; subst wn))
  clear hcell hfz hee hkk cR hO10
  generalize w10.setCell ⟨g, n - 1 - n / 3, none⟩ (.int .u8 (bits .xor .u8 z 16)) = w11 at *
  have hP11 := (Lies.owned hO11).pre (k := n) (by omega)
  have hB2y : Bys (X.take n) := take_bys hBX n
  generalize X.take n = b2 at *
  have hb2l := hP11.hlen
  have HB2L : Hid (b2.length = n) := hb2l
  clear hb2l
  refine (bytes29_any _ n cap b2 _ (by omega) hP11).mono ?_
  rintro e w12 ⟨an, cn, rfl, hon, hb12⟩
  have hB12 := hB11.trans (hb12.mono hB11.size)
  have hO12 := own_below hO11 hb12
  have hR12 := RqB.below hR11 hb12
  have hQ12 := RqB.below hQ11 hb12
  have hY12 := RpB.below hY11 hb12
  have hZ12 := RpB.below hZ11 hb12
  have hP12 := hP11.below hb12 (Nat.le_refl _)
  have hN12 := Lies.owned hon
  clear hB11 hO11 hR11 hQ11 hY11 hZ11 hP11 hb12 hon
  go_wp2_with fail
  refine (decodeRequest_any _ n cap b2 er _ hP12 (by omega) hB2y (hE.below hB12 (Nat.le_refl _))).mono ?_
  rintro e w13 ⟨s3, a3, n3, c3, rfl, hs3, ho3, hb13⟩
  have HS3 : Hid (s3 = rqD b2) := hs3
  have hR13 := RqB.below hR12 hb13
  have hgr := putRq_grown w13 br s3 a3 n3 c3
  have hBq : br ≠ bq := by omega
  have hBy1 : br ≠ by1 := rq_rp_ne hR12 hY12
  have hBy2 : br ≠ by2 := rq_rp_ne hR12 hZ12
  have hB14 := (hB12.trans (hb13.mono hB12.size)).grown hgr (hB12.trans (hb13.mono hB12.size)).size (fun k hk => by cases hk; exact hbrw)
  have hO14 := (own_below hO12 hb13).kept hgr (.inr (own_not (own_below hO12 hb13) hR13 (by decide)))
  have hR14 := putRq_is s3 a3 n3 c3 hR13
  have hQ14 := RqB.row (RqB.below hQ12 hb13) hgr hBq.symm
  have hY14 := RpB.row (RpB.below hY12 hb13) hgr hBy1.symm
  have hZ14 := RpB.row (RpB.below hZ12 hb13) hgr hBy2.symm
  have hN14 := Lies.rqp (r := s3) (co := a3) (n2 := n3) (d2 := c3) (hN12.below hb13 (Nat.le_refl _)) hR13
  have hP14 := Lies.rqp (r := s3) (co := a3) (n2 := n3) (d2 := c3) (hP12.below hb13 (Nat.le_refl _)) hR13
  have hL3 := Lies.rqp (r := s3) (co := a3) (n2 := n3) (d2 := c3) (Lies.owned ho3) hR13
  clear hB12 hO12 hR12 hQ12 hY12 hZ12 hP12 hN12 ho3 hb13 hgr hs3
  have lq := rqw_put hR13 s3 a3 n3 c3
  go_wp2_with fail
  clear hR13 lq
  generalize putRq w13 br s3 a3 n3 c3 = x13 at *
  refine (rdecRq_any an n cn b2 _ hN14 (by omega) hB2y).mono ?_
  rintro e w15 ⟨s4, a4, n4, c4, rfl, hs4, hL4, hb15⟩
  have HS4 : Hid (s4 = rqD b2) := hs4
  have hQ15 := RqB.below hQ14 hb15
  have hgr := putRq_grown w15 bq s4 a4 n4 c4
  have hBy1 : bq ≠ by1 := rq_rp_ne hQ14 hY14
  have hBy2 : bq ≠ by2 := rq_rp_ne hQ14 hZ14
  have hB16 := (hB14.trans (hb15.mono hB14.size)).grown hgr (hB14.trans (hb15.mono hB14.size)).size (fun k hk => by cases hk; omega)
  have hO16 := (own_below hO14 hb15).kept hgr (.inr (own_not (own_below hO14 hb15) hQ15 (by decide)))
  have hR16 := RqB.row (RqB.below hR14 hb15) hgr hBq
  have hQ16 := putRq_is s4 a4 n4 c4 hQ15
  have hY16 := RpB.row (RpB.below hY14 hb15) hgr hBy1.symm
  have hZ16 := RpB.row (RpB.below hZ14 hb15) hgr hBy2.symm
  have hN16 := Lies.rqp (r := s4) (co := a4) (n2 := n4) (d2 := c4) (hN14.below hb15 (Nat.le_refl _)) hQ15
  have hP16 := Lies.rqp (r := s4) (co := a4) (n2 := n4) (d2 := c4) (hP14.below hb15 (Nat.le_refl _)) hQ15
  have hL3 := Lies.rqp (r := s4) (co := a4) (n2 := n4) (d2 := c4) (hL3.below hb15 (Nat.le_refl _)) hQ15
  have hL4 := Lies.rqp (r := s4) (co := a4) (n2 := n4) (d2 := c4) hL4 hQ15
  clear hB14 hO14 hR14 hQ14 hY14 hZ14 hP14 hN14 hb15 hgr hs4
  have lq := rqw_put hQ15 s4 a4 n4 c4
  have lr := @rqw_get _ _ _ _ _ _ hR16
  have lu := @rqw_get _ _ _ _ _ _ hQ16
  go_wp2_with fail
  clear lq lr lu hQ15
  generalize putRq w15 bq s4 a4 n4 c4 = x16 at *
  have hn3 : n3 ≤ 200000000000000 := by have h := rqD_len b2; rw [← HS3.out, hL3.hlen, HB2L.out] at h; omega
  refine (sameRq_any s3 s4 a3 n3 c3 a4 n4 c4 _ hn3 hL3 hL4).mono ?_
  rintro e w17 ⟨t17, rfl, ht17, hb17⟩
  obtain rfl : t17 = true := ht17.2 (HS3.out.trans HS4.out.symm)
  have hB17 := hB16.trans (hb17.mono hB16.size)
  have hY17 := RpB.below hY16 hb17
  have hZ17 := RpB.below hZ16 hb17
  have hN17 := hN16.below hb17 (Nat.le_refl _)
  have hP17 := hP16.below hb17 (Nat.le_refl _)
  clear hB16 hO16 hR16 hQ16 hY16 hZ16 hN16 hP16 hL3 hL4 hb17 ht17 HS3 HS4
  have hee : (rqDE b2 != rqDE b2) = false := by simp
  generalize rqDE b2 = E17 at *
  go_wp2_with (go_at_call 13; refine (num_id _ _).mono ?_; rintro e wn ⟨rfl, hwn⟩; subst wn)
  clear hee
  refine (decodeReply_any _ n cap b2 er _ hP17 (by omega) hB2y (hE.below hB17 (Nat.le_refl _))).mono ?_
  rintro e w18 ⟨y3, d3, k3, e3, lo3, ln3, lc3, rfl, hy3, hod, hol, hll3, hb18⟩
  have HY3 : Hid (y3 = rpD b2) := hy3
  have HLL3 : Hid (y3.list.length = ln3) := hll3
  have hY18 := RpB.below hY17 hb18
  have hgr := putRp_grown w18 by1 y3 d3 k3 e3 lo3 ln3 lc3
  have hB19 := (hB17.trans (hb18.mono hB17.size)).grown hgr (hB17.trans (hb18.mono hB17.size)).size (fun k hk => by cases hk; exact hby1w)
  have hY19 := putRp_is y3 d3 k3 e3 lo3 ln3 lc3 hY18
  have hZ19 := RpB.row (RpB.below hZ17 hb18) hgr (by omega)
  have hN19 := Lies.rpp (r := y3) (co := d3) (n2 := k3) (d2 := e3) (lo2 := lo3) (ln2 := ln3) (lc2 := lc3) (hN17.below hb18 (Nat.le_refl _)) hY18
  have hLd := Lies.rpp (r := y3) (co := d3) (n2 := k3) (d2 := e3) (lo2 := lo3) (ln2 := ln3) (lc2 := lc3) (Lies.owned hod) hY18
  have hol19 := hol.kept hgr (.inr (own_not hol hY18 (by decide)))
  clear hB17 hY17 hZ17 hN17 hP17 hod hol hb18 hgr hy3 hll3
  have lq := rpw_put hY18 y3 d3 k3 e3 lo3 ln3 lc3
  go_wp2_with fail
  clear hY18 lq
  generalize putRp w18 by1 y3 d3 k3 e3 lo3 ln3 lc3 = x18 at *
  refine (rdecRp_any an n cn b2 _ hN19 (by omega) hB2y).mono ?_
  rintro e w20 ⟨y4, d4, k4, e4, lo4, ln4, lc4, rfl, hy4, hMd, hMl, hll4, hb20⟩
  have HY4 : Hid (y4 = rpD b2) := hy4
  have HLL4 : Hid (y4.list.length = ln4) := hll4
  have hZ20 := RpB.below hZ19 hb20
  have hgr := putRp_grown w20 by2 y4 d4 k4 e4 lo4 ln4 lc4
  have hB21 := (hB19.trans (hb20.mono hB19.size)).grown hgr (hB19.trans (hb20.mono hB19.size)).size (fun k hk => by cases hk; omega)
  have hY21 := RpB.row (RpB.below hY19 hb20) hgr (by omega)
  have hZ21 := putRp_is y4 d4 k4 e4 lo4 ln4 lc4 hZ20
  have hLd := Lies.rpp (r := y4) (co := d4) (n2 := k4) (d2 := e4) (lo2 := lo4) (ln2 := ln4) (lc2 := lc4) (hLd.below hb20 (Nat.le_refl _)) hZ20
  have hMd := Lies.rpp (r := y4) (co := d4) (n2 := k4) (d2 := e4) (lo2 := lo4) (ln2 := ln4) (lc2 := lc4) hMd hZ20
  have hLl := CLies.owned ((own_below hol19 hb20).kept hgr (.inr (own_not (own_below hol19 hb20) hZ20 (by decide))))
  have hMl := hMl.past hZ20 (rp_text y2 d2 k2 e2 lo2 ln2 lc2) hgr hll4
  clear hB19 hY19 hZ19 hN19 hol19 hb20 hgr hy4 hll4
  have lq := rpw_put hZ20 y4 d4 k4 e4 lo4 ln4 lc4
  have lr := @rpw_get _ _ _ _ _ _ _ _ _ hY21
  have lu := @rpw_get _ _ _ _ _ _ _ _ _ hZ21
  go_wp2_with fail
  clear lq lr lu hZ20
  generalize putRp w20 by2 y4 d4 k4 e4 lo4 ln4 lc4 = x20 at *
  have hk3 : k3 ≤ 200000000000000 := by have h := (rpD_len b2).1; rw [← HY3.out, hLd.hlen, HB2L.out] at h; omega
  have hk4 : ln3 ≤ 200000000000000 := by have h := (rpD_len b2).2; rw [← HY3.out, HLL3.out] at h; omega
  refine (sameRp_any y3 y4 d3 k3 e3 lo3 ln3 lc3 d4 k4 e4 lo4 ln4 lc4 _ hk3 hk4 hLd hMd hLl hMl HLL3.out HLL4.out).mono ?_
  rintro e w22 ⟨t22, rfl, ht22, hb22⟩
  obtain rfl : t22 = true := ht22.2 (HY3.out.trans HY4.out.symm)
  have hB22 := hB21.trans (hb22.mono hB21.size)
  have hee : (rpDE b2 == rpDE b2) = true := by simp
  generalize rpDE b2 = E22 at *
  go_wp2_with (go_at_call 13; refine (num_id _ _).mono ?_; rintro e wn ⟨rfl, hwn⟩; subst wn)
  go_ret
  exact ⟨rfl, hB22⟩
end Go.Proofs.YtdkcplndplhblaaGreatDoor
