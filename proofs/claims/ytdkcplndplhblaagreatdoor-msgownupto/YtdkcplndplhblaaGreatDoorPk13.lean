/- A message in a box: carried along, laid anew, handed back. -/
import Derived.Test.YtdkcplndplhblaaGreatDoorPk12
import Derived.Laws.ResultCell
namespace Go.Proofs.YtdkcplndplhblaaGreatDoor
open Go.RowKit
set_option maxRecDepth 100000

theorem RqB.below {w w' : World} {B : Nat} {r : Req} {ao : Option Addr} {n c : Nat} (h : RqB w B r ao n c) (hb : Below w.heap.size w w') : RqB w' B r ao n c := (hb.block _ (lt_of_block h)).trans h
theorem RqB.row {w w' : World} {B q : Nat} {r : Req} {ao : Option Addr} {n c : Nat} (h : RqB w B r ao n c) (hg : w.grownBy w' (some q)) (hne : B ≠ q) : RqB w' B r ao n c := (hg.block _ (lt_of_block h) (by simp; exact hne)).trans h
/-- The message laid in a box. -/
abbrev setRq (w : World) (R : Nat) (r : Req) (ao : Option Addr) (n c : Nat) : World := (((((((((((((w.setCell ⟨R, 0, none⟩ (.int .i64 r.client)).setCell ⟨R, 1, none⟩ (.int .i64 r.seq)).setCell ⟨R, 2, none⟩ (.int .i64 r.ack)).setCell ⟨R, 3, none⟩ (.int .i64 r.epoch)).setCell ⟨R, 4, none⟩ (.int .i64 r.op)).setCell ⟨R, 5, none⟩ (.int .i64 r.id)).setCell ⟨R, 6, none⟩ (.int .i64 r.id2)).setCell ⟨R, 7, none⟩ (.int .i64 r.off)).setCell ⟨R, 8, none⟩ (.int .i64 r.len)).setCell ⟨R, 9, none⟩ (.string r.path)).setCell ⟨R, 10, none⟩ (.string r.name)).setCell ⟨R, 11, none⟩ (.string r.name2)).setCell ⟨R, 12, none⟩ (.slice ao n c))
theorem setRq_is {w : World} {R : Nat} {s : Req} {bo : Option Addr} {bn bc : Nat} (r : Req) (ao : Option Addr) (n c : Nat) (h : RqB w R s bo bn bc) : RqB (setRq w R r ao n c) R r ao n c := by
  have h0 : (w.setCell ⟨R, 0, none⟩ (.int .i64 r.client)).heap[R]? = some (.cells #[.int .i64 r.client, .int .i64 s.seq, .int .i64 s.ack, .int .i64 s.epoch, .int .i64 s.op, .int .i64 s.id, .int .i64 s.id2, .int .i64 s.off, .int .i64 s.len, .string s.path, .string s.name, .string s.name2, .slice bo bn bc] 24 (0, 0)) := by rw [heap_setCell_same _ _ _ _ _ _ h]; rfl
  have h1 : ((w.setCell ⟨R, 0, none⟩ (.int .i64 r.client)).setCell ⟨R, 1, none⟩ (.int .i64 r.seq)).heap[R]? = some (.cells #[.int .i64 r.client, .int .i64 r.seq, .int .i64 s.ack, .int .i64 s.epoch, .int .i64 s.op, .int .i64 s.id, .int .i64 s.id2, .int .i64 s.off, .int .i64 s.len, .string s.path, .string s.name, .string s.name2, .slice bo bn bc] 24 (0, 0)) := by rw [heap_setCell_same _ _ _ _ _ _ h0]; rfl
  have h2 : (((w.setCell ⟨R, 0, none⟩ (.int .i64 r.client)).setCell ⟨R, 1, none⟩ (.int .i64 r.seq)).setCell ⟨R, 2, none⟩ (.int .i64 r.ack)).heap[R]? = some (.cells #[.int .i64 r.client, .int .i64 r.seq, .int .i64 r.ack, .int .i64 s.epoch, .int .i64 s.op, .int .i64 s.id, .int .i64 s.id2, .int .i64 s.off, .int .i64 s.len, .string s.path, .string s.name, .string s.name2, .slice bo bn bc] 24 (0, 0)) := by rw [heap_setCell_same _ _ _ _ _ _ h1]; rfl
  have h3 : ((((w.setCell ⟨R, 0, none⟩ (.int .i64 r.client)).setCell ⟨R, 1, none⟩ (.int .i64 r.seq)).setCell ⟨R, 2, none⟩ (.int .i64 r.ack)).setCell ⟨R, 3, none⟩ (.int .i64 r.epoch)).heap[R]? = some (.cells #[.int .i64 r.client, .int .i64 r.seq, .int .i64 r.ack, .int .i64 r.epoch, .int .i64 s.op, .int .i64 s.id, .int .i64 s.id2, .int .i64 s.off, .int .i64 s.len, .string s.path, .string s.name, .string s.name2, .slice bo bn bc] 24 (0, 0)) := by rw [heap_setCell_same _ _ _ _ _ _ h2]; rfl
  have h4 : (((((w.setCell ⟨R, 0, none⟩ (.int .i64 r.client)).setCell ⟨R, 1, none⟩ (.int .i64 r.seq)).setCell ⟨R, 2, none⟩ (.int .i64 r.ack)).setCell ⟨R, 3, none⟩ (.int .i64 r.epoch)).setCell ⟨R, 4, none⟩ (.int .i64 r.op)).heap[R]? = some (.cells #[.int .i64 r.client, .int .i64 r.seq, .int .i64 r.ack, .int .i64 r.epoch, .int .i64 r.op, .int .i64 s.id, .int .i64 s.id2, .int .i64 s.off, .int .i64 s.len, .string s.path, .string s.name, .string s.name2, .slice bo bn bc] 24 (0, 0)) := by rw [heap_setCell_same _ _ _ _ _ _ h3]; rfl
  have h5 : ((((((w.setCell ⟨R, 0, none⟩ (.int .i64 r.client)).setCell ⟨R, 1, none⟩ (.int .i64 r.seq)).setCell ⟨R, 2, none⟩ (.int .i64 r.ack)).setCell ⟨R, 3, none⟩ (.int .i64 r.epoch)).setCell ⟨R, 4, none⟩ (.int .i64 r.op)).setCell ⟨R, 5, none⟩ (.int .i64 r.id)).heap[R]? = some (.cells #[.int .i64 r.client, .int .i64 r.seq, .int .i64 r.ack, .int .i64 r.epoch, .int .i64 r.op, .int .i64 r.id, .int .i64 s.id2, .int .i64 s.off, .int .i64 s.len, .string s.path, .string s.name, .string s.name2, .slice bo bn bc] 24 (0, 0)) := by rw [heap_setCell_same _ _ _ _ _ _ h4]; rfl
  have h6 : (((((((w.setCell ⟨R, 0, none⟩ (.int .i64 r.client)).setCell ⟨R, 1, none⟩ (.int .i64 r.seq)).setCell ⟨R, 2, none⟩ (.int .i64 r.ack)).setCell ⟨R, 3, none⟩ (.int .i64 r.epoch)).setCell ⟨R, 4, none⟩ (.int .i64 r.op)).setCell ⟨R, 5, none⟩ (.int .i64 r.id)).setCell ⟨R, 6, none⟩ (.int .i64 r.id2)).heap[R]? = some (.cells #[.int .i64 r.client, .int .i64 r.seq, .int .i64 r.ack, .int .i64 r.epoch, .int .i64 r.op, .int .i64 r.id, .int .i64 r.id2, .int .i64 s.off, .int .i64 s.len, .string s.path, .string s.name, .string s.name2, .slice bo bn bc] 24 (0, 0)) := by rw [heap_setCell_same _ _ _ _ _ _ h5]; rfl
  have h7 : ((((((((w.setCell ⟨R, 0, none⟩ (.int .i64 r.client)).setCell ⟨R, 1, none⟩ (.int .i64 r.seq)).setCell ⟨R, 2, none⟩ (.int .i64 r.ack)).setCell ⟨R, 3, none⟩ (.int .i64 r.epoch)).setCell ⟨R, 4, none⟩ (.int .i64 r.op)).setCell ⟨R, 5, none⟩ (.int .i64 r.id)).setCell ⟨R, 6, none⟩ (.int .i64 r.id2)).setCell ⟨R, 7, none⟩ (.int .i64 r.off)).heap[R]? = some (.cells #[.int .i64 r.client, .int .i64 r.seq, .int .i64 r.ack, .int .i64 r.epoch, .int .i64 r.op, .int .i64 r.id, .int .i64 r.id2, .int .i64 r.off, .int .i64 s.len, .string s.path, .string s.name, .string s.name2, .slice bo bn bc] 24 (0, 0)) := by rw [heap_setCell_same _ _ _ _ _ _ h6]; rfl
  have h8 : (((((((((w.setCell ⟨R, 0, none⟩ (.int .i64 r.client)).setCell ⟨R, 1, none⟩ (.int .i64 r.seq)).setCell ⟨R, 2, none⟩ (.int .i64 r.ack)).setCell ⟨R, 3, none⟩ (.int .i64 r.epoch)).setCell ⟨R, 4, none⟩ (.int .i64 r.op)).setCell ⟨R, 5, none⟩ (.int .i64 r.id)).setCell ⟨R, 6, none⟩ (.int .i64 r.id2)).setCell ⟨R, 7, none⟩ (.int .i64 r.off)).setCell ⟨R, 8, none⟩ (.int .i64 r.len)).heap[R]? = some (.cells #[.int .i64 r.client, .int .i64 r.seq, .int .i64 r.ack, .int .i64 r.epoch, .int .i64 r.op, .int .i64 r.id, .int .i64 r.id2, .int .i64 r.off, .int .i64 r.len, .string s.path, .string s.name, .string s.name2, .slice bo bn bc] 24 (0, 0)) := by rw [heap_setCell_same _ _ _ _ _ _ h7]; rfl
  have h9 : ((((((((((w.setCell ⟨R, 0, none⟩ (.int .i64 r.client)).setCell ⟨R, 1, none⟩ (.int .i64 r.seq)).setCell ⟨R, 2, none⟩ (.int .i64 r.ack)).setCell ⟨R, 3, none⟩ (.int .i64 r.epoch)).setCell ⟨R, 4, none⟩ (.int .i64 r.op)).setCell ⟨R, 5, none⟩ (.int .i64 r.id)).setCell ⟨R, 6, none⟩ (.int .i64 r.id2)).setCell ⟨R, 7, none⟩ (.int .i64 r.off)).setCell ⟨R, 8, none⟩ (.int .i64 r.len)).setCell ⟨R, 9, none⟩ (.string r.path)).heap[R]? = some (.cells #[.int .i64 r.client, .int .i64 r.seq, .int .i64 r.ack, .int .i64 r.epoch, .int .i64 r.op, .int .i64 r.id, .int .i64 r.id2, .int .i64 r.off, .int .i64 r.len, .string r.path, .string s.name, .string s.name2, .slice bo bn bc] 24 (0, 0)) := by rw [heap_setCell_same _ _ _ _ _ _ h8]; rfl
  have h10 : (((((((((((w.setCell ⟨R, 0, none⟩ (.int .i64 r.client)).setCell ⟨R, 1, none⟩ (.int .i64 r.seq)).setCell ⟨R, 2, none⟩ (.int .i64 r.ack)).setCell ⟨R, 3, none⟩ (.int .i64 r.epoch)).setCell ⟨R, 4, none⟩ (.int .i64 r.op)).setCell ⟨R, 5, none⟩ (.int .i64 r.id)).setCell ⟨R, 6, none⟩ (.int .i64 r.id2)).setCell ⟨R, 7, none⟩ (.int .i64 r.off)).setCell ⟨R, 8, none⟩ (.int .i64 r.len)).setCell ⟨R, 9, none⟩ (.string r.path)).setCell ⟨R, 10, none⟩ (.string r.name)).heap[R]? = some (.cells #[.int .i64 r.client, .int .i64 r.seq, .int .i64 r.ack, .int .i64 r.epoch, .int .i64 r.op, .int .i64 r.id, .int .i64 r.id2, .int .i64 r.off, .int .i64 r.len, .string r.path, .string r.name, .string s.name2, .slice bo bn bc] 24 (0, 0)) := by rw [heap_setCell_same _ _ _ _ _ _ h9]; rfl
  have h11 : ((((((((((((w.setCell ⟨R, 0, none⟩ (.int .i64 r.client)).setCell ⟨R, 1, none⟩ (.int .i64 r.seq)).setCell ⟨R, 2, none⟩ (.int .i64 r.ack)).setCell ⟨R, 3, none⟩ (.int .i64 r.epoch)).setCell ⟨R, 4, none⟩ (.int .i64 r.op)).setCell ⟨R, 5, none⟩ (.int .i64 r.id)).setCell ⟨R, 6, none⟩ (.int .i64 r.id2)).setCell ⟨R, 7, none⟩ (.int .i64 r.off)).setCell ⟨R, 8, none⟩ (.int .i64 r.len)).setCell ⟨R, 9, none⟩ (.string r.path)).setCell ⟨R, 10, none⟩ (.string r.name)).setCell ⟨R, 11, none⟩ (.string r.name2)).heap[R]? = some (.cells #[.int .i64 r.client, .int .i64 r.seq, .int .i64 r.ack, .int .i64 r.epoch, .int .i64 r.op, .int .i64 r.id, .int .i64 r.id2, .int .i64 r.off, .int .i64 r.len, .string r.path, .string r.name, .string r.name2, .slice bo bn bc] 24 (0, 0)) := by rw [heap_setCell_same _ _ _ _ _ _ h10]; rfl
  have h12 : (((((((((((((w.setCell ⟨R, 0, none⟩ (.int .i64 r.client)).setCell ⟨R, 1, none⟩ (.int .i64 r.seq)).setCell ⟨R, 2, none⟩ (.int .i64 r.ack)).setCell ⟨R, 3, none⟩ (.int .i64 r.epoch)).setCell ⟨R, 4, none⟩ (.int .i64 r.op)).setCell ⟨R, 5, none⟩ (.int .i64 r.id)).setCell ⟨R, 6, none⟩ (.int .i64 r.id2)).setCell ⟨R, 7, none⟩ (.int .i64 r.off)).setCell ⟨R, 8, none⟩ (.int .i64 r.len)).setCell ⟨R, 9, none⟩ (.string r.path)).setCell ⟨R, 10, none⟩ (.string r.name)).setCell ⟨R, 11, none⟩ (.string r.name2)).setCell ⟨R, 12, none⟩ (.slice ao n c)).heap[R]? = some (.cells #[.int .i64 r.client, .int .i64 r.seq, .int .i64 r.ack, .int .i64 r.epoch, .int .i64 r.op, .int .i64 r.id, .int .i64 r.id2, .int .i64 r.off, .int .i64 r.len, .string r.path, .string r.name, .string r.name2, .slice ao n c] 24 (0, 0)) := by rw [heap_setCell_same _ _ _ _ _ _ h11]; rfl
  exact h12
theorem setRq_grown (w : World) (R : Nat) (r : Req) (ao : Option Addr) (n c : Nat) : w.grownBy (setRq w R r ao n c) (some R) := by
  refine grown_trans (grown_trans (grown_trans (grown_trans (grown_trans (grown_trans (grown_trans (grown_trans (grown_trans (grown_trans (grown_trans (grown_trans (grown_setCell _ _ _ _) (grown_setCell _ _ _ _)) (grown_setCell _ _ _ _)) (grown_setCell _ _ _ _)) (grown_setCell _ _ _ _)) (grown_setCell _ _ _ _)) (grown_setCell _ _ _ _)) (grown_setCell _ _ _ _)) (grown_setCell _ _ _ _)) (grown_setCell _ _ _ _)) (grown_setCell _ _ _ _)) (grown_setCell _ _ _ _)) (grown_setCell _ _ _ _)
theorem RqB.res {fn : Func} {p u : Tmp} {R : Nat} {w : World} {r : Req} {ao : Option Addr} {n c : Nat} (hf : fn.results = #[.cell p 24, .tmp u]) (tmps : Array Value) (hp : tmps.getD p undef = .pointer (some ⟨R, 0, none⟩)) (h : RqB w R r ao n c) :
    (results fn tmps).run Tryz.prog w = .ok (.tuple #[rqV r ao n c, tmps.getD u undef]) w := by
  obtain ⟨⟨q0, q1, q2, q3, q4, q5, q6, q7, q8, q9, q10, q11, q12⟩, qf⟩ := h.c
  rw [results_cell_tmp hf, hp]
  simp [go_sem, q0, q1, q2, q3, q4, q5, q6, q7, q8, q9, q10, q11, q12]
theorem RpB.below {w w' : World} {B : Nat} {r : Rep} {ao : Option Addr} {n c : Nat} {lo : Option Addr} {ln lc : Nat} (h : RpB w B r ao n c lo ln lc) (hb : Below w.heap.size w w') : RpB w' B r ao n c lo ln lc := (hb.block _ (lt_of_block h)).trans h
theorem RpB.row {w w' : World} {B q : Nat} {r : Rep} {ao : Option Addr} {n c : Nat} {lo : Option Addr} {ln lc : Nat} (h : RpB w B r ao n c lo ln lc) (hg : w.grownBy w' (some q)) (hne : B ≠ q) : RpB w' B r ao n c lo ln lc := (hg.block _ (lt_of_block h) (by simp; exact hne)).trans h
/-- The message laid in a box. -/
abbrev setRp (w : World) (R : Nat) (r : Rep) (ao : Option Addr) (n c : Nat) (lo : Option Addr) (ln lc : Nat) : World := ((((((((((((w.setCell ⟨R, 0, none⟩ (.int .i64 r.client)).setCell ⟨R, 1, none⟩ (.int .i64 r.seq)).setCell ⟨R, 2, none⟩ (.int .i64 r.epoch)).setCell ⟨R, 3, none⟩ (.int .i64 r.op)).setCell ⟨R, 4, none⟩ (.int .i64 r.status)).setCell ⟨R, 5, none⟩ (.int .i64 r.ai)).setCell ⟨R, 6, none⟩ (.int .i64 r.ak)).setCell ⟨R, 7, none⟩ (.int .i64 r.az)).setCell ⟨R, 8, none⟩ (.int .i64 r.ac)).setCell ⟨R, 9, none⟩ (.slice ao n c)).setCell ⟨R, 10, none⟩ (.slice lo ln lc)).setCell ⟨R, 11, none⟩ (.bool r.more))
theorem setRp_is {w : World} {R : Nat} {s : Rep} {bo : Option Addr} {bn bc : Nat} {mo : Option Addr} {mn mc : Nat} (r : Rep) (ao : Option Addr) (n c : Nat) (lo : Option Addr) (ln lc : Nat) (h : RpB w R s bo bn bc mo mn mc) : RpB (setRp w R r ao n c lo ln lc) R r ao n c lo ln lc := by
  have h0 : (w.setCell ⟨R, 0, none⟩ (.int .i64 r.client)).heap[R]? = some (.cells #[.int .i64 r.client, .int .i64 s.seq, .int .i64 s.epoch, .int .i64 s.op, .int .i64 s.status, .int .i64 s.ai, .int .i64 s.ak, .int .i64 s.az, .int .i64 s.ac, .slice bo bn bc, .slice mo mn mc, .bool s.more] 30 (0, 0)) := by rw [heap_setCell_same _ _ _ _ _ _ h]; rfl
  have h1 : ((w.setCell ⟨R, 0, none⟩ (.int .i64 r.client)).setCell ⟨R, 1, none⟩ (.int .i64 r.seq)).heap[R]? = some (.cells #[.int .i64 r.client, .int .i64 r.seq, .int .i64 s.epoch, .int .i64 s.op, .int .i64 s.status, .int .i64 s.ai, .int .i64 s.ak, .int .i64 s.az, .int .i64 s.ac, .slice bo bn bc, .slice mo mn mc, .bool s.more] 30 (0, 0)) := by rw [heap_setCell_same _ _ _ _ _ _ h0]; rfl
  have h2 : (((w.setCell ⟨R, 0, none⟩ (.int .i64 r.client)).setCell ⟨R, 1, none⟩ (.int .i64 r.seq)).setCell ⟨R, 2, none⟩ (.int .i64 r.epoch)).heap[R]? = some (.cells #[.int .i64 r.client, .int .i64 r.seq, .int .i64 r.epoch, .int .i64 s.op, .int .i64 s.status, .int .i64 s.ai, .int .i64 s.ak, .int .i64 s.az, .int .i64 s.ac, .slice bo bn bc, .slice mo mn mc, .bool s.more] 30 (0, 0)) := by rw [heap_setCell_same _ _ _ _ _ _ h1]; rfl
  have h3 : ((((w.setCell ⟨R, 0, none⟩ (.int .i64 r.client)).setCell ⟨R, 1, none⟩ (.int .i64 r.seq)).setCell ⟨R, 2, none⟩ (.int .i64 r.epoch)).setCell ⟨R, 3, none⟩ (.int .i64 r.op)).heap[R]? = some (.cells #[.int .i64 r.client, .int .i64 r.seq, .int .i64 r.epoch, .int .i64 r.op, .int .i64 s.status, .int .i64 s.ai, .int .i64 s.ak, .int .i64 s.az, .int .i64 s.ac, .slice bo bn bc, .slice mo mn mc, .bool s.more] 30 (0, 0)) := by rw [heap_setCell_same _ _ _ _ _ _ h2]; rfl
  have h4 : (((((w.setCell ⟨R, 0, none⟩ (.int .i64 r.client)).setCell ⟨R, 1, none⟩ (.int .i64 r.seq)).setCell ⟨R, 2, none⟩ (.int .i64 r.epoch)).setCell ⟨R, 3, none⟩ (.int .i64 r.op)).setCell ⟨R, 4, none⟩ (.int .i64 r.status)).heap[R]? = some (.cells #[.int .i64 r.client, .int .i64 r.seq, .int .i64 r.epoch, .int .i64 r.op, .int .i64 r.status, .int .i64 s.ai, .int .i64 s.ak, .int .i64 s.az, .int .i64 s.ac, .slice bo bn bc, .slice mo mn mc, .bool s.more] 30 (0, 0)) := by rw [heap_setCell_same _ _ _ _ _ _ h3]; rfl
  have h5 : ((((((w.setCell ⟨R, 0, none⟩ (.int .i64 r.client)).setCell ⟨R, 1, none⟩ (.int .i64 r.seq)).setCell ⟨R, 2, none⟩ (.int .i64 r.epoch)).setCell ⟨R, 3, none⟩ (.int .i64 r.op)).setCell ⟨R, 4, none⟩ (.int .i64 r.status)).setCell ⟨R, 5, none⟩ (.int .i64 r.ai)).heap[R]? = some (.cells #[.int .i64 r.client, .int .i64 r.seq, .int .i64 r.epoch, .int .i64 r.op, .int .i64 r.status, .int .i64 r.ai, .int .i64 s.ak, .int .i64 s.az, .int .i64 s.ac, .slice bo bn bc, .slice mo mn mc, .bool s.more] 30 (0, 0)) := by rw [heap_setCell_same _ _ _ _ _ _ h4]; rfl
  have h6 : (((((((w.setCell ⟨R, 0, none⟩ (.int .i64 r.client)).setCell ⟨R, 1, none⟩ (.int .i64 r.seq)).setCell ⟨R, 2, none⟩ (.int .i64 r.epoch)).setCell ⟨R, 3, none⟩ (.int .i64 r.op)).setCell ⟨R, 4, none⟩ (.int .i64 r.status)).setCell ⟨R, 5, none⟩ (.int .i64 r.ai)).setCell ⟨R, 6, none⟩ (.int .i64 r.ak)).heap[R]? = some (.cells #[.int .i64 r.client, .int .i64 r.seq, .int .i64 r.epoch, .int .i64 r.op, .int .i64 r.status, .int .i64 r.ai, .int .i64 r.ak, .int .i64 s.az, .int .i64 s.ac, .slice bo bn bc, .slice mo mn mc, .bool s.more] 30 (0, 0)) := by rw [heap_setCell_same _ _ _ _ _ _ h5]; rfl
  have h7 : ((((((((w.setCell ⟨R, 0, none⟩ (.int .i64 r.client)).setCell ⟨R, 1, none⟩ (.int .i64 r.seq)).setCell ⟨R, 2, none⟩ (.int .i64 r.epoch)).setCell ⟨R, 3, none⟩ (.int .i64 r.op)).setCell ⟨R, 4, none⟩ (.int .i64 r.status)).setCell ⟨R, 5, none⟩ (.int .i64 r.ai)).setCell ⟨R, 6, none⟩ (.int .i64 r.ak)).setCell ⟨R, 7, none⟩ (.int .i64 r.az)).heap[R]? = some (.cells #[.int .i64 r.client, .int .i64 r.seq, .int .i64 r.epoch, .int .i64 r.op, .int .i64 r.status, .int .i64 r.ai, .int .i64 r.ak, .int .i64 r.az, .int .i64 s.ac, .slice bo bn bc, .slice mo mn mc, .bool s.more] 30 (0, 0)) := by rw [heap_setCell_same _ _ _ _ _ _ h6]; rfl
  have h8 : (((((((((w.setCell ⟨R, 0, none⟩ (.int .i64 r.client)).setCell ⟨R, 1, none⟩ (.int .i64 r.seq)).setCell ⟨R, 2, none⟩ (.int .i64 r.epoch)).setCell ⟨R, 3, none⟩ (.int .i64 r.op)).setCell ⟨R, 4, none⟩ (.int .i64 r.status)).setCell ⟨R, 5, none⟩ (.int .i64 r.ai)).setCell ⟨R, 6, none⟩ (.int .i64 r.ak)).setCell ⟨R, 7, none⟩ (.int .i64 r.az)).setCell ⟨R, 8, none⟩ (.int .i64 r.ac)).heap[R]? = some (.cells #[.int .i64 r.client, .int .i64 r.seq, .int .i64 r.epoch, .int .i64 r.op, .int .i64 r.status, .int .i64 r.ai, .int .i64 r.ak, .int .i64 r.az, .int .i64 r.ac, .slice bo bn bc, .slice mo mn mc, .bool s.more] 30 (0, 0)) := by rw [heap_setCell_same _ _ _ _ _ _ h7]; rfl
  have h9 : ((((((((((w.setCell ⟨R, 0, none⟩ (.int .i64 r.client)).setCell ⟨R, 1, none⟩ (.int .i64 r.seq)).setCell ⟨R, 2, none⟩ (.int .i64 r.epoch)).setCell ⟨R, 3, none⟩ (.int .i64 r.op)).setCell ⟨R, 4, none⟩ (.int .i64 r.status)).setCell ⟨R, 5, none⟩ (.int .i64 r.ai)).setCell ⟨R, 6, none⟩ (.int .i64 r.ak)).setCell ⟨R, 7, none⟩ (.int .i64 r.az)).setCell ⟨R, 8, none⟩ (.int .i64 r.ac)).setCell ⟨R, 9, none⟩ (.slice ao n c)).heap[R]? = some (.cells #[.int .i64 r.client, .int .i64 r.seq, .int .i64 r.epoch, .int .i64 r.op, .int .i64 r.status, .int .i64 r.ai, .int .i64 r.ak, .int .i64 r.az, .int .i64 r.ac, .slice ao n c, .slice mo mn mc, .bool s.more] 30 (0, 0)) := by rw [heap_setCell_same _ _ _ _ _ _ h8]; rfl
  have h10 : (((((((((((w.setCell ⟨R, 0, none⟩ (.int .i64 r.client)).setCell ⟨R, 1, none⟩ (.int .i64 r.seq)).setCell ⟨R, 2, none⟩ (.int .i64 r.epoch)).setCell ⟨R, 3, none⟩ (.int .i64 r.op)).setCell ⟨R, 4, none⟩ (.int .i64 r.status)).setCell ⟨R, 5, none⟩ (.int .i64 r.ai)).setCell ⟨R, 6, none⟩ (.int .i64 r.ak)).setCell ⟨R, 7, none⟩ (.int .i64 r.az)).setCell ⟨R, 8, none⟩ (.int .i64 r.ac)).setCell ⟨R, 9, none⟩ (.slice ao n c)).setCell ⟨R, 10, none⟩ (.slice lo ln lc)).heap[R]? = some (.cells #[.int .i64 r.client, .int .i64 r.seq, .int .i64 r.epoch, .int .i64 r.op, .int .i64 r.status, .int .i64 r.ai, .int .i64 r.ak, .int .i64 r.az, .int .i64 r.ac, .slice ao n c, .slice lo ln lc, .bool s.more] 30 (0, 0)) := by rw [heap_setCell_same _ _ _ _ _ _ h9]; rfl
  have h11 : ((((((((((((w.setCell ⟨R, 0, none⟩ (.int .i64 r.client)).setCell ⟨R, 1, none⟩ (.int .i64 r.seq)).setCell ⟨R, 2, none⟩ (.int .i64 r.epoch)).setCell ⟨R, 3, none⟩ (.int .i64 r.op)).setCell ⟨R, 4, none⟩ (.int .i64 r.status)).setCell ⟨R, 5, none⟩ (.int .i64 r.ai)).setCell ⟨R, 6, none⟩ (.int .i64 r.ak)).setCell ⟨R, 7, none⟩ (.int .i64 r.az)).setCell ⟨R, 8, none⟩ (.int .i64 r.ac)).setCell ⟨R, 9, none⟩ (.slice ao n c)).setCell ⟨R, 10, none⟩ (.slice lo ln lc)).setCell ⟨R, 11, none⟩ (.bool r.more)).heap[R]? = some (.cells #[.int .i64 r.client, .int .i64 r.seq, .int .i64 r.epoch, .int .i64 r.op, .int .i64 r.status, .int .i64 r.ai, .int .i64 r.ak, .int .i64 r.az, .int .i64 r.ac, .slice ao n c, .slice lo ln lc, .bool r.more] 30 (0, 0)) := by rw [heap_setCell_same _ _ _ _ _ _ h10]; rfl
  exact h11
theorem setRp_grown (w : World) (R : Nat) (r : Rep) (ao : Option Addr) (n c : Nat) (lo : Option Addr) (ln lc : Nat) : w.grownBy (setRp w R r ao n c lo ln lc) (some R) := by
  refine grown_trans (grown_trans (grown_trans (grown_trans (grown_trans (grown_trans (grown_trans (grown_trans (grown_trans (grown_trans (grown_trans (grown_setCell _ _ _ _) (grown_setCell _ _ _ _)) (grown_setCell _ _ _ _)) (grown_setCell _ _ _ _)) (grown_setCell _ _ _ _)) (grown_setCell _ _ _ _)) (grown_setCell _ _ _ _)) (grown_setCell _ _ _ _)) (grown_setCell _ _ _ _)) (grown_setCell _ _ _ _)) (grown_setCell _ _ _ _)) (grown_setCell _ _ _ _)
theorem RpB.res {fn : Func} {p u : Tmp} {R : Nat} {w : World} {r : Rep} {ao : Option Addr} {n c : Nat} {lo : Option Addr} {ln lc : Nat} (hf : fn.results = #[.cell p 30, .tmp u]) (tmps : Array Value) (hp : tmps.getD p undef = .pointer (some ⟨R, 0, none⟩)) (h : RpB w R r ao n c lo ln lc) :
    (results fn tmps).run Tryz.prog w = .ok (.tuple #[rpV r ao n c lo ln lc, tmps.getD u undef]) w := by
  obtain ⟨⟨q0, q1, q2, q3, q4, q5, q6, q7, q8, q9, q10, q11⟩, qf⟩ := h.c
  rw [results_cell_tmp hf, hp]
  simp [go_sem, q0, q1, q2, q3, q4, q5, q6, q7, q8, q9, q10, q11]
end Go.Proofs.YtdkcplndplhblaaGreatDoor

/- takeRequest by its contract. -/
namespace Go.Proofs.YtdkcplndplhblaaGreatDoor
open Go.RowKit
set_option maxRecDepth 100000

theorem nb (v : Value) : v.ownBlock = none ∨ v.ownBlock ≠ none := by cases v.ownBlock <;> simp
def rq0 : Req := ⟨0, 0, 0, 0, 0, 0, 0, 0, 0, ⟨#[]⟩, ⟨#[]⟩, ⟨#[]⟩, []⟩
/-- The header, as it is read. -/
def rqH (k : Nat) (bs : List Int) : List (Int × Val) × (Nat × Int) := takeL k bs (rqHead rq0) (0, 0)
/-- The message with its header read. -/
def rq1 (k : Nat) (bs : List Int) : Req := (rqH k bs).1.foldl rqPlace rq0
/-- The fields that are to be read then. -/
def rqG (r : Req) : List (Int × Val) := pick (hasRq r.op) (rqAny r)
/-- The message read whole. -/
def rq2 (k : Nat) (bs : List Int) : Req := (takeL k bs (rqG (rq1 k bs)) (rqH k bs).2).1.foldl rqPlace (rq1 k bs)
def rqJE (r : Req) : Int := judgeE r.op (hasRq r.op) (rqAny r)
/-- The error of reading it. -/
def rqTE (k : Nat) (bs : List Int) : Int :=
  if ¬ (rqH k bs).2.2 = 0 then (rqH k bs).2.2 else if ¬ rqHeadE (rq1 k bs) = 0 then rqHeadE (rq1 k bs) else
  if ¬ lastE k bs (rqG (rq1 k bs)) (rqH k bs).2 = 0 then lastE k bs (rqG (rq1 k bs)) (rqH k bs).2 else rqJE (rq2 k bs)

theorem rqHead_take (k : Nat) (bs : List Int) : takeLE k bs (rqHead rq0) (0, 0) = 0 := by simp [rqHead, takeLE, takeE]
theorem rq1_plain (k : Nat) (bs : List Int) : (rq1 k bs).data = [] ∧ (rq1 k bs).path = ⟨#[]⟩ := by
  simp [rq1, rqH, takeL, rqHead, takeV, rqPlace, rqSmall, rqGreat, rq0]
theorem rqG_void (k : Nat) (bs : List Int) : ∀ g ∈ rqG (rq1 k bs), Void g.2 := by
  intro g hg
  have h1 := (pick_mem hg).1
  simp only [rqAny, List.mem_cons, List.not_mem_nil, or_false] at h1
  rcases h1 with rfl | rfl | rfl | rfl | rfl | rfl | rfl | rfl <;> first | trivial | exact (rq1_plain k bs).1
theorem rqG_len (r : Req) : (rqG r).length ≤ 8 := pick_len _ _
theorem rqH_zero : ∀ g ∈ rqHead rq0, Void g.2 := by
  intro g hg
  simp only [rqHead, List.mem_cons, List.not_mem_nil, or_false] at hg
  rcases hg with rfl | rfl | rfl | rfl | rfl <;> trivial

set_option maxHeartbeats 8000000 in
theorem takeRequest_core {rb g k : Nat} {bs : List Int} {er : Nat → Addr} (w : World) (h : Rd w rb g k bs er (0, 0)) (Hd : List (Int × Val) × (Nat × Int)) (r1 r2 : Req) (TE : Int)
    (HH : Hid (takeL k bs (rqHead rq0) (0, 0) = Hd)) (H1 : Hid (Hd.1.foldl rqPlace rq0 = r1)) (H2 : Hid ((takeL k bs (rqG r1) Hd.2).1.foldl rqPlace r1 = r2))
    (HTE : Hid (TE = if ¬ Hd.2.2 = 0 then Hd.2.2 else if ¬ rqHeadE r1 = 0 then rqHeadE r1 else if ¬ lastE k bs (rqG r1) Hd.2 = 0 then lastE k bs (rqG r1) Hd.2 else rqJE r2)) (hvd : ∀ g ∈ rqG r1, Void g.2) (hpl : r2.path.size ≤ 281474976710656) :
    Calls Tryz.prog 62 #[.pointer (some ⟨rb, 0, none⟩)] w fun e w' => ∃ (r : Req) (ao : Option Addr) (n c : Nat), e = .returned (.tuple #[rqV r ao n c, .int .i64 (TE)]) ∧ (TE = 0 → r = r2 ∧ w'.ownsRow w.heap.size 5 1 (.slice ao n c) n (r.data.map (Value.int .u8))) ∧ w.grownBy w' (some rb) := by
  have hlim := h.lim
  have hrb := hlim.1
  have htE := rqHead_take k bs
  have hv0 := rqH_zero
  go_enter Tryz.func62, Tryz.ntmps62
  go_wp2_with fail
  have hxR : RqB ((w.alloc (.cells #[.int .i64 0, .int .i64 0, .int .i64 0, .int .i64 0, .int .i64 0, .int .i64 0, .int .i64 0, .int .i64 0, .int .i64 0, .string ⟨#[]⟩, .string ⟨#[]⟩, .string ⟨#[]⟩, .slice none 0 0] 24)).alloc (.cells #[.int .i64 0, .int .i64 0, .int .i64 0, .int .i64 0, .int .i64 0, .int .i64 0, .int .i64 0, .int .i64 0, .int .i64 0, .string ⟨#[]⟩, .string ⟨#[]⟩, .string ⟨#[]⟩, .slice none 0 0] 24)) w.heap.size rq0 none 0 0 := ((World.grownBy_alloc (w.alloc (.cells #[.int .i64 0, .int .i64 0, .int .i64 0, .int .i64 0, .int .i64 0, .int .i64 0, .int .i64 0, .int .i64 0, .int .i64 0, .string ⟨#[]⟩, .string ⟨#[]⟩, .string ⟨#[]⟩, .slice none 0 0] 24)) (.cells #[.int .i64 0, .int .i64 0, .int .i64 0, .int .i64 0, .int .i64 0, .int .i64 0, .int .i64 0, .int .i64 0, .int .i64 0, .string ⟨#[]⟩, .string ⟨#[]⟩, .string ⟨#[]⟩, .slice none 0 0] 24) none).block w.heap.size (by simp) (by simp)).trans (heap_alloc_new w _)
  have hxB : RqB ((w.alloc (.cells #[.int .i64 0, .int .i64 0, .int .i64 0, .int .i64 0, .int .i64 0, .int .i64 0, .int .i64 0, .int .i64 0, .int .i64 0, .string ⟨#[]⟩, .string ⟨#[]⟩, .string ⟨#[]⟩, .slice none 0 0] 24)).alloc (.cells #[.int .i64 0, .int .i64 0, .int .i64 0, .int .i64 0, .int .i64 0, .int .i64 0, .int .i64 0, .int .i64 0, .int .i64 0, .string ⟨#[]⟩, .string ⟨#[]⟩, .string ⟨#[]⟩, .slice none 0 0] 24)) (w.heap.size + 1) rq0 none 0 0 := by
    have q := heap_alloc_new (w.alloc (.cells #[.int .i64 0, .int .i64 0, .int .i64 0, .int .i64 0, .int .i64 0, .int .i64 0, .int .i64 0, .int .i64 0, .int .i64 0, .string ⟨#[]⟩, .string ⟨#[]⟩, .string ⟨#[]⟩, .slice none 0 0] 24)) (.cells #[.int .i64 0, .int .i64 0, .int .i64 0, .int .i64 0, .int .i64 0, .int .i64 0, .int .i64 0, .int .i64 0, .int .i64 0, .string ⟨#[]⟩, .string ⟨#[]⟩, .string ⟨#[]⟩, .slice none 0 0] 24)
    rw [show (w.alloc (.cells #[.int .i64 0, .int .i64 0, .int .i64 0, .int .i64 0, .int .i64 0, .int .i64 0, .int .i64 0, .int .i64 0, .int .i64 0, .string ⟨#[]⟩, .string ⟨#[]⟩, .string ⟨#[]⟩, .slice none 0 0] 24)).heap.size = w.heap.size + 1 by simp] at q
    exact q
  have hb0 := box2 w (.cells #[.int .i64 0, .int .i64 0, .int .i64 0, .int .i64 0, .int .i64 0, .int .i64 0, .int .i64 0, .int .i64 0, .int .i64 0, .string ⟨#[]⟩, .string ⟨#[]⟩, .string ⟨#[]⟩, .slice none 0 0] 24) (.cells #[.int .i64 0, .int .i64 0, .int .i64 0, .int .i64 0, .int .i64 0, .int .i64 0, .int .i64 0, .int .i64 0, .int .i64 0, .string ⟨#[]⟩, .string ⟨#[]⟩, .string ⟨#[]⟩, .slice none 0 0] 24)
  have hs0 : ((w.alloc (.cells #[.int .i64 0, .int .i64 0, .int .i64 0, .int .i64 0, .int .i64 0, .int .i64 0, .int .i64 0, .int .i64 0, .int .i64 0, .string ⟨#[]⟩, .string ⟨#[]⟩, .string ⟨#[]⟩, .slice none 0 0] 24)).alloc (.cells #[.int .i64 0, .int .i64 0, .int .i64 0, .int .i64 0, .int .i64 0, .int .i64 0, .int .i64 0, .int .i64 0, .int .i64 0, .string ⟨#[]⟩, .string ⟨#[]⟩, .string ⟨#[]⟩, .slice none 0 0] 24)).heap.size = w.heap.size + 2 := by simp
  generalize (w.alloc (.cells #[.int .i64 0, .int .i64 0, .int .i64 0, .int .i64 0, .int .i64 0, .int .i64 0, .int .i64 0, .int .i64 0, .int .i64 0, .string ⟨#[]⟩, .string ⟨#[]⟩, .string ⟨#[]⟩, .slice none 0 0] 24)).alloc (.cells #[.int .i64 0, .int .i64 0, .int .i64 0, .int .i64 0, .int .i64 0, .int .i64 0, .int .i64 0, .int .i64 0, .int .i64 0, .string ⟨#[]⟩, .string ⟨#[]⟩, .string ⟨#[]⟩, .slice none 0 0] 24) = w0 at *
  have hR0 := h.kept hb0
  refine (requestHead_new rq0 none 0 0 w0).mono ?_
  rintro e w1 ⟨fo1, k1, rfl, hF1, hb1, hn1⟩
  have hR1 := hR0.kept hb1
  have hxR1 := hxR.below hb1
  have hxB1 := hxB.below hb1
  have hG1 : w.grownBy w1 (some rb) := by
    have q := hb0.trans (hb1.mono hb0.size)
    exact ⟨q.os, q.tape, q.output, q.size, fun i hi _ => q.block i hi⟩
  have hs1 := hb1.size
  clear hb0 hb1 hR0 hxR hxB
  go_wp2_with fail
  refine (takeAll_any (rqHead rq0) fo1 5 k1 w.heap.size _ hR1 (by omega) (by omega) hF1 (fun ad had => by have := hn1 ad had; omega) hv0 (by omega)).mono ?_
  rintro e w2 (⟨_, to2, k2, rfl, hT2, hn2, hR2, hg2⟩ | ⟨hbad, _, _⟩)
  rotate_left
  · rw [htE] at hbad; cases hbad
  have hxR2 := hxR1.row hg2 (by omega)
  have hxB2 := hxB1.row hg2 (by omega)
  have hG2 := grown_trans hG1 hg2
  have hs2 := hg2.size
  clear hxR1 hxB1 hG1 hg2 hR1 htE hF1 hn1
  have hHH := HH.out
  rw [hHH] at hT2 hR2 ⊢
  clear hHH
  by_cases h0 : ¬ Hd.2.2 = 0
  · have HE : Hid (TE = Hd.2.2) := by have q := HTE.out; rw [if_pos h0] at q; exact q
    have hne : (Hd.2.2 != 0) = true := by simpa using h0
    have H0 : Hid (¬ Hd.2.2 = 0) := h0
    obtain ⟨⟨a0, a1, a2, a3, a4, a5, a6, a7, a8, a9, a10, a11, a12⟩, af⟩ := hxR2.c
    obtain ⟨⟨b0, b1, b2, b3, b4, b5, b6, b7, b8, b9, b10, b11, b12⟩, bf⟩ := hxB2.c
    clear h0 hT2 hR2 hn2 hvd hv0
    go_wp2
    clear a0 a1 a2 a3 a4 a5 a6 a7 a8 a9 a10 a11 a12 b0 b1 b2 b3 b4 b5 b6 b7 b8 b9 b10 b11 b12 af bf
    have hz := setRq_is rq0 none 0 0 hxR2
    have hzg := setRq_grown w2 w.heap.size rq0 none 0 0
    refine bodyPost_ret (RqB.res rfl _ rfl hz) rfl ?_
    exact ⟨_, _, _, _, by rw [HE.out]; rfl, fun q => absurd (by rw [← HE.out]; exact q) H0.out, grown_above hG2 hzg (Nat.le_refl _)⟩
  replace h0 := Classical.not_not.1 h0
  have hh := HTE.out
  rw [if_neg (by simpa using h0)] at hh
  clear HTE
  have HTE : Hid (TE = if ¬ rqHeadE r1 = 0 then rqHeadE r1 else if ¬ lastE k bs (rqG r1) Hd.2 = 0 then lastE k bs (rqG r1) Hd.2 else rqJE r2) := hh
  clear hh
  rw [h0]
  clear h0
  go_wp2_with fail
  refine (placeInRequest_any rq0 none 0 0 (w.heap.size + 1) w.heap.size Hd.1 to2 5 k2 _ hxB2 (World.ownsRow_nil _ _ _ _) hT2 (fun ad had => by have := hn2 ad had; omega) (by omega)).mono ?_
  rintro e w3 ⟨rfl, ⟨ao, n, c, hxB3, hO3⟩, hg3⟩
  have h1e := H1.out
  rw [h1e] at hxB3 hO3
  clear h1e
  have hR3 := hR2.beside hlim hg3 (by omega)
  have hxR3 := hxR2.row hg3 (by omega)
  have hG3 := grown_above hG2 hg3 (by omega)
  have hs3 := hg3.size
  clear hT2 hn2 hR2 hxR2 hxB2 hG2
  obtain ⟨⟨b0, b1, b2, b3, b4, b5, b6, b7, b8, b9, b10, b11, b12⟩, bf⟩ := hxB3.c
  go_wp2_with fail
  clear b0 b1 b2 b3 b4 b5 b6 b7 b8 b9 b10 b11 b12 bf
  refine (judgeRequestHead_any r1 ao n c _).mono ?_
  rintro e w4 ⟨rfl, hb4⟩
  have hR4 := hR3.kept hb4
  have hxR4 := hxR3.below hb4
  have hxB4 := hxB3.below hb4
  have hO4 := hO3.kept (row := none) ⟨hb4.os, hb4.tape, hb4.output, hb4.size, fun i hi _ => hb4.block i hi⟩ (nb _)
  have hG4 : w.grownBy w4 (some rb) := grown_trans hG3 ⟨hb4.os, hb4.tape, hb4.output, hb4.size, fun i hi _ => hb4.block i hi⟩
  have hs4 := hb4.size
  clear hR3 hxR3 hxB3 hO3 hG3 hb4 hg3
  by_cases h1 : ¬ rqHeadE r1 = 0
  · have HE : Hid (TE = rqHeadE r1) := by have q := HTE.out; rw [if_pos h1] at q; exact q
    have hne : (rqHeadE r1 != 0) = true := by simpa using h1
    have H0 : Hid (¬ rqHeadE r1 = 0) := h1
    obtain ⟨⟨a0, a1, a2, a3, a4, a5, a6, a7, a8, a9, a10, a11, a12⟩, af⟩ := hxR4.c
    obtain ⟨⟨b0, b1, b2, b3, b4, b5, b6, b7, b8, b9, b10, b11, b12⟩, bf⟩ := hxB4.c
    clear h1 hvd
    go_wp2
    clear a0 a1 a2 a3 a4 a5 a6 a7 a8 a9 a10 a11 a12 af b0 b1 b2 b3 b4 b5 b6 b7 b8 b9 b10 b11 b12 bf
    have hz := setRq_is r1 ao n c hxR4
    have hzg := setRq_grown w4 w.heap.size r1 ao n c
    refine bodyPost_ret (RqB.res rfl _ rfl hz) rfl ?_
    exact ⟨_, _, _, _, by rw [HE.out]; rfl, fun q => absurd (by rw [← HE.out]; exact q) H0.out, grown_above hG4 hzg (Nat.le_refl _)⟩
  replace h1 := Classical.not_not.1 h1
  have hh := HTE.out
  rw [if_neg (by simpa using h1)] at hh
  clear HTE
  have HTE : Hid (TE = if ¬ lastE k bs (rqG r1) Hd.2 = 0 then lastE k bs (rqG r1) Hd.2 else rqJE r2) := hh
  clear hh
  rw [h1]
  clear h1
  obtain ⟨⟨b0, b1, b2, b3, b4, b5, b6, b7, b8, b9, b10, b11, b12⟩, bf⟩ := hxB4.c
  go_wp2_with fail
  clear b0 b1 b2 b3 b4 b5 b6 b7 b8 b9 b10 b11 b12 bf
  refine (requestBody_new r1 ao n c _ (Lies.owned hO4)).mono ?_
  rintro e w5 ⟨fo5, m5, k5, rfl, hF5, hb5, hn5⟩
  have hR5 := hR4.kept hb5
  have hxR5 := hxR4.below hb5
  have hxB5 := hxB4.below hb5
  have hO5 := hO4.kept (row := none) ⟨hb5.os, hb5.tape, hb5.output, hb5.size, fun i hi _ => hb5.block i hi⟩ (nb _)
  have hG5 : w.grownBy w5 (some rb) := grown_trans hG4 ⟨hb5.os, hb5.tape, hb5.output, hb5.size, fun i hi _ => hb5.block i hi⟩
  have hs5 := hb5.size
  have hm5 : m5 ≤ 8 := by have q1 := hF5.hlen; have q2 := rqG_len r1; unfold rqG at q2; omega
  clear hR4 hxR4 hxB4 hO4 hG4 hb5
  go_wp2_with fail
  refine (takeLast_any (rqG r1) fo5 m5 k5 w.heap.size _ hR5 (by omega) (by omega) hF5 (fun ad had => by have := hn5 ad had; omega) hvd (by omega)).mono ?_
  rintro e w6 ⟨to6, m6, k6, rfl, hL6, hg6⟩
  have hxR6 := hxR5.row hg6 (by omega)
  have hxB6 := hxB5.row hg6 (by omega)
  have hO6 := own_grown hO5 hg6 hrb
  have hG6 := grown_trans hG5 hg6
  have hs6 := hg6.size
  clear hR5 hxR5 hxB5 hO5 hG5 hg6 hF5 hn5
  by_cases h2 : ¬ lastE k bs (rqG r1) Hd.2 = 0
  · have HE : Hid (TE = lastE k bs (rqG r1) Hd.2) := by have q := HTE.out; rw [if_pos h2] at q; exact q
    have hne : (lastE k bs (rqG r1) Hd.2 != 0) = true := by simpa using h2
    have H0 : Hid (¬ lastE k bs (rqG r1) Hd.2 = 0) := h2
    obtain ⟨⟨a0, a1, a2, a3, a4, a5, a6, a7, a8, a9, a10, a11, a12⟩, af⟩ := hxR6.c
    obtain ⟨⟨b0, b1, b2, b3, b4, b5, b6, b7, b8, b9, b10, b11, b12⟩, bf⟩ := hxB6.c
    clear h2 hvd hL6
    go_wp2
    clear a0 a1 a2 a3 a4 a5 a6 a7 a8 a9 a10 a11 a12 af b0 b1 b2 b3 b4 b5 b6 b7 b8 b9 b10 b11 b12 bf
    have hz := setRq_is r1 ao n c hxR6
    have hzg := setRq_grown w6 w.heap.size r1 ao n c
    refine bodyPost_ret (RqB.res rfl _ rfl hz) rfl ?_
    exact ⟨_, _, _, _, by rw [HE.out]; rfl, fun q => absurd (by rw [← HE.out]; exact q) H0.out, grown_above hG6 hzg (Nat.le_refl _)⟩
  replace h2 := Classical.not_not.1 h2
  obtain ⟨hm6, hT6, hn6⟩ := hL6 h2
  subst hm6
  have hh := HTE.out
  rw [if_neg (by simpa using h2)] at hh
  clear HTE hL6
  have HTE : Hid (TE = rqJE r2) := hh
  clear hh
  rw [h2]
  clear h2
  go_wp2_with fail
  refine (placeInRequest_any r1 ao n c (w.heap.size + 1) w.heap.size (takeL k bs (rqG r1) Hd.2).1 to6 m6 k6 _ hxB6 hO6 hT6 (fun ad had => by have := hn6 ad had; omega) (by omega)).mono ?_
  rintro e w7 ⟨rfl, ⟨ao7, n7, c7, hxB7, hO7⟩, hg7⟩
  have h2e := H2.out
  rw [h2e] at hxB7 hO7
  clear h2e
  have hxR7 := hxR6.row hg7 (by omega)
  have hG7 := grown_above hG6 hg7 (by omega)
  have hs7 := hg7.size
  clear hxR6 hxB6 hO6 hG6 hg7 hT6 hn6
  go_wp2_with fail
  have hO7d : w7.drew.ownsRow w.heap.size 5 1 (.slice ao7 n7 c7) n7 (r2.data.map (Value.int .u8)) := hO7
  have hB7 : RqBox w7.drew (w.heap.size + 1) r2 ao7 n7 c7 := hxB7.c.1
  go_region_held3 (fun w' => w'.cell? ⟨(w.heap.size + 1), 0, none⟩ = some (.int .i64 r2.client) ∧ w'.cell? ⟨(w.heap.size + 1), 1, none⟩ = some (.int .i64 r2.seq) ∧ w'.cell? ⟨(w.heap.size + 1), 2, none⟩ = some (.int .i64 r2.ack) ∧ w'.cell? ⟨(w.heap.size + 1), 3, none⟩ = some (.int .i64 r2.epoch) ∧ w'.cell? ⟨(w.heap.size + 1), 4, none⟩ = some (.int .i64 r2.op) ∧ w'.cell? ⟨(w.heap.size + 1), 5, none⟩ = some (.int .i64 r2.id) ∧ w'.cell? ⟨(w.heap.size + 1), 6, none⟩ = some (.int .i64 r2.id2) ∧ w'.cell? ⟨(w.heap.size + 1), 7, none⟩ = some (.int .i64 r2.off) ∧ w'.cell? ⟨(w.heap.size + 1), 8, none⟩ = some (.int .i64 r2.len) ∧ w'.cell? ⟨(w.heap.size + 1), 9, none⟩ = some (.string r2.path) ∧ w'.cell? ⟨(w.heap.size + 1), 10, none⟩ = some (.string r2.name) ∧ w'.cell? ⟨(w.heap.size + 1), 11, none⟩ = some (.string r2.name2) ∧ w'.cell? ⟨(w.heap.size + 1), 12, none⟩ = some (.slice ao7 n7 c7))
    (first | with_reducible exact hB7 | with_reducible exact hB8 | with_reducible exact hB9)
    (first
      | (go_at_call 39; refine (judgeRequestBody_any r2 ao7 n7 c7 _ (Lies.owned hO7d) hpl).mono ?_; rintro e w8 ⟨rfl, hb8⟩; have hxR8 : RqB w8 w.heap.size rq0 none 0 0 := RqB.below (w := w7.drew) hxR7 hb8; obtain ⟨⟨a0, a1, a2, a3, a4, a5, a6, a7, a8, a9, a10, a11, a12⟩, af⟩ := hxR8.c; have hxB8 : RqB w8 (w.heap.size + 1) r2 ao7 n7 c7 := RqB.below (w := w7.drew) hxB7 hb8; have hB8 := hxB8.c.1; have hB9 := (hxB8.row (setRq_grown w8 w.heap.size r2 ao7 n7 c7) (by omega)).c.1))
  have hz := setRq_is r2 ao7 n7 c7 hxR8
  have hzg := setRq_grown w8 w.heap.size r2 ao7 n7 c7
  have hG8 : w.grownBy w8 (some rb) := grown_trans (grown_trans hG7 (grown_drew _ _)) ⟨hb8.os, hb8.tape, hb8.output, hb8.size, fun i hi _ => hb8.block i hi⟩
  have hO8 := own_other (T := 24) (hO7d.kept (row := none) ⟨hb8.os, hb8.tape, hb8.output, hb8.size, fun i hi _ => hb8.block i hi⟩ (nb _)) hzg ⟨_, hxR8⟩ (by decide)
  clear a0 a1 a2 a3 a4 a5 a6 a7 a8 a9 a10 a11 a12 af hB7 hB8 hB9
  go_wp2
  refine bodyPost_ret (RqB.res rfl _ rfl hz) rfl ?_
  exact ⟨r2, ao7, n7, c7, by rw [HTE.out]; rfl, fun _ => ⟨rfl, hO8⟩, grown_above hG8 hzg (Nat.le_refl _)⟩

theorem takeRequest_any {rb g k : Nat} {bs : List Int} {er : Nat → Addr} (w : World) (h : Rd w rb g k bs er (0, 0)) (hpl : (rq2 k bs).path.size ≤ 281474976710656) :
    Calls Tryz.prog 62 #[.pointer (some ⟨rb, 0, none⟩)] w fun e w' => ∃ (r : Req) (ao : Option Addr) (n c : Nat), e = .returned (.tuple #[rqV r ao n c, .int .i64 (rqTE k bs)]) ∧ (rqTE k bs = 0 → r = rq2 k bs ∧ w'.ownsRow w.heap.size 5 1 (.slice ao n c) n (r.data.map (Value.int .u8))) ∧ w.grownBy w' (some rb) :=
  takeRequest_core w h _ _ _ _ rfl rfl rfl rfl (rqG_void k bs) hpl
end Go.Proofs.YtdkcplndplhblaaGreatDoor

/- Decode by its contract. -/
namespace Go.Proofs.YtdkcplndplhblaaGreatDoor
open Go.RowKit
set_option maxRecDepth 100000

theorem rdText_len (n : Nat) (bs : List Int) (pl : Nat) (code M : Int) : (rdText n bs pl code M).1.length ≤ bs.length := by
  unfold rdText
  split
  · simp
  · split
    · simp
    · split
      · simp
      · split
        · simp
        · split
          · simp
          · simp only [List.length_take, List.length_drop]; omega
theorem fold_path (B : Nat) : ∀ (gs : List (Int × Val)) (r : Req), r.path.size ≤ B → (∀ g ∈ gs, ∀ s, g.2 = .path s → s.size ≤ B) → (gs.foldl rqPlace r).path.size ≤ B
  | [], r, h, _ => h
  | g :: gs, r, h, hg => by
    refine fold_path B gs (rqPlace r g) ?_ (fun x hx => hg x (by simp [hx]))
    obtain ⟨no, x⟩ := g
    cases x with
    | path s => exact hg (no, .path s) (by simp) s rfl
    | small x => show (rqSmall r no x).path.size ≤ B; unfold rqSmall; (repeat' split) <;> exact h
    | great x => show (rqGreat r no x).path.size ≤ B; unfold rqGreat; (repeat' split) <;> exact h
    | name s => show (if no = 12 then ({ r with name2 := s } : Req) else { r with name := s }).path.size ≤ B; split <;> exact h
    | _ => exact h
theorem takeL_path (n : Nat) (bs : List Int) : ∀ (gs : List (Int × Val)) (st : Nat × Int), ∀ g ∈ (takeL n bs gs st).1, ∀ s, g.2 = .path s → s.size ≤ bs.length
  | [], st, g, hg => by simp [takeL] at hg
  | k :: gs, st, g, hg => by
    simp only [takeL, List.mem_cons] at hg
    rcases hg with rfl | hg
    · intro s hs
      obtain ⟨no, x⟩ := k
      cases x with
      | path t =>
        simp only [takeV, Val.path.injEq] at hs
        rw [← hs, txt_size]
        exact rdText_len _ _ _ _ _
      | _ => simp [takeV] at hs
    · exact takeL_path n bs gs _ g hg
theorem rq2_path (k : Nat) (bs : List Int) : (rq2 k bs).path.size ≤ bs.length := by
  refine fold_path _ _ _ ?_ (takeL_path k bs _ _)
  rw [(rq1_plain k bs).2]
  exact Nat.zero_le _

/-- DecodeRequest's error. -/
def rqDE (bs : List Int) : Int := if ¬ openE [65, 78, 81, 49] bs.length bs = 0 then openE [65, 78, 81, 49] bs.length bs else rqTE (bs.length - 12) ((bs.drop 4).take (bs.length - 12))
/-- DecodeRequest's message. -/
def rqD (bs : List Int) : Req := if rqDE bs = 0 then rq2 (bs.length - 12) ((bs.drop 4).take (bs.length - 12)) else rq0

set_option maxHeartbeats 8000000 in
theorem decodeRequest_core (ao : Option Addr) (m c : Nat) (bs : List Int) (er : Nat → Addr) (w : World) (hL : Lies w ao m c bs) (hby : Bys bs) (hE : Errs w er) (E1 E2 E : Int) (D R : Req) (k : Nat) (cs : List Int) (HE1 : Hid (openE [65, 78, 81, 49] m bs = E1)) (HE2 : Hid (rqTE k cs = E2)) (HD : Hid (rq2 k cs = D)) (HK : Hid (m - 12 = k)) (HC : Hid ((bs.drop 4).take (m - 12) = cs)) (HEE : Hid (E = if ¬ E1 = 0 then E1 else E2)) (HRR : Hid (R = if E = 0 then D else rq0)) (hpl : (rq2 k cs).path.size ≤ 281474976710656) :
    Calls Tryz.prog 27 #[.slice ao m c] w fun e w' => ∃ (r : Req) (ao : Option Addr) (n c : Nat), e = .returned (.tuple #[rqV r ao n c, .int .i64 E]) ∧ r = R ∧ w'.ownsRow w.heap.size 5 1 (.slice ao n c) n (r.data.map (Value.int .u8)) ∧ Below w.heap.size w w' := by
  have e1 : nums ⟨#[65, 78, 81, 49]⟩ = [65, 78, 81, 49] := by decide
  have hO := open_any ⟨#[65, 78, 81, 49]⟩ ao m c bs er (w.alloc (.cells #[.int .i64 0, .int .i64 0, .int .i64 0, .int .i64 0, .int .i64 0, .int .i64 0, .int .i64 0, .int .i64 0, .int .i64 0, .string ⟨#[]⟩, .string ⟨#[]⟩, .string ⟨#[]⟩, .slice none 0 0] 24)) rfl (hL.boxed _) hby (hE.alloc _)
  rw [e1] at hO
  have hxR : RqB (w.alloc (.cells #[.int .i64 0, .int .i64 0, .int .i64 0, .int .i64 0, .int .i64 0, .int .i64 0, .int .i64 0, .int .i64 0, .int .i64 0, .string ⟨#[]⟩, .string ⟨#[]⟩, .string ⟨#[]⟩, .slice none 0 0] 24)) w.heap.size rq0 none 0 0 := heap_alloc_new w _
  have hb0 := newBox w (.cells #[.int .i64 0, .int .i64 0, .int .i64 0, .int .i64 0, .int .i64 0, .int .i64 0, .int .i64 0, .int .i64 0, .int .i64 0, .string ⟨#[]⟩, .string ⟨#[]⟩, .string ⟨#[]⟩, .slice none 0 0] 24)
  have hs0 : (w.alloc (.cells #[.int .i64 0, .int .i64 0, .int .i64 0, .int .i64 0, .int .i64 0, .int .i64 0, .int .i64 0, .int .i64 0, .int .i64 0, .string ⟨#[]⟩, .string ⟨#[]⟩, .string ⟨#[]⟩, .slice none 0 0] 24)).heap.size = w.heap.size + 1 := by simp
  clear e1
  go_enter Tryz.func27, Tryz.ntmps27
  go_wp2_with fail
  generalize w.alloc (.cells #[.int .i64 0, .int .i64 0, .int .i64 0, .int .i64 0, .int .i64 0, .int .i64 0, .int .i64 0, .int .i64 0, .int .i64 0, .string ⟨#[]⟩, .string ⟨#[]⟩, .string ⟨#[]⟩, .slice none 0 0] 24) = w0 at *
  refine hO.mono ?_
  rintro e w1 (⟨hne, rfl, hb1⟩ | ⟨h0, rb, g, rfl, hR1, hrb, hb1⟩)
  · have h1e := HE1.out
    rw [h1e] at hne ⊢
    have hneb : (E1 != 0) = true := by simpa using hne
    have HN : Hid (¬ E1 = 0) := hne
    have hxR1 := hxR.below hb1
    have hq1 := hb0.trans (hb1.mono hb0.size)
    obtain ⟨⟨a0, a1, a2, a3, a4, a5, a6, a7, a8, a9, a10, a11, a12⟩, af⟩ := hxR1.c
    clear hO hne h1e
    go_wp2
    clear a0 a1 a2 a3 a4 a5 a6 a7 a8 a9 a10 a11 a12 af
    have hz := setRq_is rq0 none 0 0 hxR1
    have hzg := setRq_grown w1 w.heap.size rq0 none 0 0
    refine bodyPost_ret (RqB.res rfl _ rfl hz) rfl ?_
    have h2 := HN.out
    have he := HEE.out
    rw [if_pos h2] at he
    have hr := HRR.out
    rw [he, if_neg h2] at hr
    refine ⟨rq0, none, 0, 0, by rw [he]; rfl, hr.symm, World.ownsRow_nil _ _ _ _, hq1.grown hzg hq1.size (fun k hk => by cases hk; exact Nat.le_refl _)⟩
  · have h1e := HE1.out
    rw [h1e] at h0
    have hk := HK.out
    have hc := HC.out
    rw [hc, hk] at hR1
    clear h1e hk hc
    have H0 : Hid (E1 = 0) := h0
    have hxR1 := hxR.below hb1
    have hq1 := hb0.trans (hb1.mono hb0.size)
    have hs1 := hb1.size
    clear hO h0 hL
    go_wp2_with fail
    refine (takeRequest_any w1 hR1 hpl).mono ?_
    rintro e w2 ⟨r, ao7, n7, c7, rfl, hok, hg2⟩
    have h2e := HE2.out
    have hde := HD.out
    rw [h2e] at hok ⊢
    rw [hde] at hok
    clear h2e hde
    have hxR2 := hxR1.row hg2 (by omega)
    have hq2 : Below w.heap.size w w2 := hq1.grown hg2 hq1.size (fun k hk => by cases hk; omega)
    have hxR2 := hxR2.below (newBox w2 (.cells #[.int .i64 r.client, .int .i64 r.seq, .int .i64 r.ack, .int .i64 r.epoch, .int .i64 r.op, .int .i64 r.id, .int .i64 r.id2, .int .i64 r.off, .int .i64 r.len, .string r.path, .string r.name, .string r.name2, .slice ao7 n7 c7] 24))
    have hq2 := hq2.trans ((newBox w2 (.cells #[.int .i64 r.client, .int .i64 r.seq, .int .i64 r.ack, .int .i64 r.epoch, .int .i64 r.op, .int .i64 r.id, .int .i64 r.id2, .int .i64 r.off, .int .i64 r.len, .string r.path, .string r.name, .string r.name2, .slice ao7 n7 c7] 24)).mono hq2.size)
    obtain ⟨⟨a0, a1, a2, a3, a4, a5, a6, a7, a8, a9, a10, a11, a12⟩, af⟩ := hxR2.c
    clear hxR1 hR1
    by_cases h2 : ¬ E2 = 0
    · have hneb : (E2 != 0) = true := by simpa using h2
      have HN : Hid (¬ E2 = 0) := h2
      clear h2 hok
      go_wp2
      clear a0 a1 a2 a3 a4 a5 a6 a7 a8 a9 a10 a11 a12 af
      have hz := setRq_is rq0 none 0 0 hxR2
      have hzg := setRq_grown (w2.alloc (.cells #[.int .i64 r.client, .int .i64 r.seq, .int .i64 r.ack, .int .i64 r.epoch, .int .i64 r.op, .int .i64 r.id, .int .i64 r.id2, .int .i64 r.off, .int .i64 r.len, .string r.path, .string r.name, .string r.name2, .slice ao7 n7 c7] 24)) w.heap.size rq0 none 0 0
      refine bodyPost_ret (RqB.res rfl _ rfl hz) rfl ?_
      have h2 := HN.out
      have h0 := H0.out
      have he := HEE.out
      rw [if_neg (by simpa using h0)] at he
      have hr := HRR.out
      rw [he, if_neg h2] at hr
      refine ⟨rq0, none, 0, 0, by rw [he]; rfl, hr.symm, World.ownsRow_nil _ _ _ _, hq2.grown hzg hq2.size (fun k hk => by cases hk; exact Nat.le_refl _)⟩
    · replace h2 := Classical.not_not.1 h2
      obtain ⟨hrr, hO2⟩ := hok h2
      subst hrr
      rw [h2]
      have HN : Hid (E2 = 0) := h2
      clear h2 hok
      go_wp2_with fail
      go_wp2
      clear a0 a1 a2 a3 a4 a5 a6 a7 a8 a9 a10 a11 a12 af
      have hz := setRq_is r ao7 n7 c7 hxR2
      have hzg := setRq_grown (w2.alloc (.cells #[.int .i64 r.client, .int .i64 r.seq, .int .i64 r.ack, .int .i64 r.epoch, .int .i64 r.op, .int .i64 r.id, .int .i64 r.id2, .int .i64 r.off, .int .i64 r.len, .string r.path, .string r.name, .string r.name2, .slice ao7 n7 c7] 24)) w.heap.size r ao7 n7 c7
      refine bodyPost_ret (RqB.res rfl _ rfl hz) rfl ?_
      have h2 := HN.out
      have h0 := H0.out
      have hO3 := own_other (T := 24) ((ownsRow_mono hO2 (show w.heap.size ≤ w1.heap.size by omega)).alloc _) hzg ⟨_, hxR2⟩ (by decide)
      have he := HEE.out
      rw [if_neg (by simpa using h0)] at he
      have hr := HRR.out
      rw [he, if_pos h2] at hr
      refine ⟨r, ao7, n7, c7, by rw [he, h2]; rfl, hr.symm, hO3, hq2.grown hzg hq2.size (fun k hk => by cases hk; exact Nat.le_refl _)⟩

theorem decodeRequest_any (ao : Option Addr) (m c : Nat) (bs : List Int) (er : Nat → Addr) (w : World) (hL : Lies w ao m c bs) (hm : m ≤ 140737488355328) (hby : Bys bs) (hE : Errs w er) :
    Calls Tryz.prog 27 #[.slice ao m c] w fun e w' => ∃ (r : Req) (ao : Option Addr) (n c : Nat), e = .returned (.tuple #[rqV r ao n c, .int .i64 (rqDE bs)]) ∧ r = rqD bs ∧ w'.ownsRow w.heap.size 5 1 (.slice ao n c) n (r.data.map (Value.int .u8)) ∧ Below w.heap.size w w' := by
  have hl := hL.hlen
  subst hl
  refine (decodeRequest_core ao _ c bs er w hL hby hE _ _ _ _ _ _ _ rfl rfl rfl rfl rfl rfl rfl ?_).mono ?_
  · have h1 := rq2_path (bs.length - 12) ((bs.drop 4).take (bs.length - 12)); simp at h1; omega
  · intro e w' h
    exact h

end Go.Proofs.YtdkcplndplhblaaGreatDoor
