/- MsgUnlike by its contract. -/
import Derived.Test.YtdcliiojdlonbaaGreatDoorPk19
namespace Go.Proofs.YtdcliiojdlonbaaGreatDoor
open Go.RowKit
set_option maxRecDepth 100000

theorem box4 (w : World) (r : Req) (ao : Option Addr) (n c : Nat) (q : Req) (bo : Option Addr) (m d : Nat) (y : Rep) (co : Option Addr) (k1 d1 : Nat) (lo : Option Addr) (ln lc : Nat) (p : Rep) (eo : Option Addr) (k2 d2 : Nat) (mo : Option Addr) (mn mc : Nat) :
    RqBox ((((w.alloc (.cells #[.int .i64 r.client, .int .i64 r.seq, .int .i64 r.ack, .int .i64 r.epoch, .int .i64 r.op, .int .i64 r.id, .int .i64 r.id2, .int .i64 r.off, .int .i64 r.len, .string r.path, .string r.name, .string r.name2, .slice ao n c] 24)).alloc (.cells #[.int .i64 q.client, .int .i64 q.seq, .int .i64 q.ack, .int .i64 q.epoch, .int .i64 q.op, .int .i64 q.id, .int .i64 q.id2, .int .i64 q.off, .int .i64 q.len, .string q.path, .string q.name, .string q.name2, .slice bo m d] 24)).alloc (.cells #[.int .i64 y.client, .int .i64 y.seq, .int .i64 y.epoch, .int .i64 y.op, .int .i64 y.status, .int .i64 y.ai, .int .i64 y.ak, .int .i64 y.az, .int .i64 y.ac, .slice co k1 d1, .slice lo ln lc, .bool y.more] 30)).alloc (.cells #[.int .i64 p.client, .int .i64 p.seq, .int .i64 p.epoch, .int .i64 p.op, .int .i64 p.status, .int .i64 p.ai, .int .i64 p.ak, .int .i64 p.az, .int .i64 p.ac, .slice eo k2 d2, .slice mo mn mc, .bool p.more] 30)) w.heap.size r ao n c ∧ RqBox ((((w.alloc (.cells #[.int .i64 r.client, .int .i64 r.seq, .int .i64 r.ack, .int .i64 r.epoch, .int .i64 r.op, .int .i64 r.id, .int .i64 r.id2, .int .i64 r.off, .int .i64 r.len, .string r.path, .string r.name, .string r.name2, .slice ao n c] 24)).alloc (.cells #[.int .i64 q.client, .int .i64 q.seq, .int .i64 q.ack, .int .i64 q.epoch, .int .i64 q.op, .int .i64 q.id, .int .i64 q.id2, .int .i64 q.off, .int .i64 q.len, .string q.path, .string q.name, .string q.name2, .slice bo m d] 24)).alloc (.cells #[.int .i64 y.client, .int .i64 y.seq, .int .i64 y.epoch, .int .i64 y.op, .int .i64 y.status, .int .i64 y.ai, .int .i64 y.ak, .int .i64 y.az, .int .i64 y.ac, .slice co k1 d1, .slice lo ln lc, .bool y.more] 30)).alloc (.cells #[.int .i64 p.client, .int .i64 p.seq, .int .i64 p.epoch, .int .i64 p.op, .int .i64 p.status, .int .i64 p.ai, .int .i64 p.ak, .int .i64 p.az, .int .i64 p.ac, .slice eo k2 d2, .slice mo mn mc, .bool p.more] 30)) (w.heap.size + 1) q bo m d ∧ RpBox ((((w.alloc (.cells #[.int .i64 r.client, .int .i64 r.seq, .int .i64 r.ack, .int .i64 r.epoch, .int .i64 r.op, .int .i64 r.id, .int .i64 r.id2, .int .i64 r.off, .int .i64 r.len, .string r.path, .string r.name, .string r.name2, .slice ao n c] 24)).alloc (.cells #[.int .i64 q.client, .int .i64 q.seq, .int .i64 q.ack, .int .i64 q.epoch, .int .i64 q.op, .int .i64 q.id, .int .i64 q.id2, .int .i64 q.off, .int .i64 q.len, .string q.path, .string q.name, .string q.name2, .slice bo m d] 24)).alloc (.cells #[.int .i64 y.client, .int .i64 y.seq, .int .i64 y.epoch, .int .i64 y.op, .int .i64 y.status, .int .i64 y.ai, .int .i64 y.ak, .int .i64 y.az, .int .i64 y.ac, .slice co k1 d1, .slice lo ln lc, .bool y.more] 30)).alloc (.cells #[.int .i64 p.client, .int .i64 p.seq, .int .i64 p.epoch, .int .i64 p.op, .int .i64 p.status, .int .i64 p.ai, .int .i64 p.ak, .int .i64 p.az, .int .i64 p.ac, .slice eo k2 d2, .slice mo mn mc, .bool p.more] 30)) (w.heap.size + 2) y co k1 d1 lo ln lc ∧ RpBox ((((w.alloc (.cells #[.int .i64 r.client, .int .i64 r.seq, .int .i64 r.ack, .int .i64 r.epoch, .int .i64 r.op, .int .i64 r.id, .int .i64 r.id2, .int .i64 r.off, .int .i64 r.len, .string r.path, .string r.name, .string r.name2, .slice ao n c] 24)).alloc (.cells #[.int .i64 q.client, .int .i64 q.seq, .int .i64 q.ack, .int .i64 q.epoch, .int .i64 q.op, .int .i64 q.id, .int .i64 q.id2, .int .i64 q.off, .int .i64 q.len, .string q.path, .string q.name, .string q.name2, .slice bo m d] 24)).alloc (.cells #[.int .i64 y.client, .int .i64 y.seq, .int .i64 y.epoch, .int .i64 y.op, .int .i64 y.status, .int .i64 y.ai, .int .i64 y.ak, .int .i64 y.az, .int .i64 y.ac, .slice co k1 d1, .slice lo ln lc, .bool y.more] 30)).alloc (.cells #[.int .i64 p.client, .int .i64 p.seq, .int .i64 p.epoch, .int .i64 p.op, .int .i64 p.status, .int .i64 p.ai, .int .i64 p.ak, .int .i64 p.az, .int .i64 p.ac, .slice eo k2 d2, .slice mo mn mc, .bool p.more] 30)) (w.heap.size + 3) p eo k2 d2 mo mn mc ∧ Below w.heap.size w ((((w.alloc (.cells #[.int .i64 r.client, .int .i64 r.seq, .int .i64 r.ack, .int .i64 r.epoch, .int .i64 r.op, .int .i64 r.id, .int .i64 r.id2, .int .i64 r.off, .int .i64 r.len, .string r.path, .string r.name, .string r.name2, .slice ao n c] 24)).alloc (.cells #[.int .i64 q.client, .int .i64 q.seq, .int .i64 q.ack, .int .i64 q.epoch, .int .i64 q.op, .int .i64 q.id, .int .i64 q.id2, .int .i64 q.off, .int .i64 q.len, .string q.path, .string q.name, .string q.name2, .slice bo m d] 24)).alloc (.cells #[.int .i64 y.client, .int .i64 y.seq, .int .i64 y.epoch, .int .i64 y.op, .int .i64 y.status, .int .i64 y.ai, .int .i64 y.ak, .int .i64 y.az, .int .i64 y.ac, .slice co k1 d1, .slice lo ln lc, .bool y.more] 30)).alloc (.cells #[.int .i64 p.client, .int .i64 p.seq, .int .i64 p.epoch, .int .i64 p.op, .int .i64 p.status, .int .i64 p.ai, .int .i64 p.ak, .int .i64 p.az, .int .i64 p.ac, .slice eo k2 d2, .slice mo mn mc, .bool p.more] 30)) := by
  have a1 := RqBox.later (RqBox.later (RqBox.later (RqBox.new w r ao n c) (newBox _ (.cells #[.int .i64 q.client, .int .i64 q.seq, .int .i64 q.ack, .int .i64 q.epoch, .int .i64 q.op, .int .i64 q.id, .int .i64 q.id2, .int .i64 q.off, .int .i64 q.len, .string q.path, .string q.name, .string q.name2, .slice bo m d] 24)) (Nat.le_refl _)) (newBox _ (.cells #[.int .i64 y.client, .int .i64 y.seq, .int .i64 y.epoch, .int .i64 y.op, .int .i64 y.status, .int .i64 y.ai, .int .i64 y.ak, .int .i64 y.az, .int .i64 y.ac, .slice co k1 d1, .slice lo ln lc, .bool y.more] 30)) (Nat.le_refl _)) (newBox _ (.cells #[.int .i64 p.client, .int .i64 p.seq, .int .i64 p.epoch, .int .i64 p.op, .int .i64 p.status, .int .i64 p.ai, .int .i64 p.ak, .int .i64 p.az, .int .i64 p.ac, .slice eo k2 d2, .slice mo mn mc, .bool p.more] 30)) (Nat.le_refl _)
  have a2 := RqBox.later (RqBox.later (RqBox.new (w.alloc (.cells #[.int .i64 r.client, .int .i64 r.seq, .int .i64 r.ack, .int .i64 r.epoch, .int .i64 r.op, .int .i64 r.id, .int .i64 r.id2, .int .i64 r.off, .int .i64 r.len, .string r.path, .string r.name, .string r.name2, .slice ao n c] 24)) q bo m d) (newBox _ (.cells #[.int .i64 y.client, .int .i64 y.seq, .int .i64 y.epoch, .int .i64 y.op, .int .i64 y.status, .int .i64 y.ai, .int .i64 y.ak, .int .i64 y.az, .int .i64 y.ac, .slice co k1 d1, .slice lo ln lc, .bool y.more] 30)) (Nat.le_refl _)) (newBox _ (.cells #[.int .i64 p.client, .int .i64 p.seq, .int .i64 p.epoch, .int .i64 p.op, .int .i64 p.status, .int .i64 p.ai, .int .i64 p.ak, .int .i64 p.az, .int .i64 p.ac, .slice eo k2 d2, .slice mo mn mc, .bool p.more] 30)) (Nat.le_refl _)
  have a3 := RpBox.later (RpBox.new ((w.alloc (.cells #[.int .i64 r.client, .int .i64 r.seq, .int .i64 r.ack, .int .i64 r.epoch, .int .i64 r.op, .int .i64 r.id, .int .i64 r.id2, .int .i64 r.off, .int .i64 r.len, .string r.path, .string r.name, .string r.name2, .slice ao n c] 24)).alloc (.cells #[.int .i64 q.client, .int .i64 q.seq, .int .i64 q.ack, .int .i64 q.epoch, .int .i64 q.op, .int .i64 q.id, .int .i64 q.id2, .int .i64 q.off, .int .i64 q.len, .string q.path, .string q.name, .string q.name2, .slice bo m d] 24)) y co k1 d1 lo ln lc) (newBox _ (.cells #[.int .i64 p.client, .int .i64 p.seq, .int .i64 p.epoch, .int .i64 p.op, .int .i64 p.status, .int .i64 p.ai, .int .i64 p.ak, .int .i64 p.az, .int .i64 p.ac, .slice eo k2 d2, .slice mo mn mc, .bool p.more] 30)) (Nat.le_refl _)
  have a4 := RpBox.new (((w.alloc (.cells #[.int .i64 r.client, .int .i64 r.seq, .int .i64 r.ack, .int .i64 r.epoch, .int .i64 r.op, .int .i64 r.id, .int .i64 r.id2, .int .i64 r.off, .int .i64 r.len, .string r.path, .string r.name, .string r.name2, .slice ao n c] 24)).alloc (.cells #[.int .i64 q.client, .int .i64 q.seq, .int .i64 q.ack, .int .i64 q.epoch, .int .i64 q.op, .int .i64 q.id, .int .i64 q.id2, .int .i64 q.off, .int .i64 q.len, .string q.path, .string q.name, .string q.name2, .slice bo m d] 24)).alloc (.cells #[.int .i64 y.client, .int .i64 y.seq, .int .i64 y.epoch, .int .i64 y.op, .int .i64 y.status, .int .i64 y.ai, .int .i64 y.ak, .int .i64 y.az, .int .i64 y.ac, .slice co k1 d1, .slice lo ln lc, .bool y.more] 30)) p eo k2 d2 mo mn mc
  rw [show (w.alloc (.cells #[.int .i64 r.client, .int .i64 r.seq, .int .i64 r.ack, .int .i64 r.epoch, .int .i64 r.op, .int .i64 r.id, .int .i64 r.id2, .int .i64 r.off, .int .i64 r.len, .string r.path, .string r.name, .string r.name2, .slice ao n c] 24)).heap.size = w.heap.size + 1 by simp] at a2
  rw [show ((w.alloc (.cells #[.int .i64 r.client, .int .i64 r.seq, .int .i64 r.ack, .int .i64 r.epoch, .int .i64 r.op, .int .i64 r.id, .int .i64 r.id2, .int .i64 r.off, .int .i64 r.len, .string r.path, .string r.name, .string r.name2, .slice ao n c] 24)).alloc (.cells #[.int .i64 q.client, .int .i64 q.seq, .int .i64 q.ack, .int .i64 q.epoch, .int .i64 q.op, .int .i64 q.id, .int .i64 q.id2, .int .i64 q.off, .int .i64 q.len, .string q.path, .string q.name, .string q.name2, .slice bo m d] 24)).heap.size = w.heap.size + 2 by simp] at a3
  rw [show (((w.alloc (.cells #[.int .i64 r.client, .int .i64 r.seq, .int .i64 r.ack, .int .i64 r.epoch, .int .i64 r.op, .int .i64 r.id, .int .i64 r.id2, .int .i64 r.off, .int .i64 r.len, .string r.path, .string r.name, .string r.name2, .slice ao n c] 24)).alloc (.cells #[.int .i64 q.client, .int .i64 q.seq, .int .i64 q.ack, .int .i64 q.epoch, .int .i64 q.op, .int .i64 q.id, .int .i64 q.id2, .int .i64 q.off, .int .i64 q.len, .string q.path, .string q.name, .string q.name2, .slice bo m d] 24)).alloc (.cells #[.int .i64 y.client, .int .i64 y.seq, .int .i64 y.epoch, .int .i64 y.op, .int .i64 y.status, .int .i64 y.ai, .int .i64 y.ak, .int .i64 y.az, .int .i64 y.ac, .slice co k1 d1, .slice lo ln lc, .bool y.more] 30)).heap.size = w.heap.size + 3 by simp] at a4
  have hb := box2 w (.cells #[.int .i64 r.client, .int .i64 r.seq, .int .i64 r.ack, .int .i64 r.epoch, .int .i64 r.op, .int .i64 r.id, .int .i64 r.id2, .int .i64 r.off, .int .i64 r.len, .string r.path, .string r.name, .string r.name2, .slice ao n c] 24) (.cells #[.int .i64 q.client, .int .i64 q.seq, .int .i64 q.ack, .int .i64 q.epoch, .int .i64 q.op, .int .i64 q.id, .int .i64 q.id2, .int .i64 q.off, .int .i64 q.len, .string q.path, .string q.name, .string q.name2, .slice bo m d] 24)
  exact ⟨a1, a2, a3, a4, hb.trans ((box2 ((w.alloc (.cells #[.int .i64 r.client, .int .i64 r.seq, .int .i64 r.ack, .int .i64 r.epoch, .int .i64 r.op, .int .i64 r.id, .int .i64 r.id2, .int .i64 r.off, .int .i64 r.len, .string r.path, .string r.name, .string r.name2, .slice ao n c] 24)).alloc (.cells #[.int .i64 q.client, .int .i64 q.seq, .int .i64 q.ack, .int .i64 q.epoch, .int .i64 q.op, .int .i64 q.id, .int .i64 q.id2, .int .i64 q.off, .int .i64 q.len, .string q.path, .string q.name, .string q.name2, .slice bo m d] 24)) (.cells #[.int .i64 y.client, .int .i64 y.seq, .int .i64 y.epoch, .int .i64 y.op, .int .i64 y.status, .int .i64 y.ai, .int .i64 y.ak, .int .i64 y.az, .int .i64 y.ac, .slice co k1 d1, .slice lo ln lc, .bool y.more] 30) (.cells #[.int .i64 p.client, .int .i64 p.seq, .int .i64 p.epoch, .int .i64 p.op, .int .i64 p.status, .int .i64 p.ai, .int .i64 p.ak, .int .i64 p.az, .int .i64 p.ac, .slice eo k2 d2, .slice mo mn mc, .bool p.more] 30)).mono hb.size)⟩

set_option maxHeartbeats 8000000 in
theorem unlike_any (r : Req) (ao : Option Addr) (n c : Nat) (q : Req) (bo : Option Addr) (m d : Nat) (y : Rep) (co : Option Addr) (k1 d1 : Nat) (lo : Option Addr) (ln lc : Nat) (p : Rep) (eo : Option Addr) (k2 d2 : Nat) (mo : Option Addr) (mn mc : Nat) (er : Nat → Addr) (w : World) (hE : Errs w er)
    (hD1 : Lies w ao n c r.data) (hn : n ≤ 200000000000000) (hp1 : r.path.size ≤ 281474976710656) (hby1 : Bys r.data) (hD2 : Lies w bo m d q.data) (hp2 : q.path.size ≤ 281474976710656) (hby2 : Bys q.data)
    (hD3 : Lies w co k1 d1 y.data) (hk1 : k1 ≤ 200000000000000) (hby3 : Bys y.data) (hN3 : CLies w lo ln lc 3 (entCells y.list)) (hel : y.list.length = ln) (hln : ln ≤ 200000000000000)
    (hD4 : Lies w eo k2 d2 p.data) (hby4 : Bys p.data) (hN4 : CLies w mo mn mc 3 (entCells p.list)) (hem : p.list.length = mn) :
    Calls Tryz.prog 3 #[rqV r ao n c, rqV q bo m d, rpV y co k1 d1 lo ln lc, rpV p eo k2 d2 mo mn mc] w fun e w' => e = .returned (.bool true) ∧ Below w.heap.size w w' := by
  have HEL : Hid (y.list.length = ln) := hel
  have HEM : Hid (p.list.length = mn) := hem
  clear hel hem
  obtain ⟨hR0, hQ0, hY0, hP0, hb0⟩ := box4 w r ao n c q bo m d y co k1 d1 lo ln lc p eo k2 d2 mo mn mc
  go_enter Tryz.func3, Tryz.ntmps3
  go_wp2_with fail
  generalize ((((w.alloc (.cells #[.int .i64 r.client, .int .i64 r.seq, .int .i64 r.ack, .int .i64 r.epoch, .int .i64 r.op, .int .i64 r.id, .int .i64 r.id2, .int .i64 r.off, .int .i64 r.len, .string r.path, .string r.name, .string r.name2, .slice ao n c] 24)).alloc (.cells #[.int .i64 q.client, .int .i64 q.seq, .int .i64 q.ack, .int .i64 q.epoch, .int .i64 q.op, .int .i64 q.id, .int .i64 q.id2, .int .i64 q.off, .int .i64 q.len, .string q.path, .string q.name, .string q.name2, .slice bo m d] 24)).alloc (.cells #[.int .i64 y.client, .int .i64 y.seq, .int .i64 y.epoch, .int .i64 y.op, .int .i64 y.status, .int .i64 y.ai, .int .i64 y.ak, .int .i64 y.az, .int .i64 y.ac, .slice co k1 d1, .slice lo ln lc, .bool y.more] 30)).alloc (.cells #[.int .i64 p.client, .int .i64 p.seq, .int .i64 p.epoch, .int .i64 p.op, .int .i64 p.status, .int .i64 p.ai, .int .i64 p.ak, .int .i64 p.az, .int .i64 p.ac, .slice eo k2 d2, .slice mo mn mc, .bool p.more] 30)) = w0 at *
  refine (head_any er _ (hE.below hb0 (Nat.le_refl _))).mono ?_
  rintro e w1 ⟨rfl, hb1⟩
  have hR1 := RqBox.later hR0 hb1 (Nat.le_refl _)
  have hQ1 := RqBox.later hQ0 hb1 (Nat.le_refl _)
  have hY1 := RpBox.later hY0 hb1 (Nat.le_refl _)
  have hP1 := RpBox.later hP0 hb1 (Nat.le_refl _)
  have hB1 := hb0.trans (hb1.mono hb0.size)
  clear hR0 hQ0 hY0 hP0 hb0 hb1
  have hR1' := hR1
  obtain ⟨q0, q1, q2, q3, q4, q5, q6, q7, q8, q9, q10, q11, q12⟩ := hR1'
  go_wp2_with fail
  clear q0 q1 q2 q3 q4 q5 q6 q7 q8 q9 q10 q11 q12
  refine (encRq r ao n c _ (hD1.below hB1 (Nat.le_refl _)) hp1 hby1).mono ?_
  rintro e w2 ⟨g2, i2, j2, rfl, hb2, hok2, _⟩
  have hR2 := RqBox.later hR1 hb2 (Nat.le_refl _)
  have hQ2 := RqBox.later hQ1 hb2 (Nat.le_refl _)
  have hY2 := RpBox.later hY1 hb2 (Nat.le_refl _)
  have hP2 := RpBox.later hP1 hb2 (Nat.le_refl _)
  have hB2 := hB1.trans (hb2.mono hB1.size)
  clear hR1 hQ1 hY1 hP1 hb2 hB1
  have hQ2' := hQ2
  obtain ⟨q0, q1, q2, q3, q4, q5, q6, q7, q8, q9, q10, q11, q12⟩ := hQ2'
  go_wp2_with fail
  clear q0 q1 q2 q3 q4 q5 q6 q7 q8 q9 q10 q11 q12
  refine (encRq q bo m d _ (hD2.below hB2 (Nat.le_refl _)) hp2 hby2).mono ?_
  rintro e w3 ⟨g3, i3, j3, rfl, hb3, hok3, _⟩
  have hR3 := RqBox.later hR2 hb3 (Nat.le_refl _)
  have hQ3 := RqBox.later hQ2 hb3 (Nat.le_refl _)
  have hY3 := RpBox.later hY2 hb3 (Nat.le_refl _)
  have hP3 := RpBox.later hP2 hb3 (Nat.le_refl _)
  have hB3 := hB2.trans (hb3.mono hB2.size)
  have hok2 : rqE r = 0 → Lies w3 g2 i2 j2 (rqB r) := fun h => (hok2 h).below hb3 (Nat.le_refl _)
  clear hR2 hQ2 hY2 hP2 hb3 hB2
  by_cases hz1 : rqE r = 0
  case neg =>
    have hne1 : (rqE r != 0) = true := by simpa using hz1
    have hne2 : (rqE r == 0) = false := by simpa using hz1
    clear hok2 hok3 hR3 hQ3
    generalize rqE r = E1 at *
    have hY3' := hY3
    obtain ⟨u0, u1, u2, u3, u4, u5, u6, u7, u8, u9, u10, u11⟩ := hY3'
    go_wp2_with (go_at_call 11; refine (num_id _ _).mono ?_; rintro e wn ⟨rfl, hwn⟩; subst wn)
    clear u0 u1 u2 u3 u4 u5 u6 u7 u8 u9 u10 u11
    refine (encRp y co k1 d1 lo ln lc _ (hD3.below hB3 (Nat.le_refl _)) (hN3.below hB3 (Nat.le_refl _)) HEL.out hby3).mono ?_
    rintro e x1 ⟨g1, i1, j1, rfl, hc1, hok1, _⟩
    have hY1 := RpBox.later hY3 hc1 (Nat.le_refl _)
    have hP1 := RpBox.later hP3 hc1 (Nat.le_refl _)
    have hC1 := hB3.trans (hc1.mono hB3.size)
    clear hY3 hP3 hc1 hB3
    have hP1' := hP1
    obtain ⟨v0, v1, v2, v3, v4, v5, v6, v7, v8, v9, v10, v11⟩ := hP1'
    go_wp2_with fail
    clear v0 v1 v2 v3 v4 v5 v6 v7 v8 v9 v10 v11
    refine (encRp p eo k2 d2 mo mn mc _ (hD4.below hC1 (Nat.le_refl _)) (hN4.below hC1 (Nat.le_refl _)) HEM.out hby4).mono ?_
    rintro e x2 ⟨g2, i2, j2, rfl, hc2, hok2, _⟩
    have hY2 := RpBox.later hY1 hc2 (Nat.le_refl _)
    have hP2 := RpBox.later hP1 hc2 (Nat.le_refl _)
    have hC2 := hC1.trans (hc2.mono hC1.size)
    have hok1 : rpE y = 0 → Lies x2 g1 i1 j1 (rpB y) := fun h => (hok1 h).below hc2 (Nat.le_refl _)
    clear hY1 hP1 hc2 hC1
    by_cases hz1 : rpE y = 0
    case neg =>
      have hne1 : (rpE y != 0) = true := by simpa using hz1
      have hne2 : (rpE y == 0) = false := by simpa using hz1
      clear hok1 hok2
      generalize rpE y = E1 at *
      go_wp2_with (go_at_call 11; refine (num_id _ _).mono ?_; rintro e wn ⟨rfl, hwn⟩; subst wn)
      go_ret
      exact ⟨rfl, hC2⟩
    by_cases hz2 : rpE p = 0
    case neg =>
      have hne1 : (rpE p != 0) = true := by simpa using hz2
      have hne2 : (rpE p == 0) = false := by simpa using hz2
      rw [hz1]
      clear hok1 hok2
      generalize rpE p = E2 at *
      go_wp2_with (go_at_call 11; refine (num_id _ _).mono ?_; rintro e wn ⟨rfl, hwn⟩; subst wn)
      go_ret
      exact ⟨rfl, hC2⟩
    have hL1 := hok1 hz1
    have hL2 := hok2 hz2
    have HI : Hid (rpB y = rpB p ↔ y = p) := ⟨fun h => by rw [← (rp_back hz1).2.1, ← (rp_back hz2).2.1, h], fun h => by rw [h]⟩
    rw [hz1, hz2]
    clear hok1 hok2
    have hi1 : i1 ≤ 200000000000000 := by rw [← hL1.hlen]; have := (rp_back hz1).2.2; omega
    go_wp2_with (go_at_call 11; refine (num_id _ _).mono ?_; rintro e wn ⟨rfl, hwn⟩; subst wn)
    refine (same_any g1 g2 i1 i2 j1 j2 _ _ _ hi1 hL1 hL2).mono ?_
    rintro e x3 ⟨rfl, mm, hw3⟩
    have hb3 : Below x2.heap.size x2 x3 := by rw [hw3]; exact below_drewN (Below.refl _ _) mm
    have hY3 := RpBox.later hY2 hb3 (Nat.le_refl _)
    have hP3 := RpBox.later hP2 hb3 (Nat.le_refl _)
    have hC3 := hC2.trans (hb3.mono hC2.size)
    clear hY2 hP2 hb3 hC2 hL1 hL2 hw3
    obtain ⟨u0, u1, u2, u3, u4, u5, u6, u7, u8, u9, u10, u11⟩ := hY3
    obtain ⟨v0, v1, v2, v3, v4, v5, v6, v7, v8, v9, v10, v11⟩ := hP3
    go_wp2_with fail
    clear u0 u1 u2 u3 u4 u5 u6 u7 u8 u9 u10 u11 v0 v1 v2 v3 v4 v5 v6 v7 v8 v9 v10 v11
    refine (sameRp_any y p co k1 d1 lo ln lc eo k2 d2 mo mn mc _ hk1 hln (hD3.below hC3 (Nat.le_refl _)) (hD4.below hC3 (Nat.le_refl _)) (hN3.below hC3 (Nat.le_refl _)) (hN4.below hC3 (Nat.le_refl _)) HEL.out HEM.out).mono ?_
    rintro e x4 ⟨t, rfl, ht, hb4⟩
    have hC4 := hC3.trans (hb4.mono hC3.size)
    obtain rfl : t = decide (rpB y = rpB p) := by
      by_cases hh : rpB y = rpB p
      · rw [decide_eq_true hh]; exact ht.2 (HI.out.1 hh)
      · rw [decide_eq_false hh]
        cases t
        · rfl
        · exact absurd (HI.out.2 (ht.1 rfl)) hh
    clear ht hb4 hC3
    generalize decide (rpB y = rpB p) = D
    go_wp2
    go_ret
    exact ⟨by cases D <;> rfl, hC4⟩
  by_cases hz2 : rqE q = 0
  case neg =>
    have hne1 : (rqE q != 0) = true := by simpa using hz2
    have hne2 : (rqE q == 0) = false := by simpa using hz2
    rw [hz1]
    clear hok2 hok3 hR3 hQ3
    generalize rqE q = E2 at *
    have hY3' := hY3
    obtain ⟨u0, u1, u2, u3, u4, u5, u6, u7, u8, u9, u10, u11⟩ := hY3'
    go_wp2_with (go_at_call 11; refine (num_id _ _).mono ?_; rintro e wn ⟨rfl, hwn⟩; subst wn)
    clear u0 u1 u2 u3 u4 u5 u6 u7 u8 u9 u10 u11
    refine (encRp y co k1 d1 lo ln lc _ (hD3.below hB3 (Nat.le_refl _)) (hN3.below hB3 (Nat.le_refl _)) HEL.out hby3).mono ?_
    rintro e x1 ⟨g1, i1, j1, rfl, hc1, hok1, _⟩
    have hY1 := RpBox.later hY3 hc1 (Nat.le_refl _)
    have hP1 := RpBox.later hP3 hc1 (Nat.le_refl _)
    have hC1 := hB3.trans (hc1.mono hB3.size)
    clear hY3 hP3 hc1 hB3
    have hP1' := hP1
    obtain ⟨v0, v1, v2, v3, v4, v5, v6, v7, v8, v9, v10, v11⟩ := hP1'
    go_wp2_with fail
    clear v0 v1 v2 v3 v4 v5 v6 v7 v8 v9 v10 v11
    refine (encRp p eo k2 d2 mo mn mc _ (hD4.below hC1 (Nat.le_refl _)) (hN4.below hC1 (Nat.le_refl _)) HEM.out hby4).mono ?_
    rintro e x2 ⟨g2, i2, j2, rfl, hc2, hok2, _⟩
    have hY2 := RpBox.later hY1 hc2 (Nat.le_refl _)
    have hP2 := RpBox.later hP1 hc2 (Nat.le_refl _)
    have hC2 := hC1.trans (hc2.mono hC1.size)
    have hok1 : rpE y = 0 → Lies x2 g1 i1 j1 (rpB y) := fun h => (hok1 h).below hc2 (Nat.le_refl _)
    clear hY1 hP1 hc2 hC1
    by_cases hz1 : rpE y = 0
    case neg =>
      have hne1 : (rpE y != 0) = true := by simpa using hz1
      have hne2 : (rpE y == 0) = false := by simpa using hz1
      clear hok1 hok2
      generalize rpE y = E1 at *
      go_wp2_with (go_at_call 11; refine (num_id _ _).mono ?_; rintro e wn ⟨rfl, hwn⟩; subst wn)
      go_ret
      exact ⟨rfl, hC2⟩
    by_cases hz2 : rpE p = 0
    case neg =>
      have hne1 : (rpE p != 0) = true := by simpa using hz2
      have hne2 : (rpE p == 0) = false := by simpa using hz2
      rw [hz1]
      clear hok1 hok2
      generalize rpE p = E2 at *
      go_wp2_with (go_at_call 11; refine (num_id _ _).mono ?_; rintro e wn ⟨rfl, hwn⟩; subst wn)
      go_ret
      exact ⟨rfl, hC2⟩
    have hL1 := hok1 hz1
    have hL2 := hok2 hz2
    have HI : Hid (rpB y = rpB p ↔ y = p) := ⟨fun h => by rw [← (rp_back hz1).2.1, ← (rp_back hz2).2.1, h], fun h => by rw [h]⟩
    rw [hz1, hz2]
    clear hok1 hok2
    have hi1 : i1 ≤ 200000000000000 := by rw [← hL1.hlen]; have := (rp_back hz1).2.2; omega
    go_wp2_with (go_at_call 11; refine (num_id _ _).mono ?_; rintro e wn ⟨rfl, hwn⟩; subst wn)
    refine (same_any g1 g2 i1 i2 j1 j2 _ _ _ hi1 hL1 hL2).mono ?_
    rintro e x3 ⟨rfl, mm, hw3⟩
    have hb3 : Below x2.heap.size x2 x3 := by rw [hw3]; exact below_drewN (Below.refl _ _) mm
    have hY3 := RpBox.later hY2 hb3 (Nat.le_refl _)
    have hP3 := RpBox.later hP2 hb3 (Nat.le_refl _)
    have hC3 := hC2.trans (hb3.mono hC2.size)
    clear hY2 hP2 hb3 hC2 hL1 hL2 hw3
    obtain ⟨u0, u1, u2, u3, u4, u5, u6, u7, u8, u9, u10, u11⟩ := hY3
    obtain ⟨v0, v1, v2, v3, v4, v5, v6, v7, v8, v9, v10, v11⟩ := hP3
    go_wp2_with fail
    clear u0 u1 u2 u3 u4 u5 u6 u7 u8 u9 u10 u11 v0 v1 v2 v3 v4 v5 v6 v7 v8 v9 v10 v11
    refine (sameRp_any y p co k1 d1 lo ln lc eo k2 d2 mo mn mc _ hk1 hln (hD3.below hC3 (Nat.le_refl _)) (hD4.below hC3 (Nat.le_refl _)) (hN3.below hC3 (Nat.le_refl _)) (hN4.below hC3 (Nat.le_refl _)) HEL.out HEM.out).mono ?_
    rintro e x4 ⟨t, rfl, ht, hb4⟩
    have hC4 := hC3.trans (hb4.mono hC3.size)
    obtain rfl : t = decide (rpB y = rpB p) := by
      by_cases hh : rpB y = rpB p
      · rw [decide_eq_true hh]; exact ht.2 (HI.out.1 hh)
      · rw [decide_eq_false hh]
        cases t
        · rfl
        · exact absurd (HI.out.2 (ht.1 rfl)) hh
    clear ht hb4 hC3
    generalize decide (rpB y = rpB p) = D
    go_wp2
    go_ret
    exact ⟨by cases D <;> rfl, hC4⟩
  have hL2 := hok2 hz1
  have hL3 := hok3 hz2
  have HI : Hid (rqB r = rqB q ↔ r = q) := ⟨fun h => by rw [← (rq_back hz1).2.1, ← (rq_back hz2).2.1, h], fun h => by rw [h]⟩
  rw [hz1, hz2]
  clear hok2 hok3
  have hi2 : i2 ≤ 200000000000000 := by rw [← hL2.hlen]; have := (rq_back hz1).2.2; omega
  go_wp2_with (go_at_call 11; refine (num_id _ _).mono ?_; rintro e wn ⟨rfl, hwn⟩; subst wn)
  refine (same_any g2 g3 i2 i3 j2 j3 _ _ _ hi2 hL2 hL3).mono ?_
  rintro e w4 ⟨rfl, mm, hw4⟩
  have hb4 : Below w3.heap.size w3 w4 := by rw [hw4]; exact below_drewN (Below.refl _ _) mm
  have hR4 := RqBox.later hR3 hb4 (Nat.le_refl _)
  have hQ4 := RqBox.later hQ3 hb4 (Nat.le_refl _)
  have hY4 := RpBox.later hY3 hb4 (Nat.le_refl _)
  have hP4 := RpBox.later hP3 hb4 (Nat.le_refl _)
  have hB4 := hB3.trans (hb4.mono hB3.size)
  clear hR3 hQ3 hY3 hP3 hb4 hB3 hL2 hL3 hw4
  obtain ⟨q0, q1, q2, q3, q4, q5, q6, q7, q8, q9, q10, q11, q12⟩ := hR4
  obtain ⟨s0, s1, s2, s3, s4, s5, s6, s7, s8, s9, s10, s11, s12⟩ := hQ4
  go_wp2_with fail
  clear q0 q1 q2 q3 q4 q5 q6 q7 q8 q9 q10 q11 q12 s0 s1 s2 s3 s4 s5 s6 s7 s8 s9 s10 s11 s12
  refine (sameRq_any r q ao n c bo m d _ hn (hD1.below hB4 (Nat.le_refl _)) (hD2.below hB4 (Nat.le_refl _))).mono ?_
  rintro e w5 ⟨t, rfl, ht, hb5⟩
  have hY5 := RpBox.later hY4 hb5 (Nat.le_refl _)
  have hP5 := RpBox.later hP4 hb5 (Nat.le_refl _)
  have hB5 := hB4.trans (hb5.mono hB4.size)
  obtain rfl : t = decide (rqB r = rqB q) := by
    by_cases hh : rqB r = rqB q
    · rw [decide_eq_true hh]; exact ht.2 (HI.out.1 hh)
    · rw [decide_eq_false hh]
      cases t
      · rfl
      · exact absurd (HI.out.2 (ht.1 rfl)) hh
  clear ht hb5 hB4 hY4 hP4 HI
  generalize decide (rqB r = rqB q) = D
  have hDD : (D != D) = false := by simp
  have hY5' := hY5
  obtain ⟨u0, u1, u2, u3, u4, u5, u6, u7, u8, u9, u10, u11⟩ := hY5'
  go_wp2_with fail
  clear u0 u1 u2 u3 u4 u5 u6 u7 u8 u9 u10 u11
  refine (encRp y co k1 d1 lo ln lc _ (hD3.below hB5 (Nat.le_refl _)) (hN3.below hB5 (Nat.le_refl _)) HEL.out hby3).mono ?_
  rintro e x1 ⟨g1, i1, j1, rfl, hc1, hok1, _⟩
  have hY1 := RpBox.later hY5 hc1 (Nat.le_refl _)
  have hP1 := RpBox.later hP5 hc1 (Nat.le_refl _)
  have hC1 := hB5.trans (hc1.mono hB5.size)
  clear hY5 hP5 hc1 hB5
  have hP1' := hP1
  obtain ⟨v0, v1, v2, v3, v4, v5, v6, v7, v8, v9, v10, v11⟩ := hP1'
  go_wp2_with fail
  clear v0 v1 v2 v3 v4 v5 v6 v7 v8 v9 v10 v11
  refine (encRp p eo k2 d2 mo mn mc _ (hD4.below hC1 (Nat.le_refl _)) (hN4.below hC1 (Nat.le_refl _)) HEM.out hby4).mono ?_
  rintro e x2 ⟨g2, i2, j2, rfl, hc2, hok2, _⟩
  have hY2 := RpBox.later hY1 hc2 (Nat.le_refl _)
  have hP2 := RpBox.later hP1 hc2 (Nat.le_refl _)
  have hC2 := hC1.trans (hc2.mono hC1.size)
  have hok1 : rpE y = 0 → Lies x2 g1 i1 j1 (rpB y) := fun h => (hok1 h).below hc2 (Nat.le_refl _)
  clear hY1 hP1 hc2 hC1
  by_cases hz1 : rpE y = 0
  case neg =>
    have hne1 : (rpE y != 0) = true := by simpa using hz1
    have hne2 : (rpE y == 0) = false := by simpa using hz1
    clear hok1 hok2
    generalize rpE y = E1 at *
    go_wp2_with (go_at_call 11; refine (num_id _ _).mono ?_; rintro e wn ⟨rfl, hwn⟩; subst wn)
    go_ret
    exact ⟨rfl, hC2⟩
  by_cases hz2 : rpE p = 0
  case neg =>
    have hne1 : (rpE p != 0) = true := by simpa using hz2
    have hne2 : (rpE p == 0) = false := by simpa using hz2
    rw [hz1]
    clear hok1 hok2
    generalize rpE p = E2 at *
    go_wp2_with (go_at_call 11; refine (num_id _ _).mono ?_; rintro e wn ⟨rfl, hwn⟩; subst wn)
    go_ret
    exact ⟨rfl, hC2⟩
  have hL1 := hok1 hz1
  have hL2 := hok2 hz2
  have HI : Hid (rpB y = rpB p ↔ y = p) := ⟨fun h => by rw [← (rp_back hz1).2.1, ← (rp_back hz2).2.1, h], fun h => by rw [h]⟩
  rw [hz1, hz2]
  clear hok1 hok2
  have hi1 : i1 ≤ 200000000000000 := by rw [← hL1.hlen]; have := (rp_back hz1).2.2; omega
  go_wp2_with (go_at_call 11; refine (num_id _ _).mono ?_; rintro e wn ⟨rfl, hwn⟩; subst wn)
  refine (same_any g1 g2 i1 i2 j1 j2 _ _ _ hi1 hL1 hL2).mono ?_
  rintro e x3 ⟨rfl, mm, hw3⟩
  have hb3 : Below x2.heap.size x2 x3 := by rw [hw3]; exact below_drewN (Below.refl _ _) mm
  have hY3 := RpBox.later hY2 hb3 (Nat.le_refl _)
  have hP3 := RpBox.later hP2 hb3 (Nat.le_refl _)
  have hC3 := hC2.trans (hb3.mono hC2.size)
  clear hY2 hP2 hb3 hC2 hL1 hL2 hw3
  obtain ⟨u0, u1, u2, u3, u4, u5, u6, u7, u8, u9, u10, u11⟩ := hY3
  obtain ⟨v0, v1, v2, v3, v4, v5, v6, v7, v8, v9, v10, v11⟩ := hP3
  go_wp2_with fail
  clear u0 u1 u2 u3 u4 u5 u6 u7 u8 u9 u10 u11 v0 v1 v2 v3 v4 v5 v6 v7 v8 v9 v10 v11
  refine (sameRp_any y p co k1 d1 lo ln lc eo k2 d2 mo mn mc _ hk1 hln (hD3.below hC3 (Nat.le_refl _)) (hD4.below hC3 (Nat.le_refl _)) (hN3.below hC3 (Nat.le_refl _)) (hN4.below hC3 (Nat.le_refl _)) HEL.out HEM.out).mono ?_
  rintro e x4 ⟨t, rfl, ht, hb4⟩
  have hC4 := hC3.trans (hb4.mono hC3.size)
  obtain rfl : t = decide (rpB y = rpB p) := by
    by_cases hh : rpB y = rpB p
    · rw [decide_eq_true hh]; exact ht.2 (HI.out.1 hh)
    · rw [decide_eq_false hh]
      cases t
      · rfl
      · exact absurd (HI.out.2 (ht.1 rfl)) hh
  clear ht hb4 hC3
  generalize decide (rpB y = rpB p) = D
  go_wp2
  go_ret
  exact ⟨by cases D <;> rfl, hC4⟩
end Go.Proofs.YtdcliiojdlonbaaGreatDoor
