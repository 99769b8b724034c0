/- SameRequest of any two requests. -/
import Derived.Test.YtdkcplndplhblaaGreatDoorPk17
namespace Go.Proofs.YtdkcplndplhblaaGreatDoor
open Go.RowKit
set_option maxRecDepth 100000

theorem str_ne {s t : ByteArray} (h : ¬ s = t) : (s.toList == t.toList) = false := by
  have : ¬ s.toList = t.toList := fun e => h (N3.bs_inj (by rw [ByteArray.toList_eq, ByteArray.toList_eq] at e; exact e))
  simpa using this
theorem int_ne {s t : Int} (h : ¬ s = t) : (s == t) = false := by simpa using h

set_option maxHeartbeats 8000000 in
theorem sameRq_any (r q : Req) (ao : Option Addr) (n c : Nat) (bo : Option Addr) (m d : Nat) (w : World) (hn : n ≤ 200000000000000) (hA : Lies w ao n c r.data) (hB : Lies w bo m d q.data) :
    Calls Tryz.prog 29 #[rqV r ao n c, rqV q bo m d] w fun e w' => ∃ t, e = .returned (.bool t) ∧ (t = true ↔ r = q) ∧ Below w.heap.size w w' := by
  have hA0 := RqBox.new w r ao n c
  go_enter Tryz.func29, Tryz.ntmps29
  go_wp2_with fail
  refine (same_any ao bo n m c d r.data q.data _ hn ((hA.boxed _).boxed _) ((hB.boxed _).boxed _)).mono ?_
  rintro e w1 ⟨rfl, mm, hw1⟩
  have hb1 : Below ((w.alloc (.cells #[.int .i64 r.client, .int .i64 r.seq, .int .i64 r.ack, .int .i64 r.epoch, .int .i64 r.op, .int .i64 r.id, .int .i64 r.id2, .int .i64 r.off, .int .i64 r.len, .string r.path, .string r.name, .string r.name2, .slice ao n c] 24)).alloc (.cells #[.int .i64 q.client, .int .i64 q.seq, .int .i64 q.ack, .int .i64 q.epoch, .int .i64 q.op, .int .i64 q.id, .int .i64 q.id2, .int .i64 q.off, .int .i64 q.len, .string q.path, .string q.name, .string q.name2, .slice bo m d] 24)).heap.size ((w.alloc (.cells #[.int .i64 r.client, .int .i64 r.seq, .int .i64 r.ack, .int .i64 r.epoch, .int .i64 r.op, .int .i64 r.id, .int .i64 r.id2, .int .i64 r.off, .int .i64 r.len, .string r.path, .string r.name, .string r.name2, .slice ao n c] 24)).alloc (.cells #[.int .i64 q.client, .int .i64 q.seq, .int .i64 q.ack, .int .i64 q.epoch, .int .i64 q.op, .int .i64 q.id, .int .i64 q.id2, .int .i64 q.off, .int .i64 q.len, .string q.path, .string q.name, .string q.name2, .slice bo m d] 24)) w1 := by
    rw [hw1]; exact below_drewN (Below.refl _ _) mm
  clear hw1
  have hA1 := RqBox.later (RqBox.later hA0 (newBox _ _) (Nat.le_refl _)) hb1 (Nat.le_refl _)
  have hB0 : RqBox w1 (w.heap.size + 1) q bo m d := by
    have z := RqBox.later (RqBox.new (w.alloc (.cells #[.int .i64 r.client, .int .i64 r.seq, .int .i64 r.ack, .int .i64 r.epoch, .int .i64 r.op, .int .i64 r.id, .int .i64 r.id2, .int .i64 r.off, .int .i64 r.len, .string r.path, .string r.name, .string r.name2, .slice ao n c] 24)) q bo m d) hb1 (Nat.le_refl _)
    rw [show (w.alloc (.cells #[.int .i64 r.client, .int .i64 r.seq, .int .i64 r.ack, .int .i64 r.epoch, .int .i64 r.op, .int .i64 r.id, .int .i64 r.id2, .int .i64 r.off, .int .i64 r.len, .string r.path, .string r.name, .string r.name2, .slice ao n c] 24)).heap.size = w.heap.size + 1 by simp] at z
    exact z
  have hq1 : Below w.heap.size w w1 := (box2 w _ _).trans (hb1.mono (by simp; omega))
  obtain ⟨a0, a1, a2, a3, a4, a5, a6, a7, a8, a9, a10, a11, a12⟩ := hA1
  obtain ⟨b0, b1, b2, b3, b4, b5, b6, b7, b8, b9, b10, b11, b12⟩ := hB0
  clear hA0 hb1 hA hB
  by_cases h_client : r.client = q.client
  case neg =>
    have hx := int_ne h_client
    cases decide (r.data = q.data)
    all_goals
      go_wp2
      go_ret
      exact ⟨false, rfl, ⟨fun h => by (cases h), fun h => absurd (congrArg Req.client h) h_client⟩, hq1⟩
  have e_client : (r.client == q.client) = true := by simpa using h_client
  by_cases h_seq : r.seq = q.seq
  case neg =>
    have hx := int_ne h_seq
    cases decide (r.data = q.data)
    all_goals
      go_wp2
      go_ret
      exact ⟨false, rfl, ⟨fun h => by (cases h), fun h => absurd (congrArg Req.seq h) h_seq⟩, hq1⟩
  have e_seq : (r.seq == q.seq) = true := by simpa using h_seq
  by_cases h_ack : r.ack = q.ack
  case neg =>
    have hx := int_ne h_ack
    cases decide (r.data = q.data)
    all_goals
      go_wp2
      go_ret
      exact ⟨false, rfl, ⟨fun h => by (cases h), fun h => absurd (congrArg Req.ack h) h_ack⟩, hq1⟩
  have e_ack : (r.ack == q.ack) = true := by simpa using h_ack
  by_cases h_epoch : r.epoch = q.epoch
  case neg =>
    have hx := int_ne h_epoch
    cases decide (r.data = q.data)
    all_goals
      go_wp2
      go_ret
      exact ⟨false, rfl, ⟨fun h => by (cases h), fun h => absurd (congrArg Req.epoch h) h_epoch⟩, hq1⟩
  have e_epoch : (r.epoch == q.epoch) = true := by simpa using h_epoch
  by_cases h_op : r.op = q.op
  case neg =>
    have hx := int_ne h_op
    cases decide (r.data = q.data)
    all_goals
      go_wp2
      go_ret
      exact ⟨false, rfl, ⟨fun h => by (cases h), fun h => absurd (congrArg Req.op h) h_op⟩, hq1⟩
  have e_op : (r.op == q.op) = true := by simpa using h_op
  by_cases hdat : r.data = q.data
  case neg =>
    rw [decide_eq_false hdat]
    go_wp2
    go_ret
    exact ⟨false, rfl, ⟨fun h => by (cases h), fun h => absurd (congrArg Req.data h) hdat⟩, hq1⟩
  rw [decide_eq_true hdat]
  by_cases h_id : r.id = q.id
  case neg =>
    have hx := int_ne h_id
    go_wp2
    go_ret
    exact ⟨false, rfl, ⟨fun h => by (cases h), fun h => absurd (congrArg Req.id h) h_id⟩, hq1⟩
  have e_id : (r.id == q.id) = true := by rw [h_id]; simp
  by_cases h_id2 : r.id2 = q.id2
  case neg =>
    have hx := int_ne h_id2
    go_wp2
    go_ret
    exact ⟨false, rfl, ⟨fun h => by (cases h), fun h => absurd (congrArg Req.id2 h) h_id2⟩, hq1⟩
  have e_id2 : (r.id2 == q.id2) = true := by rw [h_id2]; simp
  by_cases h_off : r.off = q.off
  case neg =>
    have hx := int_ne h_off
    go_wp2
    go_ret
    exact ⟨false, rfl, ⟨fun h => by (cases h), fun h => absurd (congrArg Req.off h) h_off⟩, hq1⟩
  have e_off : (r.off == q.off) = true := by rw [h_off]; simp
  by_cases h_len : r.len = q.len
  case neg =>
    have hx := int_ne h_len
    go_wp2
    go_ret
    exact ⟨false, rfl, ⟨fun h => by (cases h), fun h => absurd (congrArg Req.len h) h_len⟩, hq1⟩
  have e_len : (r.len == q.len) = true := by rw [h_len]; simp
  by_cases h_path : r.path = q.path
  case neg =>
    have hx := str_ne h_path
    go_wp2
    go_ret
    exact ⟨false, rfl, ⟨fun h => by (cases h), fun h => absurd (congrArg Req.path h) h_path⟩, hq1⟩
  have e_path : (r.path.toList == q.path.toList) = true := by rw [h_path]; simp
  by_cases h_name : r.name = q.name
  case neg =>
    have hx := str_ne h_name
    go_wp2
    go_ret
    exact ⟨false, rfl, ⟨fun h => by (cases h), fun h => absurd (congrArg Req.name h) h_name⟩, hq1⟩
  have e_name : (r.name.toList == q.name.toList) = true := by rw [h_name]; simp
  by_cases h_name2 : r.name2 = q.name2
  case neg =>
    have hx := str_ne h_name2
    go_wp2
    go_ret
    exact ⟨false, rfl, ⟨fun h => by (cases h), fun h => absurd (congrArg Req.name2 h) h_name2⟩, hq1⟩
  have e_name2 : (r.name2.toList == q.name2.toList) = true := by rw [h_name2]; simp
  go_wp2
  go_ret
  refine ⟨true, rfl, ⟨fun _ => ?_, fun _ => rfl⟩, hq1⟩
  obtain ⟨x_client, x_seq, x_ack, x_epoch, x_op, x_id, x_id2, x_off, x_len, x_path, x_name, x_name2, x_data⟩ := r
  obtain ⟨y_client, y_seq, y_ack, y_epoch, y_op, y_id, y_id2, y_off, y_len, y_path, y_name, y_name2, y_data⟩ := q
  simp only at *
  simp only [h_client, h_seq, h_ack, h_epoch, h_op, h_id, h_id2, h_off, h_len, h_path, h_name, h_name2, hdat]
end Go.Proofs.YtdkcplndplhblaaGreatDoor
