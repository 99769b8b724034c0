/- head answers true. -/
import Derived.Test.YtdkcplndplhblaaGreatDoorPk16
namespace Go.Proofs.YtdkcplndplhblaaGreatDoor
open Go.RowKit
set_option maxRecDepth 100000

theorem pl_bys : Bys (closeB plB) := plB_bys.app (be_bys _ _)
theorem rf_bys : Bys (closeB rfB) := rfB_bys.app (be_bys _ _)
theorem pl_len : (closeB plB).length = 52 := by have h : plB.length = 44 := by decide
                                                simp [closeB, be_length, h]
theorem rf_len : (closeB rfB).length = 40 := by have h : rfB.length = 32 := by decide
                                                simp [closeB, be_length, h]
theorem encRequest_plain (w : World) : Calls Tryz.prog 18 #[rqV plR none 0 0] w fun e w' => ∃ a k, e = .returned (.tuple #[.slice a 52 k, .int .i64 0]) ∧ Lies w' a 52 k (closeB plB) ∧ Below w.heap.size w w' := by
  refine (EncodeRequest_any plR none 0 0 w (Lies.nil _) (by decide) (fun x hx => by cases hx)).mono ?_
  rintro e w' (⟨h, _⟩ | ⟨_, g, n, k, rfl, ho, hb⟩)
  · exact absurd pl_enc.1 h
  · have hL := Lies.owned ho
    rw [pl_enc.2] at hL
    have h1 := hL.hlen
    rw [pl_len] at h1
    subst h1
    exact ⟨_, k, rfl, hL, hb⟩
theorem encReply_ref (w : World) : Calls Tryz.prog 20 #[rpV rfR none 0 0 none 0 0] w fun e w' => ∃ a k, e = .returned (.tuple #[.slice a 40 k, .int .i64 0]) ∧ Lies w' a 40 k (closeB rfB) ∧ Below w.heap.size w w' := by
  refine (EncodeReply_any rfR none 0 0 none 0 0 w (Lies.nil _) (CLies.nil _ _) rfl (fun x hx => by cases hx)).mono ?_
  rintro e w' (⟨h, _⟩ | ⟨_, g, n, k, rfl, ho, hb⟩)
  · exact absurd rf_enc.1 h
  · have hL := Lies.owned ho
    rw [rf_enc.2] at hL
    have h1 := hL.hlen
    rw [rf_len] at h1
    subst h1
    exact ⟨_, k, rfl, hL, hb⟩
theorem rencRequest_plain2 (w : World) : Calls Tryz.prog 19 #[rqV plR none 0 0] w fun e w' => ∃ a k, e = .returned (.tuple #[.slice a 52 k, .int .i64 0]) ∧ Lies w' a 52 k (closeB plB) ∧ Below w.heap.size w w' := by
  refine (rencRequest_plain w).mono ?_
  rintro e w' ⟨a, m, k, rfl, hL, hb⟩
  have h1 := hL.hlen
  rw [pl_len] at h1
  subst h1
  exact ⟨a, k, rfl, hL, hb⟩
theorem rencReply_ref2 (w : World) : Calls Tryz.prog 21 #[rpV rfR none 0 0 none 0 0] w fun e w' => ∃ a k, e = .returned (.tuple #[.slice a 40 k, .int .i64 0]) ∧ Lies w' a 40 k (closeB rfB) ∧ Below w.heap.size w w' := by
  refine (rencReply_ref w).mono ?_
  rintro e w' ⟨a, m, k, rfl, hL, hb⟩
  have h1 := hL.hlen
  rw [rf_len] at h1
  subst h1
  exact ⟨a, k, rfl, hL, hb⟩
theorem decRequest_plain (a : Option Addr) (k : Nat) (er : Nat → Addr) (w : World) (hL : Lies w a 52 k (closeB plB)) (hE : Errs w er) : Calls Tryz.prog 27 #[.slice a 52 k] w fun e w' => ∃ ao n c, e = .returned (.tuple #[rqV plR ao n c, .int .i64 0]) ∧ Lies w' ao n c [] ∧ Below w.heap.size w w' := by
  refine (decodeRequest_any a 52 k _ er w hL (by omega) pl_bys hE).mono ?_
  rintro e w' ⟨r, ao, n, c, rfl, hr, ho, hb⟩
  have h1 := pl_dec
  rw [h1.2] at hr
  subst hr
  exact ⟨ao, n, c, by rw [h1.1], Lies.owned ho, hb⟩
theorem decReply_ref (a : Option Addr) (k : Nat) (er : Nat → Addr) (w : World) (hL : Lies w a 40 k (closeB rfB)) (hE : Errs w er) : Calls Tryz.prog 30 #[.slice a 40 k] w fun e w' => ∃ ao n c lo lc, e = .returned (.tuple #[rpV rfR ao n c lo 0 lc, .int .i64 0]) ∧ Lies w' ao n c [] ∧ CLies w' lo 0 lc 3 [] ∧ Below w.heap.size w w' := by
  refine (decodeReply_any a 40 k _ er w hL (by omega) rf_bys hE).mono ?_
  rintro e w' ⟨r, ao, n, c, lo, ln, lc, rfl, hr, ho, hp, hl, hb⟩
  have h1 := rf_dec
  rw [h1.2] at hr
  subst hr
  have hl0 : ln = 0 := hl.symm
  subst hl0
  exact ⟨ao, n, c, lo, lc, by rw [h1.1], Lies.owned ho, CLies.owned hp, hb⟩

set_option maxHeartbeats 4000000 in
theorem head_any (er : Nat → Addr) (w : World) (hE : Errs w er) :
    Calls Tryz.prog 7 #[] w fun e w' => e = .returned (.bool true) ∧ Below w.heap.size w w' := by
  go_enter Tryz.func7, Tryz.ntmps7
  go_wp2_with fail
  refine (plain_any _).mono ?_
  rintro e w1 ⟨rfl, hb1⟩
  have hq1 : Below w.heap.size w w1 := hb1
  clear hb1
  go_wp2_with fail
  refine (encRequest_plain _).mono ?_
  rintro e w2 ⟨a2, k2, rfl, hL2, hb2⟩
  have hq2 := hq1.trans (hb2.mono hq1.size)
  clear hb2 hq1
  go_wp2_with fail
  refine (plain_any _).mono ?_
  rintro e w3 ⟨rfl, hb3⟩
  have hq3 := hq2.trans (hb3.mono hq2.size)
  have hL3 := hL2.below hb3 (Nat.le_refl _)
  clear hb3 hq2 hL2
  go_wp2_with fail
  refine (rencRequest_plain2 _).mono ?_
  rintro e w4 ⟨a4, k4, rfl, hM4, hb4⟩
  have hq4 := hq3.trans (hb4.mono hq3.size)
  have hL4 := hL3.below hb4 (Nat.le_refl _)
  clear hb4 hq3 hL3
  go_wp2_with fail
  refine (decRequest_plain _ _ er _ hM4 (hE.below hq4 (Nat.le_refl _))).mono ?_
  rintro e w5 ⟨ao5, n5, c5, rfl, hD5, hb5⟩
  have hq5 := hq4.trans (hb5.mono hq4.size)
  have hL5 := hL4.below hb5 (Nat.le_refl _)
  have hM5 := hM4.below hb5 (Nat.le_refl _)
  clear hb5 hq4 hL4 hM4
  go_wp2_with fail
  have hbx := newBox w5 (.cells #[.int .i64 plR.client, .int .i64 plR.seq, .int .i64 plR.ack, .int .i64 plR.epoch, .int .i64 plR.op, .int .i64 plR.id, .int .i64 plR.id2, .int .i64 plR.off, .int .i64 plR.len, .string plR.path, .string plR.name, .string plR.name2, .slice ao5 n5 c5] 24)
  have hB6 : RqBox (w5.alloc (.cells #[.int .i64 plR.client, .int .i64 plR.seq, .int .i64 plR.ack, .int .i64 plR.epoch, .int .i64 plR.op, .int .i64 plR.id, .int .i64 plR.id2, .int .i64 plR.off, .int .i64 plR.len, .string plR.path, .string plR.name, .string plR.name2, .slice ao5 n5 c5] 24)).drew w5.heap.size plR ao5 n5 c5 := RqBox.new w5 plR ao5 n5 c5
  have hq6 : Below w.heap.size w (w5.alloc (.cells #[.int .i64 plR.client, .int .i64 plR.seq, .int .i64 plR.ack, .int .i64 plR.epoch, .int .i64 plR.op, .int .i64 plR.id, .int .i64 plR.id2, .int .i64 plR.off, .int .i64 plR.len, .string plR.path, .string plR.name, .string plR.name2, .slice ao5 n5 c5] 24)).drew := drw (hq5.trans (hbx.mono hq5.size))
  have hL6 : Lies (w5.alloc (.cells #[.int .i64 plR.client, .int .i64 plR.seq, .int .i64 plR.ack, .int .i64 plR.epoch, .int .i64 plR.op, .int .i64 plR.id, .int .i64 plR.id2, .int .i64 plR.off, .int .i64 plR.len, .string plR.path, .string plR.name, .string plR.name2, .slice ao5 n5 c5] 24)).drew a2 52 k2 (closeB plB) := hL5.below (drw hbx) (Nat.le_refl _)
  have hM6 : Lies (w5.alloc (.cells #[.int .i64 plR.client, .int .i64 plR.seq, .int .i64 plR.ack, .int .i64 plR.epoch, .int .i64 plR.op, .int .i64 plR.id, .int .i64 plR.id2, .int .i64 plR.off, .int .i64 plR.len, .string plR.path, .string plR.name, .string plR.name2, .slice ao5 n5 c5] 24)).drew a4 52 k4 (closeB plB) := hM5.below (drw hbx) (Nat.le_refl _)
  have hD6 : Lies (w5.alloc (.cells #[.int .i64 plR.client, .int .i64 plR.seq, .int .i64 plR.ack, .int .i64 plR.epoch, .int .i64 plR.op, .int .i64 plR.id, .int .i64 plR.id2, .int .i64 plR.off, .int .i64 plR.len, .string plR.path, .string plR.name, .string plR.name2, .slice ao5 n5 c5] 24)).drew ao5 n5 c5 [] := hD5.below (drw hbx) (Nat.le_refl _)
  have hn5 : n5 ≤ 200000000000000 := by have := hD5.hlen; simp at this; omega
  clear hL5 hM5 hD5 hq5 hbx
  generalize w5.alloc (.cells #[.int .i64 plR.client, .int .i64 plR.seq, .int .i64 plR.ack, .int .i64 plR.epoch, .int .i64 plR.op, .int .i64 plR.id, .int .i64 plR.id2, .int .i64 plR.off, .int .i64 plR.len, .string plR.path, .string plR.name, .string plR.name2, .slice ao5 n5 c5] 24) = w6 at *
  go_region_held3 (fun w' => w'.cell? ⟨w5.heap.size, 0, none⟩ = some (.int .i64 plR.client) ∧ w'.cell? ⟨w5.heap.size, 1, none⟩ = some (.int .i64 plR.seq) ∧ w'.cell? ⟨w5.heap.size, 2, none⟩ = some (.int .i64 plR.ack) ∧ w'.cell? ⟨w5.heap.size, 3, none⟩ = some (.int .i64 plR.epoch) ∧ w'.cell? ⟨w5.heap.size, 4, none⟩ = some (.int .i64 plR.op) ∧ w'.cell? ⟨w5.heap.size, 5, none⟩ = some (.int .i64 plR.id) ∧ w'.cell? ⟨w5.heap.size, 6, none⟩ = some (.int .i64 plR.id2) ∧ w'.cell? ⟨w5.heap.size, 7, none⟩ = some (.int .i64 plR.off) ∧ w'.cell? ⟨w5.heap.size, 8, none⟩ = some (.int .i64 plR.len) ∧ w'.cell? ⟨w5.heap.size, 9, none⟩ = some (.string plR.path) ∧ w'.cell? ⟨w5.heap.size, 10, none⟩ = some (.string plR.name) ∧ w'.cell? ⟨w5.heap.size, 11, none⟩ = some (.string plR.name2) ∧ w'.cell? ⟨w5.heap.size, 12, none⟩ = some (.slice ao5 n5 c5))
    (first | with_reducible exact hB6 | with_reducible exact hB7 | with_reducible exact hB8 | with_reducible exact hB9)
    (first
      | (go_at_call 11; refine (same_true a2 a4 52 52 k2 k4 _ _ (by omega) hL6 hM6).mono ?_; rintro e w7 ⟨rfl, hb7⟩; have hB7 := RqBox.later hB6 hb7 (Nat.le_refl _); have hq7 := hq6.trans (hb7.mono hq6.size))
      | (go_at_call 36; refine (plain_any _).mono ?_; rintro e w8 ⟨rfl, hb8⟩; have hB8 := RqBox.later hB7 hb8 (Nat.le_refl _); have hq8 := hq7.trans (hb8.mono hq7.size))
      | (go_at_call 29; refine (sameRequest_refl plR ao5 n5 c5 none 0 0 _ hn5 ((hD6.below hb7 (Nat.le_refl _)).below hb8 (Nat.le_refl _)) (Lies.nil _)).mono ?_; rintro e w9 ⟨rfl, hb9⟩; have hB9 := RqBox.later hB8 hb9 (Nat.le_refl _); have hq9 := hq8.trans (hb9.mono hq8.size)))
  clear hB6 hB7 hB8 hB9 hb7 hb8 hb9 hq6 hq7 hq8 hL6 hM6 hD6
  go_wp2_with (first | (go_at_call 13; refine (num_id _ _).mono ?_; rintro e wn ⟨rfl, hwn⟩; subst wn))
  refine (refusal_any _).mono ?_
  rintro e x1 ⟨rfl, hb1⟩
  have hr1 := hq9.trans (hb1.mono hq9.size)
  clear hb1 hq9
  go_wp2_with fail
  refine (encReply_ref _).mono ?_
  rintro e x2 ⟨d2, l2, rfl, hL2, hb2⟩
  have hr2 := hr1.trans (hb2.mono hr1.size)
  clear hb2 hr1
  go_wp2_with fail
  refine (refusal_any _).mono ?_
  rintro e x3 ⟨rfl, hb3⟩
  have hr3 := hr2.trans (hb3.mono hr2.size)
  have hL3 := hL2.below hb3 (Nat.le_refl _)
  clear hb3 hr2 hL2
  go_wp2_with fail
  refine (rencReply_ref2 _).mono ?_
  rintro e x4 ⟨d4, l4, rfl, hM4, hb4⟩
  have hr4 := hr3.trans (hb4.mono hr3.size)
  have hL4 := hL3.below hb4 (Nat.le_refl _)
  clear hb4 hr3 hL3
  go_wp2_with fail
  refine (decReply_ref _ _ er _ hM4 (hE.below hr4 (Nat.le_refl _))).mono ?_
  rintro e x5 ⟨ao9, n9, c9, lo9, lc9, rfl, hD5, hN5, hb5⟩
  have hr5 := hr4.trans (hb5.mono hr4.size)
  have hL5 := hL4.below hb5 (Nat.le_refl _)
  have hM5 := hM4.below hb5 (Nat.le_refl _)
  clear hb5 hr4 hL4 hM4
  go_wp2_with fail
  have hbx := newBox x5 (.cells #[.int .i64 rfR.client, .int .i64 rfR.seq, .int .i64 rfR.epoch, .int .i64 rfR.op, .int .i64 rfR.status, .int .i64 rfR.ai, .int .i64 rfR.ak, .int .i64 rfR.az, .int .i64 rfR.ac, .slice ao9 n9 c9, .slice lo9 0 lc9, .bool rfR.more] 30)
  have hB6 : RpBox (x5.alloc (.cells #[.int .i64 rfR.client, .int .i64 rfR.seq, .int .i64 rfR.epoch, .int .i64 rfR.op, .int .i64 rfR.status, .int .i64 rfR.ai, .int .i64 rfR.ak, .int .i64 rfR.az, .int .i64 rfR.ac, .slice ao9 n9 c9, .slice lo9 0 lc9, .bool rfR.more] 30)).drew x5.heap.size rfR ao9 n9 c9 lo9 0 lc9 := RpBox.new x5 rfR ao9 n9 c9 lo9 0 lc9
  have hr6 : Below w.heap.size w (x5.alloc (.cells #[.int .i64 rfR.client, .int .i64 rfR.seq, .int .i64 rfR.epoch, .int .i64 rfR.op, .int .i64 rfR.status, .int .i64 rfR.ai, .int .i64 rfR.ak, .int .i64 rfR.az, .int .i64 rfR.ac, .slice ao9 n9 c9, .slice lo9 0 lc9, .bool rfR.more] 30)).drew := drw (hr5.trans (hbx.mono hr5.size))
  have hL6 : Lies (x5.alloc (.cells #[.int .i64 rfR.client, .int .i64 rfR.seq, .int .i64 rfR.epoch, .int .i64 rfR.op, .int .i64 rfR.status, .int .i64 rfR.ai, .int .i64 rfR.ak, .int .i64 rfR.az, .int .i64 rfR.ac, .slice ao9 n9 c9, .slice lo9 0 lc9, .bool rfR.more] 30)).drew d2 40 l2 (closeB rfB) := hL5.below (drw hbx) (Nat.le_refl _)
  have hM6 : Lies (x5.alloc (.cells #[.int .i64 rfR.client, .int .i64 rfR.seq, .int .i64 rfR.epoch, .int .i64 rfR.op, .int .i64 rfR.status, .int .i64 rfR.ai, .int .i64 rfR.ak, .int .i64 rfR.az, .int .i64 rfR.ac, .slice ao9 n9 c9, .slice lo9 0 lc9, .bool rfR.more] 30)).drew d4 40 l4 (closeB rfB) := hM5.below (drw hbx) (Nat.le_refl _)
  have hD6 : Lies (x5.alloc (.cells #[.int .i64 rfR.client, .int .i64 rfR.seq, .int .i64 rfR.epoch, .int .i64 rfR.op, .int .i64 rfR.status, .int .i64 rfR.ai, .int .i64 rfR.ak, .int .i64 rfR.az, .int .i64 rfR.ac, .slice ao9 n9 c9, .slice lo9 0 lc9, .bool rfR.more] 30)).drew ao9 n9 c9 [] := hD5.below (drw hbx) (Nat.le_refl _)
  have hN6 : CLies (x5.alloc (.cells #[.int .i64 rfR.client, .int .i64 rfR.seq, .int .i64 rfR.epoch, .int .i64 rfR.op, .int .i64 rfR.status, .int .i64 rfR.ai, .int .i64 rfR.ak, .int .i64 rfR.az, .int .i64 rfR.ac, .slice ao9 n9 c9, .slice lo9 0 lc9, .bool rfR.more] 30)).drew lo9 0 lc9 3 [] := hN5.below (drw hbx) (Nat.le_refl _)
  have hn9 : n9 ≤ 200000000000000 := by have := hD5.hlen; simp at this; omega
  clear hL5 hM5 hD5 hN5 hr5 hbx
  generalize x5.alloc (.cells #[.int .i64 rfR.client, .int .i64 rfR.seq, .int .i64 rfR.epoch, .int .i64 rfR.op, .int .i64 rfR.status, .int .i64 rfR.ai, .int .i64 rfR.ak, .int .i64 rfR.az, .int .i64 rfR.ac, .slice ao9 n9 c9, .slice lo9 0 lc9, .bool rfR.more] 30) = x6 at *
  go_region_held3 (fun w' => w'.cell? ⟨x5.heap.size, 0, none⟩ = some (.int .i64 rfR.client) ∧ w'.cell? ⟨x5.heap.size, 1, none⟩ = some (.int .i64 rfR.seq) ∧ w'.cell? ⟨x5.heap.size, 2, none⟩ = some (.int .i64 rfR.epoch) ∧ w'.cell? ⟨x5.heap.size, 3, none⟩ = some (.int .i64 rfR.op) ∧ w'.cell? ⟨x5.heap.size, 4, none⟩ = some (.int .i64 rfR.status) ∧ w'.cell? ⟨x5.heap.size, 5, none⟩ = some (.int .i64 rfR.ai) ∧ w'.cell? ⟨x5.heap.size, 6, none⟩ = some (.int .i64 rfR.ak) ∧ w'.cell? ⟨x5.heap.size, 7, none⟩ = some (.int .i64 rfR.az) ∧ w'.cell? ⟨x5.heap.size, 8, none⟩ = some (.int .i64 rfR.ac) ∧ w'.cell? ⟨x5.heap.size, 9, none⟩ = some (.slice ao9 n9 c9) ∧ w'.cell? ⟨x5.heap.size, 10, none⟩ = some (.slice lo9 0 lc9) ∧ w'.cell? ⟨x5.heap.size, 11, none⟩ = some (.bool rfR.more))
    (first | with_reducible exact hB6 | with_reducible exact hB7 | with_reducible exact hB8 | with_reducible exact hB9)
    (first
      | (go_at_call 11; refine (same_true d2 d4 40 40 l2 l4 _ _ (by omega) hL6 hM6).mono ?_; rintro e x7 ⟨rfl, hb7⟩; have hB7 := RpBox.later hB6 hb7 (Nat.le_refl _); have hr7 := hr6.trans (hb7.mono hr6.size))
      | (go_at_call 37; refine (refusal_any _).mono ?_; rintro e x8 ⟨rfl, hb8⟩; have hB8 := RpBox.later hB7 hb8 (Nat.le_refl _); have hr8 := hr7.trans (hb8.mono hr7.size))
      | (go_at_call 32; refine (sameReply_refl rfR ao9 n9 c9 lo9 0 lc9 none 0 0 none 0 _ hn9 (by omega) ((hD6.below hb7 (Nat.le_refl _)).below hb8 (Nat.le_refl _)) (Lies.nil _) ((hN6.below hb7 (Nat.le_refl _)).below hb8 (Nat.le_refl _)) (CLies.nil _ _) rfl).mono ?_; rintro e x9 ⟨rfl, hb9⟩; have hB9 := RpBox.later hB8 hb9 (Nat.le_refl _); have hr9 := hr8.trans (hb9.mono hr8.size)))
  clear hB6 hB7 hB8 hB9 hb7 hb8 hb9 hr6 hr7 hr8 hL6 hM6 hD6 hN6
  go_wp2_with (first | (go_at_call 13; refine (num_id _ _).mono ?_; rintro e wn ⟨rfl, hwn⟩; subst wn))
  go_ret
  exact ⟨rfl, hr9⟩
end Go.Proofs.YtdkcplndplhblaaGreatDoor

/- ended, and MsgSums. -/
namespace Go.Proofs.YtdkcplndplhblaaGreatDoor
open Go.RowKit
set_option maxRecDepth 100000

theorem be_get (S : Int) : ∀ (k i : Nat), i < k → (be S k).getD i 0 = S / 2 ^ (8 * (k - 1 - i)) % 256
  | 0, i, h => by omega
  | k + 1, 0, _ => by simp [be]
  | k + 1, i + 1, h => by
    have := be_get S k i (by omega)
    simp only [be, List.getD_cons_succ, this]
    congr 3; omega
theorem close_get (X : List Int) (i : Nat) (hi : i < 8) : (closeB X).getD (X.length + i) 0 = sumOf X / 2 ^ (8 * (7 - i)) % 256 := by
  have h1 := be_get (sumOf X) 8 i hi
  unfold closeB
  rw [List.getD_eq_getElem?_getD, List.getElem?_append_right (by omega), Nat.add_sub_cancel_left, ← List.getD_eq_getElem?_getD]
  exact h1
theorem div_step (S : Int) (k : Nat) (_h : 0 ≤ S) : S / 2 ^ (8 * k) / 256 = S / 2 ^ (8 * (k + 1)) := by
  rw [Int.ediv_ediv_of_nonneg (Int.le_of_lt (Int.pow_pos (by decide))), show 8 * (k + 1) = 8 * k + 8 by omega, Int.pow_add]
  rfl

theorem rqB_is {r : Req} (h : rqE r = 0) (hby : Bys r.data) : ∃ X, rqB r = closeB X ∧ 4 ≤ X.length ∧ X.length ≤ 100000 ∧ Bys X := by
  obtain ⟨h1, h2, h3⟩ := requestHead_bys r
  have hsm := judge_small (rqE_zero h)
  have hvb : ∀ g ∈ pick (hasRq r.op) (rqAny r), VBy g.2 := fun g hg => requestBody_bys r hby g (pick_mem hg).1
  have hl := putAll_len hsm
  refine ⟨nums ⟨#[65, 78, 81, 49]⟩ ++ putAll (rqHead r) ++ putAll (pick (hasRq r.op) (rqAny r)), rfl, ?_, ?_, ((nums_bys _).app (putAll_bys h1)).app (putAll_bys hvb)⟩
  · have : (nums ⟨#[65, 78, 81, 49]⟩).length = 4 := by decide
    simp [this]
  · have h5 : (nums ⟨#[65, 78, 81, 49]⟩).length = 4 := by decide
    have h6 : (pick (hasRq r.op) (rqAny r)).length ≤ 4 := by
      unfold hasRq pick rqAny
      repeat (first | (split; · simp [List.filter]) | simp [List.filter])
    simp only [List.length_append]
    omega

theorem rpB_is {r : Rep} (h : rpE r = 0) (hby : Bys r.data) : ∃ X, rpB r = closeB X ∧ 4 ≤ X.length ∧ X.length ≤ 100000 ∧ Bys X := by
  obtain ⟨h1, h2, h3⟩ := replyHead_bys r
  have hsm := judge_small (rpE_zero h)
  have hvb : ∀ g ∈ pick (hasRp r.op r.status) (rpAny r), VBy g.2 := fun g hg => replyBody_bys r hby g (pick_mem hg).1
  have hl := putAll_len hsm
  refine ⟨nums ⟨#[65, 78, 82, 49]⟩ ++ putAll (rpHead r) ++ putAll (pick (hasRp r.op r.status) (rpAny r)), rfl, ?_, ?_, ((nums_bys _).app (putAll_bys h1)).app (putAll_bys hvb)⟩
  · have : (nums ⟨#[65, 78, 82, 49]⟩).length = 4 := by decide
    simp [this]
  · have h5 : (nums ⟨#[65, 78, 82, 49]⟩).length = 4 := by decide
    have h6 : (pick (hasRp r.op r.status) (rpAny r)).length ≤ 4 := pick_len _ _
    simp only [List.length_append]
    omega
end Go.Proofs.YtdkcplndplhblaaGreatDoor

/- Plain mathematics: what was put is taken again, of every kind; a valid message is read back from its datagram. -/
namespace Go.Proofs.YtdkcplndplhblaaGreatDoor
open Go.RowKit
set_option maxRecDepth 100000

/-- An entry that its field can hold. -/
def FitE (e : Ent) : Prop := e.name.size ≤ 23 ∧ (0 ≤ e.id ∧ e.id < 9223372036854775808) ∧ 0 ≤ e.kind ∧ e.kind < 4294967296
/-- What its field can hold. -/
def FitA : Val → Prop
  | .small x => 0 ≤ x ∧ x < 4294967296
  | .great x => 0 ≤ x ∧ x < 9223372036854775808
  | .flag _ => True
  | .path s => s.size ≤ 384
  | .name s => s.size ≤ 23
  | .content d => d.length ≤ 1024
  | .attr i k z c => (0 ≤ i ∧ i < 9223372036854775808) ∧ (0 ≤ k ∧ k < 4294967296) ∧ (0 ≤ z ∧ z < 4294967296) ∧ 0 ≤ c ∧ c < 9223372036854775808
  | .entries l => l.length ≤ 16 ∧ ∀ e ∈ l, FitE e
/-- Of one kind. -/
def LikeA : Val → Val → Prop
  | .small _, .small _ => True
  | .great _, .great _ => True
  | .flag _, .flag _ => True
  | .path _, .path _ => True
  | .name _, .name _ => True
  | .content _, .content _ => True
  | .attr _ _ _ _, .attr _ _ _ _ => True
  | .entries _, .entries _ => True
  | _, _ => False
theorem txt_nums (s : ByteArray) : txt (nums s) = s := by
  apply N3.bs_inj
  simp only [txt, nums, N3.bs, List.map_map]
  conv => rhs; rw [← List.map_id s.data.toList]
  apply List.map_congr_left
  intro b _
  simp
theorem back_textM (n : Nat) (bs : List Int) (pl dl : Nat) (ds : List Int) (M : Int) (hM : (dl : Int) ≤ M) (hl : ds.length = dl) (hd : dl ≤ 1048576) (hfit : pl + (4 + dl + padN dl) ≤ n) (hpre : (bs.drop pl).take (4 + dl + padN dl) = be dl 4 ++ ds ++ List.replicate (padN dl) 0) :
    rdText n bs pl 0 M = (ds, pl + (4 + dl + padN dl), 0) := by
  have q := back_text n bs pl dl ds hl hd hfit hpre
  have e4 : (be (dl : Int) 4).length = 4 := be_length _ _
  have h4 : (bs.drop pl).take 4 = be (dl : Int) 4 := by
    have h := congrArg (List.take 4) hpre
    have e : (be (dl : Int) 4 ++ ds ++ List.replicate (padN dl) 0).take 4 = be (dl : Int) 4 := by
      rw [List.append_assoc, List.take_append_of_le_length (by omega)]
      exact List.take_of_length_le (by omega)
    rw [e, List.take_take, Nat.min_eq_left (by omega)] at h
    exact h
  unfold rdText at q ⊢
  rw [h4, val_len dl hd] at q ⊢
  rw [if_neg (show ¬ ((0 : Int) ≠ 0) by simp)] at q ⊢
  rw [if_neg (show ¬ n < pl + 4 by omega)] at q ⊢
  rw [if_neg (show ¬ (M < 0 ∨ M < (dl : Int)) by omega)]
  rw [if_neg (show ¬ ((dl : Int) < 0 ∨ (dl : Int) < (dl : Int)) by omega)] at q
  exact q
theorem back_txt (n : Nat) (bs : List Int) (pl : Nat) (s : ByteArray) (M : Int) (hM : (s.size : Int) ≤ M) (hd : s.size ≤ 1048576) (hfit : pl + (txB s).length ≤ n) (hpre : (bs.drop pl).take (txB s).length = txB s) :
    rdText n bs pl 0 M = (nums s, pl + (txB s).length, 0) := by
  rw [txB_length] at hfit hpre ⊢
  exact back_textM n bs pl s.size (nums s) M hM (nums_length s) hd hfit hpre
theorem rdEnt_back {e : Ent} (hf : FitE e) (n : Nat) (bs : List Int) (pl : Nat) (hfit : pl + (entB e).length ≤ n) (hpre : (bs.drop pl).take (entB e).length = entB e) : rdEnt n bs (pl, 0) = (e, (pl + (entB e).length, 0)) := by
  obtain ⟨h1, ⟨h2, h3⟩, h4, h5⟩ := hf
  unfold entB at hpre hfit ⊢
  obtain ⟨p1, p2⟩ := cut_front hpre
  obtain ⟨p3, p4⟩ := cut_front p1
  simp only [List.length_append, be_length] at hfit p2 p4 ⊢
  rw [wrap_small _ h2 (by omega)] at p4
  rw [wrap_small _ h4 (by omega)] at p2
  have q1 := back_txt n bs pl e.name 23 (by omega) (by omega) (by omega) p3
  have q2 := back_numM 8 n bs (pl + (txB e.name).length) e.id 9223372036854775807 h2 (Int.lt_of_lt_of_le h3 (by decide)) (by omega) (by omega) p4
  have q3 := back_numM 4 n bs (pl + (txB e.name).length + 8) e.kind 4294967295 h4 (Int.lt_of_lt_of_le h5 (by decide)) (by omega) (by omega) (by rw [← Nat.add_assoc] at p2; exact p2)
  unfold rdEnt
  simp only [q1, q2, q3, txt_nums]
  simp only [Nat.add_assoc]
theorem rdEnts_back (l : List Ent) (hf : ∀ e ∈ l, FitE e) (n : Nat) (bs : List Int) (pl : Nat) (hfit : pl + (l.flatMap entB).length ≤ n) (hpre : (bs.drop pl).take (l.flatMap entB).length = l.flatMap entB) :
    ∀ k, k ≤ l.length → rdEnts n bs k (pl, 0) = (l.take k, (pl + ((l.take k).flatMap entB).length, 0))
  | 0, _ => rfl
  | k + 1, hk => by
    have ih := rdEnts_back l hf n bs pl hfit hpre k (by omega)
    have hs : l.flatMap entB = (l.take k).flatMap entB ++ (entB l[k] ++ (l.drop (k + 1)).flatMap entB) := by
      conv => lhs; rw [← List.take_append_drop k l, List.drop_eq_getElem_cons (by omega : k < l.length)]
      rw [List.flatMap_append, List.flatMap_cons]
    have ht : l.take (k + 1) = l.take k ++ [l[k]] := by rw [List.take_succ_eq_append_getElem (by omega)]
    rw [hs] at hfit hpre
    obtain ⟨_, p2⟩ := cut_front hpre
    obtain ⟨p3, _⟩ := cut_front p2
    simp only [List.length_append] at hfit
    have q := rdEnt_back (hf l[k] (List.getElem_mem _)) n bs (pl + ((l.take k).flatMap entB).length) (by omega) p3
    unfold rdEnts
    simp only [ih, q, ht, List.flatMap_append, List.flatMap_cons, List.flatMap_nil, List.append_nil, List.length_append, Nat.add_assoc]
theorem take_backA {x k : Val} (hf : FitA x) (hl : LikeA k x) (n : Nat) (bs : List Int) (pl : Nat) (hfit : pl + (putV x).length ≤ n) (hpre : (bs.drop pl).take (putV x).length = putV x) :
    takeV n bs (pl, 0) k = (x, (pl + (putV x).length, 0)) ∧ takeE n bs (pl, 0) k = 0 := by
  cases x with
  | small x =>
    cases k with
    | small y => exact take_back (x := .small x) (k := .small y) hf trivial n bs pl hfit hpre
    | _ => exact hl.elim
  | great x =>
    cases k with
    | great y => exact take_back (x := .great x) (k := .great y) hf trivial n bs pl hfit hpre
    | _ => exact hl.elim
  | flag b =>
    cases k with
    | flag y =>
      have e : putV (.flag b) = be (if b then 1 else 0) 4 := by cases b <;> rfl
      rw [e] at hfit hpre ⊢
      rw [be_length] at hfit hpre ⊢
      have hv : val ((bs.drop pl).take 4) = if b then 1 else 0 := by
        rw [hpre]; cases b
        · exact val_be 4 0 (by decide) (by decide)
        · exact val_be 4 1 (by decide) (by decide)
      refine ⟨?_, rfl⟩
      unfold takeV rdFlag
      simp only [hv]
      rw [if_neg (by simp), if_neg (by omega)]
      cases b <;> simp
    | _ => exact hl.elim
  | path s =>
    cases k with
    | path y =>
      have hs : s.size ≤ 384 := hf
      have q := back_txt n bs pl s 384 (by omega) (by omega) hfit hpre
      refine ⟨?_, rfl⟩
      simp only [takeV, q, txt_nums, putV]
    | _ => exact hl.elim
  | name s =>
    cases k with
    | name y =>
      have hs : s.size ≤ 23 := hf
      have q := back_txt n bs pl s 23 (by omega) (by omega) hfit hpre
      refine ⟨?_, rfl⟩
      simp only [takeV, q, txt_nums, putV]
    | _ => exact hl.elim
  | content d =>
    cases k with
    | content y =>
      have hs : d.length ≤ 1024 := hf
      have e : putV (.content d) = dtB d := rfl
      rw [e] at hfit hpre ⊢
      rw [dtB_length] at hfit hpre ⊢
      have q := back_textM n bs pl d.length d 1024 (by omega) rfl (by omega) hfit hpre
      refine ⟨?_, rfl⟩
      simp only [takeV, q]
    | _ => exact hl.elim
  | attr i k' z c =>
    cases k with
    | attr _ _ _ _ =>
      obtain ⟨⟨h1, h2⟩, ⟨h3, h4⟩, ⟨h5, h6⟩, h7, h8⟩ := hf
      have e : putV (.attr i k' z c) = be (IntKind.u64.wrap i) 8 ++ be (IntKind.u64.wrap k') 4 ++ be (IntKind.u64.wrap z) 4 ++ be (IntKind.u64.wrap c) 8 := rfl
      rw [e] at hfit hpre ⊢
      obtain ⟨p1, p2⟩ := cut_front hpre
      obtain ⟨p3, p4⟩ := cut_front p1
      obtain ⟨p5, p6⟩ := cut_front p3
      simp only [List.length_append, be_length] at hfit p2 p4 p5 p6 ⊢
      rw [wrap_small _ h1 (by omega)] at p5
      rw [wrap_small _ h3 (by omega)] at p6
      rw [wrap_small _ h5 (by omega)] at p4
      rw [wrap_small _ h7 (by omega)] at p2
      have q1 := back_numM 8 n bs pl i 9223372036854775807 h1 (Int.lt_of_lt_of_le h2 (by decide)) (by omega) (by omega) p5
      have q2 := back_numM 4 n bs (pl + 8) k' 4294967295 h3 (Int.lt_of_lt_of_le h4 (by decide)) (by omega) (by omega) p6
      have q3 := back_numM 4 n bs (pl + 8 + 4) z 4294967295 h5 (Int.lt_of_lt_of_le h6 (by decide)) (by omega) (by omega) p4
      have q4 := back_numM 8 n bs (pl + 8 + 4 + 4) c 9223372036854775807 h7 (Int.lt_of_lt_of_le h8 (by decide)) (by omega) (by omega) p2
      refine ⟨?_, rfl⟩
      simp only [takeV, q1, q2, q3, q4]
    | _ => exact hl.elim
  | entries l =>
    cases k with
    | entries y =>
      obtain ⟨h1, h2⟩ := hf
      have e : putV (.entries l) = be (IntKind.u64.wrap l.length) 4 ++ l.flatMap entB := rfl
      rw [e] at hfit hpre ⊢
      obtain ⟨p1, p2⟩ := cut_front hpre
      simp only [List.length_append, be_length] at hfit p1 p2 ⊢
      rw [wrap_small _ (by omega) (by omega)] at p1
      have q1 := back_numM 4 n bs pl l.length 4294967295 (by omega) (Int.lt_of_le_of_lt (show (l.length : Int) ≤ 16 by omega) (by decide)) (by omega) (by omega) p1
      have q2 := rdEnts_back l h2 n bs (pl + 4) (by omega) p2 l.length (Nat.le_refl _)
      rw [List.take_length] at q2
      refine ⟨?_, ?_⟩
      · simp only [takeV, q1, Int.toNat_natCast, q2, Nat.add_assoc]
      · simp only [takeE, q1]
        rw [if_neg (by omega)]
    | _ => exact hl.elim

def LikesA : List (Int × Val) → List (Int × Val) → Prop
  | [], [] => True
  | k :: ks, g :: gs => k.1 = g.1 ∧ LikeA k.2 g.2 ∧ LikesA ks gs
  | _, _ => False
theorem takeL_backA : ∀ (gs ks : List (Int × Val)) (n : Nat) (bs : List Int) (pl : Nat), LikesA ks gs → (∀ g ∈ gs, FitA g.2) → pl + (putAll gs).length ≤ n → (bs.drop pl).take (putAll gs).length = putAll gs →
    takeL n bs ks (pl, 0) = (gs, (pl + (putAll gs).length, 0)) ∧ takeLE n bs ks (pl, 0) = 0
  | [], [], n, bs, pl, _, _, _, _ => ⟨rfl, rfl⟩
  | g :: gs, k :: ks, n, bs, pl, hk, hf, hn, hp => by
    have e : putAll (g :: gs) = putV g.2 ++ putAll gs := rfl
    rw [e] at hn hp ⊢
    obtain ⟨p1, p2⟩ := cut_front hp
    rw [List.length_append] at hn
    obtain ⟨q1, q2⟩ := take_backA (hf g (by simp)) hk.2.1 n bs pl (by omega) p1
    obtain ⟨r1, r2⟩ := takeL_backA gs ks n bs (pl + (putV g.2).length) hk.2.2 (fun x hx => hf x (by simp [hx])) (by omega) p2
    constructor
    · simp only [takeL, q1, r1]
      rw [List.length_append, Nat.add_assoc]
      simp [hk.1]
    · simp only [takeLE, q1, q2, r2, if_true]
  | [], _ :: _, _, _, _, h, _, _, _ => h.elim
  | _ :: _, [], _, _, _, h, _, _, _ => h.elim
theorem LikesA.pick (l : List Int) : ∀ {ks gs : List (Int × Val)}, LikesA ks gs → LikesA (pick l ks) (pick l gs)
  | [], [], _ => trivial
  | k :: ks, g :: gs, h => by
    have ih := LikesA.pick l h.2.2
    unfold Go.Proofs.YtdkcplndplhblaaGreatDoor.pick at ih ⊢
    simp only [List.filter_cons, h.1]
    by_cases hg : g.1 ∈ l
    · simp only [hg, decide_true, if_true]
      exact ⟨h.1, h.2.1, ih⟩
    · simp only [hg, decide_false, Bool.false_eq_true, if_false]
      exact ih
  | [], _ :: _, h => h.elim
  | _ :: _, [], h => h.elim

theorem path_fit {s : ByteArray} (h : N3.splitE (N3.bs s) = 0) : s.size ≤ 384 := by
  obtain ⟨h2, h3⟩ := N3.path_split h
  have h4 := N3.pathT_len h2
  rw [h3] at h4
  rw [N3.size_bs]; exact h4
theorem ent_ok {l : List Ent} (h : listB l = true) : l.length ≤ 16 ∧ ∀ e ∈ l, entOk e = true := by
  simp only [listB, Bool.and_eq_true, decide_eq_true_eq] at h
  refine ⟨h.1, fun e he => ?_⟩
  obtain ⟨k, hk, rfl⟩ := List.getElem_of_mem he
  have h2 := h.2 k hk
  cases h4 : entOk l[k]
  · rw [okAt_ent hk h4] at h2; cases h2
  · rfl
theorem kind_fit {k : Int} (h : kindB k = true) : 1 ≤ k ∧ k ≤ 2 := by
  simp only [kindB, Bool.or_eq_true, decide_eq_true_eq] at h; omega
theorem may_fit {op no : Int} {x : Val} (h : mayB op no x = true) : FitA x := by
  cases x with
  | small x =>
    simp only [mayB] at h
    by_cases h7 : no = 7
    · rw [if_pos h7] at h
      have := inB_true h
      exact ⟨by omega, by omega⟩
    · rw [if_neg h7] at h
      have := inB_true h
      have hm : mostLen op ≤ 1024 := by unfold mostLen; split <;> omega
      exact ⟨by omega, by omega⟩
  | great x => have := inB_true h; exact ⟨by omega, by omega⟩
  | flag b => trivial
  | path s => exact path_fit (by simpa [mayB] using h)
  | name s =>
    show s.size ≤ 23
    simp only [mayB, Bool.or_eq_true, Bool.and_eq_true, decide_eq_true_eq] at h
    rcases h with h | h
    · omega
    · exact name_small h
  | content d =>
    show d.length ≤ 1024
    simp only [mayB, Bool.and_eq_true, decide_eq_true_eq] at h
    exact h.1
  | attr i k z c =>
    simp only [mayB, attrB, Bool.and_eq_true] at h
    obtain ⟨⟨⟨h1, h2⟩, h3⟩, h4⟩ := h
    have q1 := inB_true h1
    have q4 := inB_true h4
    have q2 : 1 ≤ k ∧ k ≤ 2 := by
      unfold kindFits at h2
      split at h2
      · simp at h2; omega
      · split at h2
        · simp at h2; omega
        · exact kind_fit h2
    have q3 : 0 ≤ z ∧ z ≤ 69632 := by
      unfold sizeFits at h3
      split at h3
      · simp only [Bool.and_eq_true] at h3
        have := inB_true h3.1
        omega
      · exact inB_true h3
    exact ⟨⟨by omega, by omega⟩, ⟨by omega, by omega⟩, ⟨by omega, by omega⟩, by omega, by omega⟩
  | entries l =>
    obtain ⟨h1, h2⟩ := ent_ok (by simpa [mayB] using h)
    refine ⟨h1, fun e he => ?_⟩
    have h3 := h2 e he
    simp only [entOk, Bool.and_eq_true] at h3
    have a1 := name_small h3.1.1
    have a2 := inB_true h3.1.2
    have a3 := kind_fit h3.2
    exact ⟨a1, ⟨by omega, by omega⟩, by omega, by omega⟩
theorem judge_all {op : Int} {l : List Int} {gs : List (Int × Val)} (h : judgeE op l gs = 0) : ∀ g ∈ gs, fieldB op l g = true := by
  have h3 : gs.all (fieldB op l) = true := by
    unfold judgeE at h
    by_cases hx : gs.all (fieldB op l) = true
    · exact hx
    · rw [if_neg hx] at h; cases h
  exact List.all_eq_true.1 h3
theorem judge_fit {op : Int} {l : List Int} {gs : List (Int × Val)} (h : judgeE op l gs = 0) : ∀ g ∈ pick l gs, FitA g.2 := by
  intro g hg
  obtain ⟨h1, h2⟩ := pick_mem hg
  have h4 := judge_all h g h1
  unfold fieldB at h4
  rw [if_pos h2] at h4
  exact may_fit h4
theorem judge_zeros {op : Int} {l : List Int} {gs : List (Int × Val)} (h : judgeE op l gs = 0) : ∀ g ∈ gs, g.1 ∉ l → zeroB g.2 = true := by
  intro g hg hn
  have h4 := judge_all h g hg
  unfold fieldB at h4
  rwa [if_neg hn] at h4

/-- How long a field is at most. -/
def bnd : Val → Nat
  | .small _ => 4 | .great _ => 8 | .flag _ => 4 | .path _ => 391 | .name _ => 30 | .content _ => 1031 | .attr _ _ _ _ => 24 | .entries _ => 676
theorem pad_le (n : Nat) : padN n ≤ 3 := by unfold padN; omega
theorem ents_len : ∀ (l : List Ent), (∀ e ∈ l, FitE e) → (l.flatMap entB).length ≤ l.length * 42
  | [], _ => by simp
  | e :: l, h => by
    have ih := ents_len l (fun x hx => h x (by simp [hx]))
    have h1 := (h e (by simp)).1
    have h2 := pad_le e.name.size
    have h3 := txB_length e.name
    simp only [List.flatMap_cons, List.length_append, entB, be_length, List.length_cons]
    omega
theorem put_bnd {x : Val} (h : FitA x) : (putV x).length ≤ bnd x := by
  cases x with
  | small x => simp [putV, be_length, bnd]
  | great x => simp [putV, be_length, bnd]
  | flag x => simp [putV, be_length, bnd]
  | path s => have h1 : s.size ≤ 384 := h; have h2 := pad_le s.size; have h3 := txB_length s; show (txB s).length ≤ 391; omega
  | name s => have h1 : s.size ≤ 23 := h; have h2 := pad_le s.size; have h3 := txB_length s; show (txB s).length ≤ 30; omega
  | content d => have h1 : d.length ≤ 1024 := h; have h2 := pad_le d.length; have h3 := dtB_length d; show (dtB d).length ≤ 1031; omega
  | attr i k z c => simp [putV, be_length, bnd]
  | entries l =>
    obtain ⟨h1, h2⟩ := h
    have h3 := ents_len l h2
    show (be (IntKind.u64.wrap l.length) 4 ++ l.flatMap entB).length ≤ 676
    rw [List.length_append, be_length]
    omega
theorem all_bnd : ∀ {gs : List (Int × Val)}, (∀ g ∈ gs, FitA g.2) → (putAll gs).length ≤ (gs.map fun g => bnd g.2).sum
  | [], _ => by simp [putAll]
  | g :: gs, h => by
    have ih := all_bnd (gs := gs) (fun x hx => h x (by simp [hx]))
    have h1 := put_bnd (h g (by simp))
    have e : putAll (g :: gs) = putV g.2 ++ putAll gs := rfl
    rw [e, List.length_append, List.map_cons, List.sum_cons]
    omega
theorem rq_bnd (r : Req) (op : Int) : ((pick (hasRq op) (rqAny r)).map fun g => bnd g.2).sum ≤ 1356 := by
  unfold hasRq
  split
  · exact Nat.le_of_ble_eq_true rfl
  split
  · exact Nat.le_of_ble_eq_true rfl
  split
  · exact Nat.le_of_ble_eq_true rfl
  split
  · exact Nat.le_of_ble_eq_true rfl
  split
  · exact Nat.le_of_ble_eq_true rfl
  split
  · exact Nat.le_of_ble_eq_true rfl
  split
  · exact Nat.le_of_ble_eq_true rfl
  · exact Nat.le_of_ble_eq_true rfl
theorem rp_bnd (r : Rep) (op st : Int) : ((pick (hasRp op st) (rpAny r)).map fun g => bnd g.2).sum ≤ 1356 := by
  unfold hasRp
  split
  · split
    · exact Nat.le_of_ble_eq_true rfl
    split
    · exact Nat.le_of_ble_eq_true rfl
    split
    · exact Nat.le_of_ble_eq_true rfl
    · exact Nat.le_of_ble_eq_true rfl
  · exact Nat.le_of_ble_eq_true rfl
end Go.Proofs.YtdkcplndplhblaaGreatDoor

/- Plain mathematics: a valid request is read back from its datagram; a valid reply likewise. -/
namespace Go.Proofs.YtdkcplndplhblaaGreatDoor
open Go.RowKit
set_option maxRecDepth 100000

theorem empty_of {s : ByteArray} (h : decide (s.size = 0) = true) : s = ⟨#[]⟩ := by
  have h1 : s.size = 0 := by simpa using h
  obtain ⟨⟨l⟩⟩ := s
  have h2 : l.length = 0 := h1
  rw [List.eq_nil_of_length_eq_zero h2]
theorem nil_of {α : Type} {l : List α} (h : decide (l.length = 0) = true) : l = [] := List.eq_nil_of_length_eq_zero (by simpa using h)
theorem zero_of {x : Int} (h : decide (x = 0) = true) : x = 0 := by simpa using h

theorem rq_fill (r : Req) (l : List Int) (hz : ∀ g ∈ rqAny r, g.1 ∉ l → zeroB g.2 = true) :
    (pick l (rqAny r)).foldl rqPlace ⟨r.client, r.seq, r.ack, r.epoch, r.op, 0, 0, 0, 0, ⟨#[]⟩, ⟨#[]⟩, ⟨#[]⟩, []⟩ = r := by
  unfold pick
  rw [List.foldl_filter]
  obtain ⟨client, seq, ack, epoch, op, id, id2, off, len, path, name, name2, data⟩ := r
  have z6 := hz (6, .great id) (by simp [rqAny])
  have z7 := hz (7, .small off) (by simp [rqAny])
  have z8 := hz (8, .small len) (by simp [rqAny])
  have z9 := hz (9, .path path) (by simp [rqAny])
  have z10 := hz (10, .name name) (by simp [rqAny])
  have z11 := hz (11, .great id2) (by simp [rqAny])
  have z12 := hz (12, .name name2) (by simp [rqAny])
  have z14 := hz (14, .content data) (by simp [rqAny])
  clear hz
  simp only [rqAny, List.foldl_cons, List.foldl_nil]
  have s6 : (if decide ((6 : Int) ∈ l) = true then rqPlace ⟨client, seq, ack, epoch, op, 0, 0, 0, 0, ⟨#[]⟩, ⟨#[]⟩, ⟨#[]⟩, []⟩ (6, .great id) else ⟨client, seq, ack, epoch, op, 0, 0, 0, 0, ⟨#[]⟩, ⟨#[]⟩, ⟨#[]⟩, []⟩) = (⟨client, seq, ack, epoch, op, id, 0, 0, 0, ⟨#[]⟩, ⟨#[]⟩, ⟨#[]⟩, []⟩ : Req) := by
    by_cases h : (6 : Int) ∈ l
    · rw [if_pos (decide_eq_true h)]; rfl
    · rw [if_neg (by simpa using h), zero_of (z6 h)]
  rw [s6]
  have s7 : (if decide ((7 : Int) ∈ l) = true then rqPlace ⟨client, seq, ack, epoch, op, id, 0, 0, 0, ⟨#[]⟩, ⟨#[]⟩, ⟨#[]⟩, []⟩ (7, .small off) else ⟨client, seq, ack, epoch, op, id, 0, 0, 0, ⟨#[]⟩, ⟨#[]⟩, ⟨#[]⟩, []⟩) = (⟨client, seq, ack, epoch, op, id, 0, off, 0, ⟨#[]⟩, ⟨#[]⟩, ⟨#[]⟩, []⟩ : Req) := by
    by_cases h : (7 : Int) ∈ l
    · rw [if_pos (decide_eq_true h)]; rfl
    · rw [if_neg (by simpa using h), zero_of (z7 h)]
  rw [s7]
  have s8 : (if decide ((8 : Int) ∈ l) = true then rqPlace ⟨client, seq, ack, epoch, op, id, 0, off, 0, ⟨#[]⟩, ⟨#[]⟩, ⟨#[]⟩, []⟩ (8, .small len) else ⟨client, seq, ack, epoch, op, id, 0, off, 0, ⟨#[]⟩, ⟨#[]⟩, ⟨#[]⟩, []⟩) = (⟨client, seq, ack, epoch, op, id, 0, off, len, ⟨#[]⟩, ⟨#[]⟩, ⟨#[]⟩, []⟩ : Req) := by
    by_cases h : (8 : Int) ∈ l
    · rw [if_pos (decide_eq_true h)]; rfl
    · rw [if_neg (by simpa using h), zero_of (z8 h)]
  rw [s8]
  have s9 : (if decide ((9 : Int) ∈ l) = true then rqPlace ⟨client, seq, ack, epoch, op, id, 0, off, len, ⟨#[]⟩, ⟨#[]⟩, ⟨#[]⟩, []⟩ (9, .path path) else ⟨client, seq, ack, epoch, op, id, 0, off, len, ⟨#[]⟩, ⟨#[]⟩, ⟨#[]⟩, []⟩) = (⟨client, seq, ack, epoch, op, id, 0, off, len, path, ⟨#[]⟩, ⟨#[]⟩, []⟩ : Req) := by
    by_cases h : (9 : Int) ∈ l
    · rw [if_pos (decide_eq_true h)]; rfl
    · rw [if_neg (by simpa using h), empty_of (z9 h)]
  rw [s9]
  have s10 : (if decide ((10 : Int) ∈ l) = true then rqPlace ⟨client, seq, ack, epoch, op, id, 0, off, len, path, ⟨#[]⟩, ⟨#[]⟩, []⟩ (10, .name name) else ⟨client, seq, ack, epoch, op, id, 0, off, len, path, ⟨#[]⟩, ⟨#[]⟩, []⟩) = (⟨client, seq, ack, epoch, op, id, 0, off, len, path, name, ⟨#[]⟩, []⟩ : Req) := by
    by_cases h : (10 : Int) ∈ l
    · rw [if_pos (decide_eq_true h)]; rfl
    · rw [if_neg (by simpa using h), empty_of (z10 h)]
  rw [s10]
  have s11 : (if decide ((11 : Int) ∈ l) = true then rqPlace ⟨client, seq, ack, epoch, op, id, 0, off, len, path, name, ⟨#[]⟩, []⟩ (11, .great id2) else ⟨client, seq, ack, epoch, op, id, 0, off, len, path, name, ⟨#[]⟩, []⟩) = (⟨client, seq, ack, epoch, op, id, id2, off, len, path, name, ⟨#[]⟩, []⟩ : Req) := by
    by_cases h : (11 : Int) ∈ l
    · rw [if_pos (decide_eq_true h)]; rfl
    · rw [if_neg (by simpa using h), zero_of (z11 h)]
  rw [s11]
  have s12 : (if decide ((12 : Int) ∈ l) = true then rqPlace ⟨client, seq, ack, epoch, op, id, id2, off, len, path, name, ⟨#[]⟩, []⟩ (12, .name name2) else ⟨client, seq, ack, epoch, op, id, id2, off, len, path, name, ⟨#[]⟩, []⟩) = (⟨client, seq, ack, epoch, op, id, id2, off, len, path, name, name2, []⟩ : Req) := by
    by_cases h : (12 : Int) ∈ l
    · rw [if_pos (decide_eq_true h)]; rfl
    · rw [if_neg (by simpa using h), empty_of (z12 h)]
  rw [s12]
  by_cases h : (14 : Int) ∈ l
  · rw [if_pos (decide_eq_true h)]; rfl
  · rw [if_neg (by simpa using h), nil_of (z14 h)]
theorem rp_fill (r : Rep) (l : List Int) (hz : ∀ g ∈ rpAny r, g.1 ∉ l → zeroB g.2 = true) :
    (pick l (rpAny r)).foldl rpPlace ⟨r.client, r.seq, r.epoch, r.op, r.status, 0, 0, 0, 0, [], [], false⟩ = r := by
  unfold pick
  rw [List.foldl_filter]
  obtain ⟨client, seq, epoch, op, status, ai, ak, az, ac, data, list, more⟩ := r
  have z13 := hz (13, .attr ai ak az ac) (by simp [rpAny])
  have z14 := hz (14, .content data) (by simp [rpAny])
  have z15 := hz (15, .entries list) (by simp [rpAny])
  have z16 := hz (16, .flag more) (by simp [rpAny])
  clear hz
  simp only [rpAny, List.foldl_cons, List.foldl_nil]
  have s13 : (if decide ((13 : Int) ∈ l) = true then rpPlace ⟨client, seq, epoch, op, status, 0, 0, 0, 0, [], [], false⟩ (13, .attr ai ak az ac) else ⟨client, seq, epoch, op, status, 0, 0, 0, 0, [], [], false⟩) = (⟨client, seq, epoch, op, status, ai, ak, az, ac, [], [], false⟩ : Rep) := by
    by_cases h : (13 : Int) ∈ l
    · rw [if_pos (decide_eq_true h)]; rfl
    · have z := z13 h
      simp only [zeroB, Bool.and_eq_true, decide_eq_true_eq] at z
      obtain ⟨⟨⟨rfl, rfl⟩, rfl⟩, rfl⟩ := z
      rw [if_neg (by simpa using h)]
  rw [s13]
  have s14 : (if decide ((14 : Int) ∈ l) = true then rpPlace ⟨client, seq, epoch, op, status, ai, ak, az, ac, [], [], false⟩ (14, .content data) else ⟨client, seq, epoch, op, status, ai, ak, az, ac, [], [], false⟩) = (⟨client, seq, epoch, op, status, ai, ak, az, ac, data, [], false⟩ : Rep) := by
    by_cases h : (14 : Int) ∈ l
    · rw [if_pos (decide_eq_true h)]; rfl
    · rw [if_neg (by simpa using h), nil_of (z14 h)]
  rw [s14]
  have s15 : (if decide ((15 : Int) ∈ l) = true then rpPlace ⟨client, seq, epoch, op, status, ai, ak, az, ac, data, [], false⟩ (15, .entries list) else ⟨client, seq, epoch, op, status, ai, ak, az, ac, data, [], false⟩) = (⟨client, seq, epoch, op, status, ai, ak, az, ac, data, list, false⟩ : Rep) := by
    by_cases h : (15 : Int) ∈ l
    · rw [if_pos (decide_eq_true h)]; rfl
    · rw [if_neg (by simpa using h), nil_of (z15 h)]
  rw [s15]
  by_cases h : (16 : Int) ∈ l
  · rw [if_pos (decide_eq_true h)]; rfl
  · have z := z16 h
    rw [if_neg (by simpa using h)]
    simp only [zeroB, Bool.not_eq_true'] at z
    subst z
    rfl

theorem rqHeadE_fit {r : Req} (h : rqHeadE r = 0) : ∀ g ∈ rqHead r, FitA g.2 := by
  unfold rqHeadE at h
  by_cases h1 : inB r.client 0 7 = false
  · rw [if_pos h1] at h; cases h
  rw [if_neg h1] at h
  by_cases h2 : (inB r.seq 1 4611686018427387904 && inB r.ack 0 (r.seq - 1)) = false
  · rw [if_pos h2] at h; cases h
  rw [if_neg h2] at h
  by_cases h3 : inB r.epoch 0 4611686018427387904 = false
  · rw [if_pos h3] at h; cases h
  rw [if_neg h3] at h
  by_cases h4 : inB r.op 1 10 = false
  · rw [if_pos h4] at h; cases h
  simp only [Bool.not_eq_false, Bool.and_eq_true] at h1 h2 h3 h4
  have q1 := inB_true h1
  have q2 := inB_true h2.1
  have q3 := inB_true h2.2
  have q4 := inB_true h3
  have q5 := inB_true h4
  intro g hg
  simp only [rqHead, List.mem_cons, List.not_mem_nil, or_false] at hg
  rcases hg with rfl | rfl | rfl | rfl | rfl <;> exact ⟨by omega, by omega⟩
theorem status_fit {x : Int} (h : statusB x = true) : 0 ≤ x ∧ x ≤ 152 := by
  simp [statusB] at h
  omega
theorem rpHeadE_fit {r : Rep} (h : rpHeadE r = 0) : ∀ g ∈ rpHead r, FitA g.2 := by
  unfold rpHeadE at h
  by_cases h1 : inB r.client 0 7 = false
  · rw [if_pos h1] at h; cases h
  rw [if_neg h1] at h
  by_cases h2 : inB r.seq 1 4611686018427387904 = false
  · rw [if_pos h2] at h; cases h
  rw [if_neg h2] at h
  by_cases h3 : inB r.epoch 1 4611686018427387904 = false
  · rw [if_pos h3] at h; cases h
  rw [if_neg h3] at h
  by_cases h4 : inB r.op 1 10 = false
  · rw [if_pos h4] at h; cases h
  rw [if_neg h4] at h
  by_cases h5 : statusB r.status = false
  · rw [if_pos h5] at h; cases h
  simp only [Bool.not_eq_false] at h1 h2 h3 h4 h5
  have q1 := inB_true h1
  have q2 := inB_true h2
  have q4 := inB_true h3
  have q5 := inB_true h4
  have q6 := status_fit h5
  intro g hg
  simp only [rpHead, List.mem_cons, List.not_mem_nil, or_false] at hg
  rcases hg with rfl | rfl | rfl | rfl | rfl <;> exact ⟨by omega, by omega⟩

theorem rqE_head {r : Req} (h : rqE r = 0) : rqHeadE r = 0 := by
  unfold rqE at h
  by_cases h1 : rqHeadE r = 0
  · exact h1
  · rw [if_neg h1] at h; exact absurd h h1
theorem rpE_head {r : Rep} (h : rpE r = 0) : rpHeadE r = 0 ∧ rpBodyE r = 0 := by
  unfold rpE at h
  by_cases h1 : rpHeadE r = 0
  · rw [if_pos h1] at h; exact ⟨h1, h⟩
  · rw [if_neg h1] at h; exact absurd h h1

/-- A valid request, read from its own datagram. -/
theorem rq_back {r : Req} (h : rqE r = 0) : rqDE (rqB r) = 0 ∧ rqD (rqB r) = r ∧ (rqB r).length ≤ 1400 := by
  have hh := rqE_head h
  have hj := rqE_zero h
  have hf1 := rqHeadE_fit hh
  have hf2 := judge_fit hj
  have hz := judge_zeros hj
  have hfill := rq_fill r (hasRq r.op) hz
  have hl1 : (putAll (rqHead r)).length = 32 := by simp [putAll, rqHead, putV, be_length]
  have hl2 := Nat.le_trans (all_bnd hf2) (rq_bnd r r.op)
  have hlk : LikesA (pick (hasRq r.op) (rqAny (⟨r.client, r.seq, r.ack, r.epoch, r.op, 0, 0, 0, 0, ⟨#[]⟩, ⟨#[]⟩, ⟨#[]⟩, []⟩ : Req))) (pick (hasRq r.op) (rqAny r)) := LikesA.pick _ ⟨rfl, trivial, rfl, trivial, rfl, trivial, rfl, trivial, rfl, trivial, rfl, trivial, rfl, trivial, rfl, trivial, trivial⟩
  obtain ⟨B, hB⟩ : ∃ B, B = putAll (rqHead r) ++ putAll (pick (hasRq r.op) (rqAny r)) := ⟨_, rfl⟩
  have hX : rqB r = closeB ([65, 78, 81, 49] ++ B) := by
    unfold rqB
    rw [show nums ⟨#[65, 78, 81, 49]⟩ = [65, 78, 81, 49] by decide, hB, List.append_assoc]
  have hBl : B.length ≤ 1388 := by rw [hB, List.length_append]; omega
  have hopen := openE_close (mg := [65, 78, 81, 49]) (B := B) rfl hBl
  obtain ⟨m1, m2⟩ := close_mid (mg := [65, 78, 81, 49]) (B := B) rfl
  rw [← hX] at hopen m1 m2
  have hpre : (B.drop 0).take (putAll (rqHead r) ++ putAll (pick (hasRq r.op) (rqAny r))).length = putAll (rqHead r) ++ putAll (pick (hasRq r.op) (rqAny r)) := by
    rw [← hB, List.drop_zero, List.take_length]
  obtain ⟨c1, c2⟩ := cut_front hpre
  rw [hl1, Nat.zero_add] at c2
  have hBl2 : B.length = 32 + (putAll (pick (hasRq r.op) (rqAny r))).length := by rw [hB, List.length_append, hl1]
  obtain ⟨a1, _⟩ := takeL_backA (rqHead r) (rqHead rq0) B.length B 0 ⟨rfl, trivial, rfl, trivial, rfl, trivial, rfl, trivial, rfl, trivial, trivial⟩ hf1 (by omega) c1
  rw [hl1, Nat.zero_add] at a1
  obtain ⟨b1, b2⟩ := takeL_backA (pick (hasRq r.op) (rqAny r)) _ B.length B 32 hlk hf2 (by omega) c2
  rw [← hBl2] at b1
  have t1 : rqH B.length B = (rqHead r, (32, 0)) := a1
  have t2 : rq1 B.length B = ⟨r.client, r.seq, r.ack, r.epoch, r.op, 0, 0, 0, 0, ⟨#[]⟩, ⟨#[]⟩, ⟨#[]⟩, []⟩ := by unfold rq1; rw [t1]; rfl
  have t3 : rqG (rq1 B.length B) = pick (hasRq r.op) (rqAny (⟨r.client, r.seq, r.ack, r.epoch, r.op, 0, 0, 0, 0, ⟨#[]⟩, ⟨#[]⟩, ⟨#[]⟩, []⟩ : Req)) := by rw [t2]; rfl
  have t4 : lastE B.length B (rqG (rq1 B.length B)) (rqH B.length B).2 = 0 := by
    rw [t3, t1]; unfold lastE; simp only [b1, b2]; simp [rdClose]
  have t5 : rq2 B.length B = r := by unfold rq2; rw [t3, t1, t2]; simp only [b1]; exact hfill
  have t2h : rqHeadE (rq1 B.length B) = 0 := by rw [t2]; exact hh
  have t6 : rqTE B.length B = 0 := by
    unfold rqTE
    rw [t4, t5, t2h, t1]
    simp only [not_true_eq_false, if_false]
    exact hj
  have t7 : rqDE (rqB r) = 0 := by
    unfold rqDE
    rw [m1, m2, hopen, t6]; rfl
  refine ⟨t7, ?_, ?_⟩
  · unfold rqD
    rw [if_pos t7, m1, m2, t5]
  · rw [hX]; simp [closeB, be_length]; omega
/-- A valid reply, read from its own datagram. -/
theorem rp_back {r : Rep} (h : rpE r = 0) : rpDE (rpB r) = 0 ∧ rpD (rpB r) = r ∧ (rpB r).length ≤ 1400 := by
  obtain ⟨hh, hbody⟩ := rpE_head h
  have hj := rpE_zero h
  have hf1 := rpHeadE_fit hh
  have hf2 := judge_fit hj
  have hz := judge_zeros hj
  have hfill := rp_fill r (hasRp r.op r.status) hz
  have hl1 : (putAll (rpHead r)).length = 28 := by simp [putAll, rpHead, putV, be_length]
  have hl2 := Nat.le_trans (all_bnd hf2) (rp_bnd r r.op r.status)
  have hlk : LikesA (pick (hasRp r.op r.status) (rpAny (⟨r.client, r.seq, r.epoch, r.op, r.status, 0, 0, 0, 0, [], [], false⟩ : Rep))) (pick (hasRp r.op r.status) (rpAny r)) := LikesA.pick _ ⟨rfl, trivial, rfl, trivial, rfl, trivial, rfl, trivial, trivial⟩
  obtain ⟨B, hB⟩ : ∃ B, B = putAll (rpHead r) ++ putAll (pick (hasRp r.op r.status) (rpAny r)) := ⟨_, rfl⟩
  have hX : rpB r = closeB ([65, 78, 82, 49] ++ B) := by
    unfold rpB
    rw [show nums ⟨#[65, 78, 82, 49]⟩ = [65, 78, 82, 49] by decide, hB, List.append_assoc]
  have hBl : B.length ≤ 1388 := by rw [hB, List.length_append]; omega
  have hopen := openE_close (mg := [65, 78, 82, 49]) (B := B) rfl hBl
  obtain ⟨m1, m2⟩ := close_mid (mg := [65, 78, 82, 49]) (B := B) rfl
  rw [← hX] at hopen m1 m2
  have hpre : (B.drop 0).take (putAll (rpHead r) ++ putAll (pick (hasRp r.op r.status) (rpAny r))).length = putAll (rpHead r) ++ putAll (pick (hasRp r.op r.status) (rpAny r)) := by
    rw [← hB, List.drop_zero, List.take_length]
  obtain ⟨c1, c2⟩ := cut_front hpre
  rw [hl1, Nat.zero_add] at c2
  have hBl2 : B.length = 28 + (putAll (pick (hasRp r.op r.status) (rpAny r))).length := by rw [hB, List.length_append, hl1]
  obtain ⟨a1, _⟩ := takeL_backA (rpHead r) (rpHead rp0) B.length B 0 ⟨rfl, trivial, rfl, trivial, rfl, trivial, rfl, trivial, rfl, trivial, trivial⟩ hf1 (by omega) c1
  rw [hl1, Nat.zero_add] at a1
  obtain ⟨b1, b2⟩ := takeL_backA (pick (hasRp r.op r.status) (rpAny r)) _ B.length B 28 hlk hf2 (by omega) c2
  rw [← hBl2] at b1
  have t1 : rpH B.length B = (rpHead r, (28, 0)) := a1
  have t2 : rp1 B.length B = ⟨r.client, r.seq, r.epoch, r.op, r.status, 0, 0, 0, 0, [], [], false⟩ := by unfold rp1; rw [t1]; rfl
  have t3 : rpG (rp1 B.length B) = pick (hasRp r.op r.status) (rpAny (⟨r.client, r.seq, r.epoch, r.op, r.status, 0, 0, 0, 0, [], [], false⟩ : Rep)) := by rw [t2]; rfl
  have t4 : lastE B.length B (rpG (rp1 B.length B)) (rpH B.length B).2 = 0 := by
    rw [t3, t1]; unfold lastE; simp only [b1, b2]; simp [rdClose]
  have t5 : rp2 B.length B = r := by unfold rp2; rw [t3, t1, t2]; simp only [b1]; exact hfill
  have t2h : rpHeadE (rp1 B.length B) = 0 := by rw [t2]; exact hh
  have t6 : rpTE B.length B = 0 := by
    unfold rpTE
    rw [t4, t5, t2h, t1]
    simp only [not_true_eq_false, if_false]
    exact hbody
  have t7 : rpDE (rpB r) = 0 := by
    unfold rpDE
    rw [m1, m2, hopen, t6]; rfl
  refine ⟨t7, ?_, ?_⟩
  · unfold rpD
    rw [if_pos t7, m1, m2, t5]
  · rw [hX]; simp [closeB, be_length]; omega
end Go.Proofs.YtdkcplndplhblaaGreatDoor

/- MsgBack by its contract. -/
namespace Go.Proofs.YtdkcplndplhblaaGreatDoor
open Go.RowKit
set_option maxRecDepth 100000

/-- Encode, in one word. -/
theorem encRq (r : Req) (ao : Option Addr) (n c : Nat) (w : World) (hD : Lies w ao n c r.data) (hp : r.path.size ≤ 281474976710656) (hby : Bys r.data) :
    Calls Tryz.prog 18 #[rqV r ao n c] w fun e w' => ∃ go k l, e = .returned (.tuple #[.slice go k l, .int .i64 (rqE r)]) ∧ Below w.heap.size w w' ∧ (rqE r = 0 → Lies w' go k l (rqB r)) ∧ (rqE r ≠ 0 → k = 0) := by
  refine (EncodeRequest_any r ao n c w hD hp hby).mono ?_
  rintro e w' (⟨h, he, hb⟩ | ⟨h, g, k, l, he, ho, hb⟩)
  · exact ⟨_, _, _, he, hb, fun q => absurd q h, fun _ => rfl⟩
  · exact ⟨_, _, _, by rw [h]; exact he, hb, fun _ => Lies.owned ho, fun q => absurd h q⟩
theorem encRp (r : Rep) (ao : Option Addr) (n c : Nat) (lo : Option Addr) (ln lc : Nat) (w : World) (hD : Lies w ao n c r.data) (hE : CLies w lo ln lc 3 (entCells r.list)) (hel : r.list.length = ln) (hby : Bys r.data) :
    Calls Tryz.prog 20 #[rpV r ao n c lo ln lc] w fun e w' => ∃ go k l, e = .returned (.tuple #[.slice go k l, .int .i64 (rpE r)]) ∧ Below w.heap.size w w' ∧ (rpE r = 0 → Lies w' go k l (rpB r)) ∧ (rpE r ≠ 0 → k = 0) := by
  refine (EncodeReply_any r ao n c lo ln lc w hD hE hel hby).mono ?_
  rintro e w' (⟨h, he, hb⟩ | ⟨h, g, k, l, he, ho, hb⟩)
  · exact ⟨_, _, _, he, hb, fun q => absurd q h, fun _ => rfl⟩
  · exact ⟨_, _, _, by rw [h]; exact he, hb, fun _ => Lies.owned ho, fun q => absurd h q⟩
theorem rqB_bys {r : Req} (h : rqE r = 0) (hby : Bys r.data) : Bys (rqB r) := by
  obtain ⟨X, hX, _, _, hXb⟩ := rqB_is h hby
  rw [hX]; exact hXb.app (be_bys _ _)
theorem rpB_bys {r : Rep} (h : rpE r = 0) (hby : Bys r.data) : Bys (rpB r) := by
  obtain ⟨X, hX, _, _, hXb⟩ := rpB_is h hby
  rw [hX]; exact hXb.app (be_bys _ _)
/-- Decode of a datagram that Encode made. -/
theorem decRq {r : Req} (h : rqE r = 0) (hby : Bys r.data) (ao : Option Addr) (m c : Nat) (er : Nat → Addr) (w : World) (hL : Lies w ao m c (rqB r)) (hE : Errs w er) :
    Calls Tryz.prog 27 #[.slice ao m c] w fun e w' => ∃ (bo : Option Addr) (n d : Nat), e = .returned (.tuple #[rqV r bo n d, .int .i64 0]) ∧ Lies w' bo n d r.data ∧ Below w.heap.size w w' := by
  obtain ⟨h1, h2, h3⟩ := rq_back h
  have hm : m ≤ 1400 := by rw [← hL.hlen]; exact h3
  refine (decodeRequest_any ao m c (rqB r) er w hL (by omega) (rqB_bys h hby) hE).mono ?_
  rintro e w' ⟨s, bo, n, d, he, hs, ho, hb⟩
  rw [h2] at hs
  subst hs
  rw [h1] at he
  exact ⟨bo, n, d, he, Lies.owned ho, hb⟩
theorem decRp {r : Rep} (h : rpE r = 0) (hby : Bys r.data) (ao : Option Addr) (m c : Nat) (er : Nat → Addr) (w : World) (hL : Lies w ao m c (rpB r)) (hE : Errs w er) (ln : Nat) (hel : r.list.length = ln) :
    Calls Tryz.prog 30 #[.slice ao m c] w fun e w' => ∃ (bo : Option Addr) (n d : Nat) (lo : Option Addr) (lc : Nat), e = .returned (.tuple #[rpV r bo n d lo ln lc, .int .i64 0]) ∧ Lies w' bo n d r.data ∧ CLies w' lo ln lc 3 (entCells r.list) ∧ Below w.heap.size w w' := by
  obtain ⟨h1, h2, h3⟩ := rp_back h
  have hm : m ≤ 1400 := by rw [← hL.hlen]; exact h3
  refine (decodeReply_any ao m c (rpB r) er w hL (by omega) (rpB_bys h hby) hE).mono ?_
  rintro e w' ⟨s, bo, n, d, lo, ln', lc, he, hs, ho, ho2, hl, hb⟩
  rw [h2] at hs
  subst hs
  subst hl
  subst hel
  rw [h1] at he
  exact ⟨bo, n, d, lo, lc, he, Lies.owned ho, CLies.owned ho2, hb⟩
theorem take_close {mg B : List Int} (h : mg.length = 4) : (closeB (mg ++ B)).take 4 = mg := by
  unfold closeB
  rw [List.append_assoc, List.take_append_of_le_length (by omega)]
  exact List.take_of_length_le (by omega)
theorem kindRq {r : Req} (h : rqE r = 0) (hby : Bys r.data) (ao : Option Addr) (m c : Nat) (w : World) (hL : Lies w ao m c (rqB r)) :
    Calls Tryz.prog 33 #[.slice ao m c] w fun e w' => e = .returned (.int .i64 1) ∧ w' = w := by
  refine (kind_any ao m c (rqB r) w hL (rqB_bys h hby)).mono ?_
  rintro e w' ⟨rfl, rfl⟩
  have e1 : (rqB r).take 4 = [65, 78, 81, 49] := by
    unfold rqB; rw [List.append_assoc]; exact take_close rfl
  rw [if_pos e1]
  exact ⟨rfl, rfl⟩
theorem kindRp {r : Rep} (h : rpE r = 0) (hby : Bys r.data) (ao : Option Addr) (m c : Nat) (w : World) (hL : Lies w ao m c (rpB r)) :
    Calls Tryz.prog 33 #[.slice ao m c] w fun e w' => e = .returned (.int .i64 2) ∧ w' = w := by
  refine (kind_any ao m c (rpB r) w hL (rpB_bys h hby)).mono ?_
  rintro e w' ⟨rfl, rfl⟩
  have e1 : (rpB r).take 4 = [65, 78, 82, 49] := by
    unfold rpB; rw [List.append_assoc]; exact take_close rfl
  rw [if_neg (by rw [e1]; decide), if_pos e1]
  exact ⟨rfl, rfl⟩
end Go.Proofs.YtdkcplndplhblaaGreatDoor
