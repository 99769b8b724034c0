/- annexref4.brought, where the letters are of one kind. -/
import Derived.Test.YtdkcplndplhblaaGreatDoorPk21
import Derived.Test.YtdkcplndplhblaaGreatDoorPk16
import Derived.Test.YtdkcplndplhblaaGreatDoorPk20
namespace Go.Proofs.YtdkcplndplhblaaGreatDoor
open Go.RowKit
set_option maxRecDepth 100000

set_option maxHeartbeats 4000000 in
theorem rbrought_t (cl sq ep op st ai ak az ac : Int) (data : List Int) (list : List Ent) (mr : Bool) (ao : Option Addr) (n c : Nat) (lo : Option Addr) (ln lc : Nat) (w : World) (hn : data.length = n) (hE : CLies w lo ln lc 3 (entCells list)) (hel : list.length = ln) (hg : glets op st = ⟨#[116]⟩) (hh : hasRp op st = [15, 16]) :
    Calls Tryz.prog 46 #[rpV ⟨cl, sq, ep, op, st, ai, ak, az, ac, data, list, mr⟩ ao n c lo ln lc] w fun e w' => e = .returned (.int .i64 (rpBodyE ⟨cl, sq, ep, op, st, ai, ak, az, ac, data, list, mr⟩)) ∧ Below w.heap.size w w' := by
  have hB0 := RpBox.new w ⟨cl, sq, ep, op, st, ai, ak, az, ac, data, list, mr⟩ ao n c lo ln lc
  have hb0 := newBox w (.cells #[.int .i64 cl, .int .i64 sq, .int .i64 ep, .int .i64 op, .int .i64 st, .int .i64 ai, .int .i64 ak, .int .i64 az, .int .i64 ac, .slice ao n c, .slice lo ln lc, .bool mr] 30)
  have dla : decide ((97 : Int) ∈ nums ⟨#[116]⟩) = false := by decide
  have dld : decide ((100 : Int) ∈ nums ⟨#[116]⟩) = false := by decide
  have dlt : decide ((116 : Int) ∈ nums ⟨#[116]⟩) = true := by decide
  have HH : Hid (hasRp op st = [15, 16]) := hh
  have HL : Hid (list.length = ln) := hel
  have HG : Hid (glets op st = ⟨#[116]⟩) := hg
  clear hh hel hg
  obtain ⟨LB, hLB⟩ : ∃ LB, listB list = LB := ⟨_, rfl⟩
  have HLB : Hid (listB list = LB) := hLB
  clear hLB
  have hz : ln = 0 ∨ (((ln : Int) == 0) = false ∧ decide ((0 : Int) < (ln : Int)) = true ∧ 0 < ln) := by
    rcases Nat.eq_zero_or_pos ln with h | h
    · exact .inl h
    · exact .inr ⟨by simp; omega, by simpa using h, h⟩
  rcases hz with rfl | ⟨hz1, hz2, hz3⟩ <;>
  cases mr
  all_goals
    go_enter Tryz.func46, Tryz.ntmps46
    go_wp2_with fail
    refine (rgives_is HG.out cl sq ep ai ak az ac ao n c lo _ lc _ _).mono ?_
    rintro e w1 ⟨rfl, hb1⟩
    have hB1 := rp_later hB0 hb1 (Nat.le_refl _)
    have hq1 : Below w.heap.size w w1 := hb0.trans (hb1.mono (by simp))
    have hB1' := hB1
    obtain ⟨b0, b1, b2, b3, b4, b5, b6, b7, b8, b9, b10, b11⟩ := hB1'
    clear hB0 hb1 hb0
    go_wp2_with fail
    clear b0 b1 b2 b3 b4 b5 b6 b7 b8 b9 b10 b11
    refine (sameAttr_any ai ak az ac 0 0 0 0 _).mono ?_
    rintro e w2 ⟨rfl, hb2⟩
    have hB2 := rp_later hB1 hb2 (Nat.le_refl _)
    have hq2 := hq1.trans (hb2.mono hq1.size)
    clear hB1 hb2 hq1
    obtain ⟨b0, b1, b2, b3, b4, b5, b6, b7, b8, b9, b10, b11⟩ := hB2
    go_wp2_with (first
      | (go_at_call 68; refine (rin_any _ _ _ (by decide)).mono ?_; rintro e wn ⟨rfl, hwn⟩; subst wn; simp only [dla, dld, dlt])
      | (go_at_call 92; refine (rentries_is HLB.out lo _ lc _ (hE.below hq2 (Nat.le_refl _)) HL.out).mono ?_; rintro e wn ⟨rfl, mn, hwn⟩; subst wn))
    all_goals go_ret
    all_goals refine ⟨?_, below_drewN hq2 _⟩
    all_goals clear b0 b1 b2 b3 b4 b5 b6 b7 b8 b9 b10 b11 hE hq2 dla dld dlt
    all_goals (have h1 := HH.out; have h2 := HL.out; have h3 := HLB.out; clear HH HL HG; simp_all [rpBodyE, judgeE, rpAny, fieldB, mayB, zeroB])
end Go.Proofs.YtdkcplndplhblaaGreatDoor

/- annexref4.CheckReply, of any reply. -/
namespace Go.Proofs.YtdkcplndplhblaaGreatDoor
open Go.RowKit
set_option maxRecDepth 100000

theorem rpHead_op {r : Rep} (h : rpHeadE r = 0) : inB r.op 1 10 = true := by
  unfold rpHeadE at h
  cases h5 : inB r.op 1 10
  · rw [h5] at h; revert h; split
    · intro h; cases h
    · split
      · intro h; cases h
      · split <;> intro h <;> simp at h
  · rfl
theorem rbrought_any (r : Rep) (ao : Option Addr) (n c : Nat) (lo : Option Addr) (ln lc : Nat) (w : World) (hn : r.data.length = n) (hE : CLies w lo ln lc 3 (entCells r.list)) (hel : r.list.length = ln) (ho : inB r.op 1 10 = true) :
    Calls Tryz.prog 46 #[rpV r ao n c lo ln lc] w fun e w' => e = .returned (.int .i64 (rpBodyE r)) ∧ Below w.heap.size w w' := by
  obtain ⟨cl, sq, ep, op, st, ai, ak, az, ac, data, list, mr⟩ := r
  have h := inB_true ho
  simp only at h hn hE hel ⊢
  clear ho
  by_cases hs : st = 0
  · subst hs
    by_cases h1 : op = 1 ∨ op = 2 ∨ op = 4 ∨ op = 5 ∨ op = 7
    · exact rbrought_a cl sq ep op 0 ai ak az ac data list mr ao n c lo ln lc w hn hel (by unfold glets; rw [if_pos rfl, if_pos h1]) (by unfold hasRp; rw [if_pos rfl, if_pos h1])
    · by_cases h3 : op = 3
      · subst h3
        exact rbrought_d cl sq ep 0 ai ak az ac data list mr ao n c lo ln lc w hn hel (by decide) (by decide)
      · by_cases h10 : op = 10
        · subst h10
          exact rbrought_t cl sq ep 10 0 ai ak az ac data list mr ao n c lo ln lc w hn hE hel (by decide) (by decide)
        · exact rbrought_e cl sq ep op 0 ai ak az ac data list mr ao n c lo ln lc w hn hel (by unfold glets; rw [if_pos rfl, if_neg h1, if_neg h3, if_neg h10]) (by unfold hasRp; rw [if_pos rfl, if_neg h1, if_neg h3, if_neg h10])
  · exact rbrought_e cl sq ep op st ai ak az ac data list mr ao n c lo ln lc w hn hel (by unfold glets; rw [if_neg hs]) (by unfold hasRp; rw [if_neg hs])

set_option maxHeartbeats 1000000 in
theorem rcheckRp_any (r : Rep) (ao : Option Addr) (n c : Nat) (lo : Option Addr) (ln lc : Nat) (w : World) (hn : r.data.length = n) (hE : CLies w lo ln lc 3 (entCells r.list)) (hel : r.list.length = ln) :
    Calls Tryz.prog 16 #[rpV r ao n c lo ln lc] w fun e w' => e = .returned (.int .i64 (rpE r)) ∧ Below w.heap.size w w' := by
  unfold rpE
  have HN : Hid (r.data.length = n) := hn
  have HL : Hid (r.list.length = ln) := hel
  clear hn hel
  have hB0 := RpBox.new w r ao n c lo ln lc
  by_cases h0 : rpHeadE r = 0
  · have hop := rpHead_op h0
    rw [if_pos h0]
    go_enter Tryz.func16, Tryz.ntmps16
    go_wp2_with (first
      | (go_at_call 45; refine (ranswer_any r ao n c lo ln lc _).mono ?_; rintro e w1 ⟨rfl, hb1⟩; rw [h0]; have hB1 := RpBox.later hB0 hb1 (Nat.le_refl _); have hq1 := (newBox w _).trans (hb1.mono (by simp)); obtain ⟨d0, d1, d2, d3, d4, d5, d6, d7, d8, d9, d10, d11⟩ := hB1)
      | (go_at_call 46; refine (rbrought_any r ao n c lo ln lc _ HN.out (hE.below hq1 (Nat.le_refl _)) HL.out hop).mono ?_; rintro e w2 ⟨rfl, hb2⟩))
    go_ret
    exact ⟨rfl, hq1.trans (hb2.mono hq1.size)⟩
  · rw [if_neg h0]
    have h1 : (rpHeadE r != 0) = true := by simpa using h0
    go_enter Tryz.func16, Tryz.ntmps16
    go_wp2_with (first
      | (go_at_call 45; refine (ranswer_any r ao n c lo ln lc _).mono ?_; rintro e w1 ⟨rfl, hb1⟩; have hq1 := (newBox w _).trans (hb1.mono (by simp))))
    go_ret
    exact ⟨rfl, hq1⟩
end Go.Proofs.YtdkcplndplhblaaGreatDoor

/- MsgChecks by its contract. -/
namespace Go.Proofs.YtdkcplndplhblaaGreatDoor
open Go.RowKit
set_option maxRecDepth 100000

/-- The two arguments in their boxes. -/
theorem boxes2 (r : Req) (ao : Option Addr) (n c : Nat) (y : Rep) (bo : Option Addr) (m d : Nat) (lo : Option Addr) (ln lc : Nat) (w : World) :
    RqBox ((w.alloc (.cells #[.int .i64 r.client, .int .i64 r.seq, .int .i64 r.ack, .int .i64 r.epoch, .int .i64 r.op, .int .i64 r.id, .int .i64 r.id2, .int .i64 r.off, .int .i64 r.len, .string r.path, .string r.name, .string r.name2, .slice ao n c] 24)).alloc (.cells #[.int .i64 y.client, .int .i64 y.seq, .int .i64 y.epoch, .int .i64 y.op, .int .i64 y.status, .int .i64 y.ai, .int .i64 y.ak, .int .i64 y.az, .int .i64 y.ac, .slice bo m d, .slice lo ln lc, .bool y.more] 30)) w.heap.size r ao n c ∧ RpBox ((w.alloc (.cells #[.int .i64 r.client, .int .i64 r.seq, .int .i64 r.ack, .int .i64 r.epoch, .int .i64 r.op, .int .i64 r.id, .int .i64 r.id2, .int .i64 r.off, .int .i64 r.len, .string r.path, .string r.name, .string r.name2, .slice ao n c] 24)).alloc (.cells #[.int .i64 y.client, .int .i64 y.seq, .int .i64 y.epoch, .int .i64 y.op, .int .i64 y.status, .int .i64 y.ai, .int .i64 y.ak, .int .i64 y.az, .int .i64 y.ac, .slice bo m d, .slice lo ln lc, .bool y.more] 30)) (w.heap.size + 1) y bo m d lo ln lc ∧ Below w.heap.size w ((w.alloc (.cells #[.int .i64 r.client, .int .i64 r.seq, .int .i64 r.ack, .int .i64 r.epoch, .int .i64 r.op, .int .i64 r.id, .int .i64 r.id2, .int .i64 r.off, .int .i64 r.len, .string r.path, .string r.name, .string r.name2, .slice ao n c] 24)).alloc (.cells #[.int .i64 y.client, .int .i64 y.seq, .int .i64 y.epoch, .int .i64 y.op, .int .i64 y.status, .int .i64 y.ai, .int .i64 y.ak, .int .i64 y.az, .int .i64 y.ac, .slice bo m d, .slice lo ln lc, .bool y.more] 30)) := by
  have q := RpBox.new (w.alloc (.cells #[.int .i64 r.client, .int .i64 r.seq, .int .i64 r.ack, .int .i64 r.epoch, .int .i64 r.op, .int .i64 r.id, .int .i64 r.id2, .int .i64 r.off, .int .i64 r.len, .string r.path, .string r.name, .string r.name2, .slice ao n c] 24)) y bo m d lo ln lc
  rw [show (w.alloc (.cells #[.int .i64 r.client, .int .i64 r.seq, .int .i64 r.ack, .int .i64 r.epoch, .int .i64 r.op, .int .i64 r.id, .int .i64 r.id2, .int .i64 r.off, .int .i64 r.len, .string r.path, .string r.name, .string r.name2, .slice ao n c] 24)).heap.size = w.heap.size + 1 by simp] at q
  exact ⟨RqBox.later (RqBox.new w r ao n c) (newBox (w.alloc (.cells #[.int .i64 r.client, .int .i64 r.seq, .int .i64 r.ack, .int .i64 r.epoch, .int .i64 r.op, .int .i64 r.id, .int .i64 r.id2, .int .i64 r.off, .int .i64 r.len, .string r.path, .string r.name, .string r.name2, .slice ao n c] 24)) (.cells #[.int .i64 y.client, .int .i64 y.seq, .int .i64 y.epoch, .int .i64 y.op, .int .i64 y.status, .int .i64 y.ai, .int .i64 y.ak, .int .i64 y.az, .int .i64 y.ac, .slice bo m d, .slice lo ln lc, .bool y.more] 30)) (Nat.le_refl _), q, box2 w (.cells #[.int .i64 r.client, .int .i64 r.seq, .int .i64 r.ack, .int .i64 r.epoch, .int .i64 r.op, .int .i64 r.id, .int .i64 r.id2, .int .i64 r.off, .int .i64 r.len, .string r.path, .string r.name, .string r.name2, .slice ao n c] 24) (.cells #[.int .i64 y.client, .int .i64 y.seq, .int .i64 y.epoch, .int .i64 y.op, .int .i64 y.status, .int .i64 y.ai, .int .i64 y.ak, .int .i64 y.az, .int .i64 y.ac, .slice bo m d, .slice lo ln lc, .bool y.more] 30)⟩

set_option maxHeartbeats 4000000 in
theorem checks_any (r : Req) (ao : Option Addr) (n c : Nat) (y : Rep) (bo : Option Addr) (m d : Nat) (lo : Option Addr) (ln lc : Nat) (er : Nat → Addr) (w : World) (hE : Errs w er)
    (hD : Lies w ao n c r.data) (hn : n ≤ 1048576) (hp : r.path.size ≤ 1048576) (hD2 : Lies w bo m d y.data) (hm : m ≤ 1048576) (hN : CLies w lo ln lc 3 (entCells y.list)) (hel : y.list.length = ln) (hln : ln ≤ 1048576) :
    Calls Tryz.prog 3 #[rqV r ao n c, rpV y bo m d lo ln lc] w fun e w' => e = .returned (.bool true) ∧ Below w.heap.size w w' := by
  have HEL : Hid (y.list.length = ln) := hel
  clear hel
  obtain ⟨hq0, hp0, hb0⟩ := boxes2 r ao n c y bo m d lo ln lc w
  go_enter Tryz.func3, Tryz.ntmps3
  go_wp2_with fail
  generalize (w.alloc (.cells #[.int .i64 r.client, .int .i64 r.seq, .int .i64 r.ack, .int .i64 r.epoch, .int .i64 r.op, .int .i64 r.id, .int .i64 r.id2, .int .i64 r.off, .int .i64 r.len, .string r.path, .string r.name, .string r.name2, .slice ao n c] 24)).alloc (.cells #[.int .i64 y.client, .int .i64 y.seq, .int .i64 y.epoch, .int .i64 y.op, .int .i64 y.status, .int .i64 y.ai, .int .i64 y.ak, .int .i64 y.az, .int .i64 y.ac, .slice bo m d, .slice lo ln lc, .bool y.more] 30) = w0 at *
  refine (head_any er _ (hE.below hb0 (Nat.le_refl _))).mono ?_
  rintro e w1 ⟨rfl, hb1⟩
  have hq1 := RqBox.later hq0 hb1 (Nat.le_refl _)
  have hp1 := RpBox.later hp0 hb1 (Nat.le_refl _)
  have hB1 := hb0.trans (hb1.mono hb0.size)
  clear hq0 hp0 hb0 hb1
  have hq1' := hq1
  obtain ⟨q0, q1, q2, q3, q4, q5, q6, q7, q8, q9, q10, q11, q12⟩ := hq1'
  go_wp2_with fail
  clear q0 q1 q2 q3 q4 q5 q6 q7 q8 q9 q10 q11 q12
  refine (asked_any r ao n c _ (hD.below hB1 (Nat.le_refl _)) (by omega)).mono ?_
  rintro e w2 ⟨g, cap, rfl, hF2, hb2⟩
  have hbx := newBox w2 (.cells #[.int .i64 r.client, .int .i64 r.seq, .int .i64 r.ack, .int .i64 r.epoch, .int .i64 r.op, .int .i64 r.id, .int .i64 r.id2, .int .i64 r.off, .int .i64 r.len, .string r.path, .string r.name, .string r.name2, .slice (some ⟨g, 0, none⟩) n cap] 24)
  have hx2 := RqBox.new w2 r (some ⟨g, 0, none⟩) n cap
  have hb2x := hb2.trans (hbx.mono hb2.size)
  have hq2 := RqBox.later hq1 hb2x (Nat.le_refl _)
  have hp2 := RpBox.later hp1 hb2x (Nat.le_refl _)
  have hB2 := hB1.trans (hb2x.mono hB1.size)
  have hcap := own_cap hF2
  have hL2 := (Lies.owned hF2).below hbx (Nat.le_refl _)
  have hP2 := hL2.pre (k := n) (by omega)
  rw [List.take_left' (hD.hlen)] at hP2
  clear hq1 hp1 hb2 hB1 hF2 hb2x hbx
  have hx2' := hx2
  obtain ⟨q0, q1, q2, q3, q4, q5, q6, q7, q8, q9, q10, q11, q12⟩ := hx2'
  go_wp2_with fail
  clear q0 q1 q2 q3 q4 q5 q6 q7 q8 q9 q10 q11 q12 hx2
  generalize w2.alloc (.cells #[.int .i64 r.client, .int .i64 r.seq, .int .i64 r.ack, .int .i64 r.epoch, .int .i64 r.op, .int .i64 r.id, .int .i64 r.id2, .int .i64 r.off, .int .i64 r.len, .string r.path, .string r.name, .string r.name2, .slice (some ⟨g, 0, none⟩) n cap] 24) = w2 at *
  refine (checkRequest_any r _ n cap _ hP2 (by omega)).mono ?_
  rintro e w3 ⟨rfl, hb3⟩
  have hq3 := RqBox.later hq2 hb3 (Nat.le_refl _)
  have hp3 := RpBox.later hp2 hb3 (Nat.le_refl _)
  have hB3 := hB2.trans (hb3.mono hB2.size)
  have hL3 := hL2.below hb3 (Nat.le_refl _)
  clear hq2 hp2 hB2 hb3 hL2 hP2
  have hq3' := hq3
  obtain ⟨q0, q1, q2, q3, q4, q5, q6, q7, q8, q9, q10, q11, q12⟩ := hq3'
  go_wp2_with fail
  clear q0 q1 q2 q3 q4 q5 q6 q7 q8 q9 q10 q11 q12
  refine (rcheckRq_any r ao n c _ hD.hlen hp).mono ?_
  rintro e w4 ⟨rfl, hb4⟩
  have hq4 := RqBox.later hq3 hb4 (Nat.le_refl _)
  have hp4 := RpBox.later hp3 hb4 (Nat.le_refl _)
  have hB4 := hB3.trans (hb4.mono hB3.size)
  have hL4 := hL3.below hb4 (Nat.le_refl _)
  clear hq3 hp3 hB3 hb4 hL3
  obtain ⟨q0, q1, q2, q3, q4, q5, q6, q7, q8, q9, q10, q11, q12⟩ := hq4
  go_wp2_with fail
  clear q0 q1 q2 q3 q4 q5 q6 q7 q8 q9 q10 q11 q12
  refine (room4 ao n c r.data _ (by omega) (hD.below hB4 (Nat.le_refl _))).mono ?_
  rintro e w5 ⟨g5, c5, rfl, ho5, hb5⟩
  have hp5 := RpBox.later hp4 hb5 (Nat.le_refl _)
  have hB5 := hB4.trans (hb5.mono hB4.size)
  have hL5 := hL4.below hb5 (Nat.le_refl _)
  have hR5 := Lies.owned ho5
  clear hp4 hB4 hb5 hL4 ho5
  go_wp2_with fail
  refine (same_any _ _ _ _ _ _ _ _ _ (by omega) hL5 hR5).mono ?_
  rintro e w6 ⟨rfl, m6, hw6⟩
  have hb6 : Below w5.heap.size w5 w6 := by rw [hw6]; exact below_drewN (Below.refl _ _) m6
  have hp6 := RpBox.later hp5 hb6 (Nat.le_refl _)
  have hB6 := hB5.trans (hb6.mono hB5.size)
  clear hp5 hB5 hb6 hL5 hR5 hw6
  rw [decide_eq_true rfl]
  have hrr : (rqE r != rqE r) = false := by simp
  generalize rqE r = E6 at *
  have hp6' := hp6
  obtain ⟨p0, p1, p2, p3, p4, p5, p6, p7, p8, p9, p10, p11⟩ := hp6'
  go_wp2_with (go_at_call 13; refine (num_id _ _).mono ?_; rintro e wn ⟨rfl, hwn⟩; subst wn)
  clear p0 p1 p2 p3 p4 p5 p6 p7 p8 p9 p10 p11 hrr
  refine (told_any y bo m d lo ln lc _ (hD2.below hB6 (Nat.le_refl _)) (by omega) (hN.below hB6 (Nat.le_refl _)) HEL.out (by omega)).mono ?_
  rintro e w7 ⟨g7, c7, h7, hc7, rfl, hF7, hG7, hb7⟩
  have hbx := newBox w7 (.cells #[.int .i64 y.client, .int .i64 y.seq, .int .i64 y.epoch, .int .i64 y.op, .int .i64 y.status, .int .i64 y.ai, .int .i64 y.ak, .int .i64 y.az, .int .i64 y.ac, .slice (some ⟨g7, 0, none⟩) m c7, .slice (some ⟨h7, 0, none⟩) ln hc7, .bool y.more] 30)
  have hx7 := RpBox.new w7 y (some ⟨g7, 0, none⟩) m c7 (some ⟨h7, 0, none⟩) ln hc7
  have hb7x := hb7.trans (hbx.mono hb7.size)
  have hp7 := RpBox.later hp6 hb7x (Nat.le_refl _)
  have hB7 := hB6.trans (hb7x.mono hB6.size)
  have hcap7 := own_cap hF7
  have hcapE := own_cap hG7
  have hL7 := (Lies.owned hF7).below hbx (Nat.le_refl _)
  have hP7 := hL7.pre (k := m) (by omega)
  rw [List.take_left' (hD2.hlen)] at hP7
  have hM7 := (CLies.owned hG7).below hbx (Nat.le_refl _)
  have hQ7 := hM7.ents (l := y.list) (k := ln) HEL.out (by omega)
  clear hp6 hb7 hB6 hF7 hG7 hb7x hbx
  have hx7' := hx7
  obtain ⟨p0, p1, p2, p3, p4, p5, p6, p7, p8, p9, p10, p11⟩ := hx7'
  go_wp2_with fail
  clear p0 p1 p2 p3 p4 p5 p6 p7 p8 p9 p10 p11 hx7
  generalize w7.alloc (.cells #[.int .i64 y.client, .int .i64 y.seq, .int .i64 y.epoch, .int .i64 y.op, .int .i64 y.status, .int .i64 y.ai, .int .i64 y.ak, .int .i64 y.az, .int .i64 y.ac, .slice (some ⟨g7, 0, none⟩) m c7, .slice (some ⟨h7, 0, none⟩) ln hc7, .bool y.more] 30) = w7 at *
  refine (checkReply_any y _ m c7 _ ln hc7 _ hP7 hQ7 HEL.out).mono ?_
  rintro e w8 ⟨rfl, hb8⟩
  have hp8 := RpBox.later hp7 hb8 (Nat.le_refl _)
  have hB8 := hB7.trans (hb8.mono hB7.size)
  have hL8 := hL7.below hb8 (Nat.le_refl _)
  have hM8 := hM7.below hb8 (Nat.le_refl _)
  clear hp7 hB7 hb8 hL7 hM7 hP7 hQ7
  have hp8' := hp8
  obtain ⟨p0, p1, p2, p3, p4, p5, p6, p7, p8, p9, p10, p11⟩ := hp8'
  go_wp2_with fail
  clear p0 p1 p2 p3 p4 p5 p6 p7 p8 p9 p10 p11
  refine (rcheckRp_any y bo m d lo ln lc _ hD2.hlen (hN.below hB8 (Nat.le_refl _)) HEL.out).mono ?_
  rintro e w9 ⟨rfl, hb9⟩
  have hp9 := RpBox.later hp8 hb9 (Nat.le_refl _)
  have hB9 := hB8.trans (hb9.mono hB8.size)
  have hL9 := hL8.below hb9 (Nat.le_refl _)
  have hM9 := hM8.below hb9 (Nat.le_refl _)
  clear hp8 hB8 hb9 hL8 hM8
  obtain ⟨p0, p1, p2, p3, p4, p5, p6, p7, p8, p9, p10, p11⟩ := hp9
  go_wp2_with fail
  clear p0 p1 p2 p3 p4 p5 p6 p7 p8 p9 p10 p11
  refine (kept_true y bo m d lo ln lc _ c7 _ hc7 _ (hD2.below hB9 (Nat.le_refl _)) (by omega) (hN.below hB9 (Nat.le_refl _)) HEL.out (by omega) hL9 hM9).mono ?_
  rintro e w10 ⟨rfl, hb10⟩
  have hB10 := hB9.trans (hb10.mono hB9.size)
  have hyy : (rpE y == rpE y) = true := by simp
  generalize rpE y = E9 at *
  go_wp2_with (go_at_call 13; refine (num_id _ _).mono ?_; rintro e wn ⟨rfl, hwn⟩; subst wn)
  go_ret
  exact ⟨rfl, hB10⟩
end Go.Proofs.YtdkcplndplhblaaGreatDoor
