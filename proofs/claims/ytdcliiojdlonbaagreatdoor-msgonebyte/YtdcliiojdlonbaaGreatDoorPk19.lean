/- SameEntries and SameReply of any two. -/
import Derived.Test.YtdcliiojdlonbaaGreatDoorPk18
namespace Go.Proofs.YtdcliiojdlonbaaGreatDoor
open Go.RowKit
set_option maxRecDepth 100000

set_option maxHeartbeats 4000000 in
theorem sameEnts_any (l q : List Ent) (ao : Option Addr) (n c : Nat) (bo : Option Addr) (m bc : Nat) (w : World) (hA : CLies w ao n c 3 (entCells l)) (hB : CLies w bo m bc 3 (entCells q)) (hl : l.length = n) (hq : q.length = m) (hn : n ≤ 200000000000000) :
    Calls Tryz.prog 38 #[.slice ao n c, .slice bo m bc] w fun e w' => ∃ t, e = .returned (.bool t) ∧ (t = true ↔ l = q) ∧ Below w.heap.size w w' := by
  have hni : (n : Int) ≤ 200000000000000 := by omega
  by_cases hnm : n = m
  case neg =>
    have h : ((n : Int) != (m : Int)) = true := by simp; omega
    go_enter Tryz.func38, Tryz.ntmps38
    go_wp2
    go_ret
    exact ⟨false, rfl, ⟨fun h => by (cases h), fun h => absurd (by rw [← hl, ← hq, h]) hnm⟩, Below.refl _ _⟩
  subst hnm
  go_enter Tryz.func38, Tryz.ntmps38
  go_wp2
  go_loopw [5] (fun i wr => ∃ k : Nat, k ≤ n ∧ i = .int .i64 k ∧ l.take k = q.take k ∧ Below w.heap.size w wr) (fun i _ => n - (intOf i).toNat)
  case atStart => exact ⟨0, Nat.zero_le _, rfl, by simp, Below.refl _ _⟩
  case round =>
    obtain ⟨k, hk, rfl, htk, hb⟩ := hrel
    have HT : Hid (l.take k = q.take k) := htk
    clear htk
    by_cases hlt : k < n
    · have hki : decide ((k : Int) < (n : Int)) = true := by simpa using hlt
      have hkl : k < l.length := by omega
      have hkq : k < q.length := by omega
      obtain ⟨b1, o1, rfl, _, p0, p1, p2⟩ := ents_at hA hkl
      obtain ⟨b2, o2, rfl, _, q0, q1, q2⟩ := ents_at hB hkq
      have p0 := cell_later hb p0 (Nat.le_refl _)
      have p1 := cell_later hb p1 (Nat.le_refl _)
      have p2 := cell_later hb p2 (Nat.le_refl _)
      have q0 := cell_later hb q0 (Nat.le_refl _)
      have q1 := cell_later hb q1 (Nat.le_refl _)
      have q2 := cell_later hb q2 (Nat.le_refl _)
      clear hA hB
      have HX : Hid (l[k]? = some l[k]) := by show l[k]? = some l[k]; simp [hkl]
      have HY : Hid (q[k]? = some q[k]) := by show q[k]? = some q[k]; simp [hkq]
      have HS : Hid (l[k] = q[k] → l.take (k + 1) = q.take (k + 1)) := fun h => by
        rw [List.take_succ_eq_append_getElem hkl, List.take_succ_eq_append_getElem hkq, h, HT.out]
      generalize l[k] = x at *
      generalize q[k] = y at *
      obtain ⟨nm, id, kd⟩ := x
      obtain ⟨nm', id', kd'⟩ := y
      simp only at p0 p1 p2 q0 q1 q2
      by_cases h1 : nm = nm'
      case neg =>
        have NE : ¬ (some (⟨nm', id', kd'⟩ : Ent) = some ⟨nm, id, kd⟩) := fun h => by (cases h; exact h1 rfl)
        have hx := str_ne h1
        have hx2 : (nm.toList != nm'.toList) = true := by simp [bne, hx]
        go_wp2
        go_quiet (fail)
        go_wp2
        go_ret
        exact ⟨false, rfl, ⟨fun h => by (cases h), fun h => absurd (by subst h; rw [HX.out] at HY; exact HY.out.symm) NE⟩, below_drewN hb _⟩
      subst h1
      by_cases h2 : id = id'
      case neg =>
        have NE : ¬ (some (⟨nm, id', kd'⟩ : Ent) = some ⟨nm, id, kd⟩) := fun h => by (cases h; exact h2 rfl)
        have hx := int_ne h2
        have hx2 : (id != id') = true := by simp [bne, hx]
        go_wp2
        go_quiet (fail)
        go_wp2
        go_ret
        exact ⟨false, rfl, ⟨fun h => by (cases h), fun h => absurd (by subst h; rw [HX.out] at HY; exact HY.out.symm) NE⟩, below_drewN hb _⟩
      subst h2
      by_cases h3 : kd = kd'
      case neg =>
        have NE : ¬ (some (⟨nm, id, kd'⟩ : Ent) = some ⟨nm, id, kd⟩) := fun h => by (cases h; exact h3 rfl)
        have hx := int_ne h3
        have hx2 : (kd != kd') = true := by simp [bne, hx]
        go_wp2
        go_quiet (fail)
        go_wp2
        go_ret
        exact ⟨false, rfl, ⟨fun h => by (cases h), fun h => absurd (by subst h; rw [HX.out] at HY; exact HY.out.symm) NE⟩, below_drewN hb _⟩
      subst h3
      go_wp2
      go_quiet (fail)
      go_wp2
      go_roundw
      case rel => exact ⟨k + 1, by omega, by go_num, HS.out trivial, below_drewN hb _⟩
      case measure => simp [intOf]; omega
    · clear hA hB
      have hki : decide ((k : Int) < (n : Int)) = false := by simp; omega
      go_wp2
      go_ret
      refine ⟨true, rfl, ⟨fun _ => ?_, fun _ => rfl⟩, hb⟩
      have := HT.out
      rwa [List.take_of_length_le (by omega), List.take_of_length_le (by omega)] at this

set_option maxHeartbeats 8000000 in
theorem sameRp_any (r q : Rep) (ao : Option Addr) (n c : Nat) (lo : Option Addr) (ln lc : Nat) (bo : Option Addr) (m d : Nat) (mo : Option Addr) (mn mc : Nat) (w : World) (hn : n ≤ 200000000000000) (hln : ln ≤ 200000000000000) (hA : Lies w ao n c r.data) (hB : Lies w bo m d q.data) (hC : CLies w lo ln lc 3 (entCells r.list)) (hD : CLies w mo mn mc 3 (entCells q.list)) (hl : r.list.length = ln) (hl2 : q.list.length = mn) :
    Calls Tryz.prog 15 #[rpV r ao n c lo ln lc, rpV q bo m d mo mn mc] w fun e w' => ∃ t, e = .returned (.bool t) ∧ (t = true ↔ r = q) ∧ Below w.heap.size w w' := by
  have HL : Hid (r.list.length = ln) := hl
  have HL2 : Hid (q.list.length = mn) := hl2
  clear hl hl2
  have hA0 := RpBox.new w r ao n c lo ln lc
  go_enter Tryz.func15, Tryz.ntmps15
  go_wp2_with fail
  refine (same_any ao bo n m c d r.data q.data _ hn ((hA.boxed _).boxed _) ((hB.boxed _).boxed _)).mono ?_
  rintro e w1 ⟨rfl, mm, hw1⟩
  have hb1 : Below ((w.alloc (.cells #[.int .i64 r.client, .int .i64 r.seq, .int .i64 r.epoch, .int .i64 r.op, .int .i64 r.status, .int .i64 r.ai, .int .i64 r.ak, .int .i64 r.az, .int .i64 r.ac, .slice ao n c, .slice lo ln lc, .bool r.more] 30)).alloc (.cells #[.int .i64 q.client, .int .i64 q.seq, .int .i64 q.epoch, .int .i64 q.op, .int .i64 q.status, .int .i64 q.ai, .int .i64 q.ak, .int .i64 q.az, .int .i64 q.ac, .slice bo m d, .slice mo mn mc, .bool q.more] 30)).heap.size ((w.alloc (.cells #[.int .i64 r.client, .int .i64 r.seq, .int .i64 r.epoch, .int .i64 r.op, .int .i64 r.status, .int .i64 r.ai, .int .i64 r.ak, .int .i64 r.az, .int .i64 r.ac, .slice ao n c, .slice lo ln lc, .bool r.more] 30)).alloc (.cells #[.int .i64 q.client, .int .i64 q.seq, .int .i64 q.epoch, .int .i64 q.op, .int .i64 q.status, .int .i64 q.ai, .int .i64 q.ak, .int .i64 q.az, .int .i64 q.ac, .slice bo m d, .slice mo mn mc, .bool q.more] 30)) w1 := by
    rw [hw1]; exact below_drewN (Below.refl _ _) mm
  clear hw1
  have hA1 := RpBox.later (RpBox.later hA0 (newBox _ _) (Nat.le_refl _)) hb1 (Nat.le_refl _)
  have hB1 : RpBox w1 (w.heap.size + 1) q bo m d mo mn mc := by
    have z := RpBox.later (RpBox.new (w.alloc (.cells #[.int .i64 r.client, .int .i64 r.seq, .int .i64 r.epoch, .int .i64 r.op, .int .i64 r.status, .int .i64 r.ai, .int .i64 r.ak, .int .i64 r.az, .int .i64 r.ac, .slice ao n c, .slice lo ln lc, .bool r.more] 30)) q bo m d mo mn mc) hb1 (Nat.le_refl _)
    rw [show (w.alloc (.cells #[.int .i64 r.client, .int .i64 r.seq, .int .i64 r.epoch, .int .i64 r.op, .int .i64 r.status, .int .i64 r.ai, .int .i64 r.ak, .int .i64 r.az, .int .i64 r.ac, .slice ao n c, .slice lo ln lc, .bool r.more] 30)).heap.size = w.heap.size + 1 by simp] at z
    exact z
  have hq1 : Below w.heap.size w w1 := (box2 w _ _).trans (hb1.mono (by simp; omega))
  have hC1 := hC.below hq1 (Nat.le_refl _)
  have hD1 := hD.below hq1 (Nat.le_refl _)
  have hA1' := hA1
  have hB1' := hB1
  obtain ⟨a0, a1, a2, a3, a4, a5, a6, a7, a8, a9, a10, a11⟩ := hA1
  obtain ⟨b0, b1, b2, b3, b4, b5, b6, b7, b8, b9, b10, b11⟩ := hB1
  clear hA0 hb1 hA hB hC hD
  go_wp2_with fail
  clear a0 a1 a2 a3 a4 a5 a6 a7 a8 a9 a10 a11 b0 b1 b2 b3 b4 b5 b6 b7 b8 b9 b10 b11
  refine (sameEnts_any r.list q.list lo ln lc mo mn mc _ hC1 hD1 HL.out HL2.out hln).mono ?_
  rintro e w2 ⟨tl, rfl, htl, hb2⟩
  have HTL : Hid (tl = true ↔ r.list = q.list) := htl
  clear htl
  have hA2 := RpBox.later hA1' hb2 (Nat.le_refl _)
  have hB2 := RpBox.later hB1' hb2 (Nat.le_refl _)
  have hq2 := hq1.trans (hb2.mono hq1.size)
  have hA2' := hA2
  have hB2' := hB2
  obtain ⟨a0, a1, a2, a3, a4, a5, a6, a7, a8, a9, a10, a11⟩ := hA2
  obtain ⟨b0, b1, b2, b3, b4, b5, b6, b7, b8, b9, b10, b11⟩ := hB2
  clear hA1' hB1' hC1 hD1 hb2
  go_wp2_with fail
  clear a0 a1 a2 a3 a4 a5 a6 a7 a8 a9 a10 a11 b0 b1 b2 b3 b4 b5 b6 b7 b8 b9 b10 b11
  refine (sameAttr_any r.ai r.ak r.az r.ac q.ai q.ak q.az q.ac _).mono ?_
  rintro e w3 ⟨rfl, hb3⟩
  have hA3 := RpBox.later hA2' hb3 (Nat.le_refl _)
  have hB3 := RpBox.later hB2' hb3 (Nat.le_refl _)
  have hq3 := hq2.trans (hb3.mono hq2.size)
  obtain ⟨a0, a1, a2, a3, a4, a5, a6, a7, a8, a9, a10, a11⟩ := hA3
  obtain ⟨b0, b1, b2, b3, b4, b5, b6, b7, b8, b9, b10, b11⟩ := hB3
  clear hA2' hB2' hb3
  have HNO : ∀ (f : r ≠ q), (false = true ↔ r = q) := fun f => ⟨fun h => by (cases h), fun h => absurd h f⟩
  by_cases hdat : r.data = q.data
  case neg =>
    rw [decide_eq_false hdat]
    generalize decide (r.ai = q.ai ∧ r.ak = q.ak ∧ r.az = q.az ∧ r.ac = q.ac) = T
    go_wp2_with fail
    go_quiet (first | (go_at_call 40; refine (rnum_id _ _).mono ?_; rintro e w4 ⟨rfl, rfl⟩; exact ⟨rfl, _, rfl⟩))
    go_wp2
    go_ret
    exact ⟨false, rfl, HNO (fun h => hdat (by rw [h])), below_drewN hq3 _⟩
  rw [decide_eq_true hdat]
  cases tl with
  | false =>
    generalize decide (r.ai = q.ai ∧ r.ak = q.ak ∧ r.az = q.az ∧ r.ac = q.ac) = T
    go_wp2_with fail
    go_quiet (first | (go_at_call 40; refine (rnum_id _ _).mono ?_; rintro e w4 ⟨rfl, rfl⟩; exact ⟨rfl, _, rfl⟩))
    go_wp2
    go_ret
    exact ⟨false, rfl, HNO (fun h => by (have z := HTL.out.2 (by rw [h]); cases z)), below_drewN hq3 _⟩
  | true =>
  have hlist := HTL.out.1 rfl
  by_cases hat : r.ai = q.ai ∧ r.ak = q.ak ∧ r.az = q.az ∧ r.ac = q.ac
  case neg =>
    rw [decide_eq_false hat]
    go_wp2_with fail
    go_quiet (first | (go_at_call 40; refine (rnum_id _ _).mono ?_; rintro e w4 ⟨rfl, rfl⟩; exact ⟨rfl, _, rfl⟩))
    go_wp2
    go_ret
    exact ⟨false, rfl, HNO (fun h => hat (by rw [h]; exact ⟨rfl, rfl, rfl, rfl⟩)), below_drewN hq3 _⟩
  rw [decide_eq_true hat]
  by_cases h_client : r.client = q.client
  case neg =>
    have hx := int_ne h_client
    go_wp2_with fail
    go_quiet (first | (go_at_call 40; refine (rnum_id _ _).mono ?_; rintro e w4 ⟨rfl, rfl⟩; exact ⟨rfl, _, rfl⟩))
    go_wp2
    go_ret
    exact ⟨false, rfl, HNO (fun h => h_client (by rw [h])), below_drewN hq3 _⟩
  have e_client : (r.client == q.client) = true := by simpa using h_client
  by_cases h_seq : r.seq = q.seq
  case neg =>
    have hx := int_ne h_seq
    go_wp2_with fail
    go_quiet (first | (go_at_call 40; refine (rnum_id _ _).mono ?_; rintro e w4 ⟨rfl, rfl⟩; exact ⟨rfl, _, rfl⟩))
    go_wp2
    go_ret
    exact ⟨false, rfl, HNO (fun h => h_seq (by rw [h])), below_drewN hq3 _⟩
  have e_seq : (r.seq == q.seq) = true := by simpa using h_seq
  by_cases h_epoch : r.epoch = q.epoch
  case neg =>
    have hx := int_ne h_epoch
    go_wp2_with fail
    go_quiet (first | (go_at_call 40; refine (rnum_id _ _).mono ?_; rintro e w4 ⟨rfl, rfl⟩; exact ⟨rfl, _, rfl⟩))
    go_wp2
    go_ret
    exact ⟨false, rfl, HNO (fun h => h_epoch (by rw [h])), below_drewN hq3 _⟩
  have e_epoch : (r.epoch == q.epoch) = true := by simpa using h_epoch
  by_cases h_op : r.op = q.op
  case neg =>
    have hx := int_ne h_op
    go_wp2_with fail
    go_quiet (first | (go_at_call 40; refine (rnum_id _ _).mono ?_; rintro e w4 ⟨rfl, rfl⟩; exact ⟨rfl, _, rfl⟩))
    go_wp2
    go_ret
    exact ⟨false, rfl, HNO (fun h => h_op (by rw [h])), below_drewN hq3 _⟩
  have e_op : (r.op == q.op) = true := by simpa using h_op
  by_cases h_status : r.status = q.status
  case neg =>
    have hx := int_ne h_status
    go_wp2_with fail
    go_quiet (first | (go_at_call 40; refine (rnum_id _ _).mono ?_; rintro e w4 ⟨rfl, rfl⟩; exact ⟨rfl, _, rfl⟩))
    go_wp2
    go_ret
    exact ⟨false, rfl, HNO (fun h => h_status (by rw [h])), below_drewN hq3 _⟩
  have e_status : (r.status == q.status) = true := by simpa using h_status
  by_cases h_more : r.more = q.more
  case neg =>
    have hx : (r.more == q.more) = false := by simpa using h_more
    go_wp2_with fail
    go_quiet (first | (go_at_call 40; refine (rnum_id _ _).mono ?_; rintro e w4 ⟨rfl, rfl⟩; exact ⟨rfl, _, rfl⟩))
    go_wp2
    go_ret
    exact ⟨false, rfl, HNO (fun h => h_more (by rw [h])), below_drewN hq3 _⟩
  have e_more : (r.more == q.more) = true := by simpa using h_more
  go_wp2_with fail
  go_quiet (first | (go_at_call 40; refine (rnum_id _ _).mono ?_; rintro e w4 ⟨rfl, rfl⟩; exact ⟨rfl, _, rfl⟩))
  go_wp2
  go_ret
  refine ⟨true, by simp, ⟨fun _ => ?_, fun _ => rfl⟩, below_drewN hq3 _⟩
  obtain ⟨h_ai, h_ak, h_az, h_ac⟩ := hat
  obtain ⟨x_client, x_seq, x_epoch, x_op, x_status, x_ai, x_ak, x_az, x_ac, x_data, x_list, x_more⟩ := r
  obtain ⟨y_client, y_seq, y_epoch, y_op, y_status, y_ai, y_ak, y_az, y_ac, y_data, y_list, y_more⟩ := q
  simp only at *
  simp only [h_client, h_seq, h_epoch, h_op, h_status, h_ai, h_ak, h_az, h_ac, hdat, hlist, h_more]
end Go.Proofs.YtdcliiojdlonbaaGreatDoor
