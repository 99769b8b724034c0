/- SameEntries and SameReply of any two. -/
import Derived.Test.YtdkcplndplhblaaGreatDoorPk15
import Derived.Test.YtdkcplndplhblaaGreatDoorPk14
import Derived.Deep.DeepAppendWide
namespace Go.Proofs.YtdkcplndplhblaaGreatDoor
open Go.RowKit
set_option maxRecDepth 100000

set_option maxHeartbeats 4000000 in
theorem sameEnts_any (l q : List Ent) (ao : Option Addr) (n c : Nat) (bo : Option Addr) (m bc : Nat) (w : World) (hA : CLies w ao n c 3 (entCells l)) (hB : CLies w bo m bc 3 (entCells q)) (hl : l.length = n) (hq : q.length = m) (hn : n ≤ 200000000000000) :
    Calls Tryz.prog 47 #[.slice ao n c, .slice bo m bc] w fun e w' => ∃ t, e = .returned (.bool t) ∧ (t = true ↔ l = q) ∧ Below w.heap.size w w' := by
  have hni : (n : Int) ≤ 200000000000000 := by omega
  by_cases hnm : n = m
  case neg =>
    have h : ((n : Int) != (m : Int)) = true := by simp; omega
    go_enter Tryz.func47, Tryz.ntmps47
    go_wp2
    go_ret
    exact ⟨false, rfl, ⟨fun h => by (cases h), fun h => absurd (by rw [← hl, ← hq, h]) hnm⟩, Below.refl _ _⟩
  subst hnm
  go_enter Tryz.func47, Tryz.ntmps47
  go_wp2
  go_loopw [5] (fun i wr => ∃ k : Nat, k ≤ n ∧ i = .int .i64 k ∧ l.take k = q.take k ∧ Below w.heap.size w wr) (fun i _ => n - (intOf i).toNat)
  case atStart => exact ⟨0, Nat.zero_le _, rfl, by simp, Below.refl _ _⟩
  case round =>
    obtain ⟨k, hk, rfl, htk, hb⟩ := hrel
    have HT : Hid (l.take k = q.take k) := htk
    clear htk
    by_cases hlt : k < n
    · have hki : decide ((k : Int) < (n : Int)) = true := by simpa using hlt
      have hkl : k < l.length := by omega
      have hkq : k < q.length := by omega
      obtain ⟨b1, o1, rfl, _, p0, p1, p2⟩ := ents_at hA hkl
      obtain ⟨b2, o2, rfl, _, q0, q1, q2⟩ := ents_at hB hkq
      have p0 := cell_later hb p0 (Nat.le_refl _)
      have p1 := cell_later hb p1 (Nat.le_refl _)
      have p2 := cell_later hb p2 (Nat.le_refl _)
      have q0 := cell_later hb q0 (Nat.le_refl _)
      have q1 := cell_later hb q1 (Nat.le_refl _)
      have q2 := cell_later hb q2 (Nat.le_refl _)
      clear hA hB
      have HX : Hid (l[k]? = some l[k]) := by show l[k]? = some l[k]; simp [hkl]
      have HY : Hid (q[k]? = some q[k]) := by show q[k]? = some q[k]; simp [hkq]
      have HS : Hid (l[k] = q[k] → l.take (k + 1) = q.take (k + 1)) := fun h => by
        rw [List.take_succ_eq_append_getElem hkl, List.take_succ_eq_append_getElem hkq, h, HT.out]
      generalize l[k] = x at *
      generalize q[k] = y at *
      obtain ⟨nm, id, kd⟩ := x
      obtain ⟨nm', id', kd'⟩ := y
      simp only at p0 p1 p2 q0 q1 q2
      by_cases h1 : nm = nm'
      case neg =>
        have NE : ¬ (some (⟨nm', id', kd'⟩ : Ent) = some ⟨nm, id, kd⟩) := fun h => by (cases h; exact h1 rfl)
        have hx := str_ne h1
        have hx2 : (nm.toList != nm'.toList) = true := by simp [bne, hx]
        go_wp2
        go_quiet (fail)
        go_wp2
        go_ret
        exact ⟨false, rfl, ⟨fun h => by (cases h), fun h => absurd (by subst h; rw [HX.out] at HY; exact HY.out.symm) NE⟩, below_drewN hb _⟩
      subst h1
      by_cases h2 : id = id'
      case neg =>
        have NE : ¬ (some (⟨nm, id', kd'⟩ : Ent) = some ⟨nm, id, kd⟩) := fun h => by (cases h; exact h2 rfl)
        have hx := int_ne h2
        have hx2 : (id != id') = true := by simp [bne, hx]
        go_wp2
        go_quiet (fail)
        go_wp2
        go_ret
        exact ⟨false, rfl, ⟨fun h => by (cases h), fun h => absurd (by subst h; rw [HX.out] at HY; exact HY.out.symm) NE⟩, below_drewN hb _⟩
      subst h2
      by_cases h3 : kd = kd'
      case neg =>
        have NE : ¬ (some (⟨nm, id, kd'⟩ : Ent) = some ⟨nm, id, kd⟩) := fun h => by (cases h; exact h3 rfl)
        have hx := int_ne h3
        have hx2 : (kd != kd') = true := by simp [bne, hx]
        go_wp2
        go_quiet (fail)
        go_wp2
        go_ret
        exact ⟨false, rfl, ⟨fun h => by (cases h), fun h => absurd (by subst h; rw [HX.out] at HY; exact HY.out.symm) NE⟩, below_drewN hb _⟩
      subst h3
      go_wp2
      go_quiet (fail)
      go_wp2
      go_roundw
      case rel => exact ⟨k + 1, by omega, by go_num, HS.out trivial, below_drewN hb _⟩
      case measure => simp [intOf]; omega
    · clear hA hB
      have hki : decide ((k : Int) < (n : Int)) = false := by simp; omega
      go_wp2
      go_ret
      refine ⟨true, rfl, ⟨fun _ => ?_, fun _ => rfl⟩, hb⟩
      have := HT.out
      rwa [List.take_of_length_le (by omega), List.take_of_length_le (by omega)] at this

set_option maxHeartbeats 8000000 in
theorem sameRp_any (r q : Rep) (ao : Option Addr) (n c : Nat) (lo : Option Addr) (ln lc : Nat) (bo : Option Addr) (m d : Nat) (mo : Option Addr) (mn mc : Nat) (w : World) (hn : n ≤ 200000000000000) (hln : ln ≤ 200000000000000) (hA : Lies w ao n c r.data) (hB : Lies w bo m d q.data) (hC : CLies w lo ln lc 3 (entCells r.list)) (hD : CLies w mo mn mc 3 (entCells q.list)) (hl : r.list.length = ln) (hl2 : q.list.length = mn) :
    Calls Tryz.prog 32 #[rpV r ao n c lo ln lc, rpV q bo m d mo mn mc] w fun e w' => ∃ t, e = .returned (.bool t) ∧ (t = true ↔ r = q) ∧ Below w.heap.size w w' := by
  have HL : Hid (r.list.length = ln) := hl
  have HL2 : Hid (q.list.length = mn) := hl2
  clear hl hl2
  have hA0 := RpBox.new w r ao n c lo ln lc
  go_enter Tryz.func32, Tryz.ntmps32
  go_wp2_with fail
  refine (same_any ao bo n m c d r.data q.data _ hn ((hA.boxed _).boxed _) ((hB.boxed _).boxed _)).mono ?_
  rintro e w1 ⟨rfl, mm, hw1⟩
  have hb1 : Below ((w.alloc (.cells #[.int .i64 r.client, .int .i64 r.seq, .int .i64 r.epoch, .int .i64 r.op, .int .i64 r.status, .int .i64 r.ai, .int .i64 r.ak, .int .i64 r.az, .int .i64 r.ac, .slice ao n c, .slice lo ln lc, .bool r.more] 30)).alloc (.cells #[.int .i64 q.client, .int .i64 q.seq, .int .i64 q.epoch, .int .i64 q.op, .int .i64 q.status, .int .i64 q.ai, .int .i64 q.ak, .int .i64 q.az, .int .i64 q.ac, .slice bo m d, .slice mo mn mc, .bool q.more] 30)).heap.size ((w.alloc (.cells #[.int .i64 r.client, .int .i64 r.seq, .int .i64 r.epoch, .int .i64 r.op, .int .i64 r.status, .int .i64 r.ai, .int .i64 r.ak, .int .i64 r.az, .int .i64 r.ac, .slice ao n c, .slice lo ln lc, .bool r.more] 30)).alloc (.cells #[.int .i64 q.client, .int .i64 q.seq, .int .i64 q.epoch, .int .i64 q.op, .int .i64 q.status, .int .i64 q.ai, .int .i64 q.ak, .int .i64 q.az, .int .i64 q.ac, .slice bo m d, .slice mo mn mc, .bool q.more] 30)) w1 := by
    rw [hw1]; exact below_drewN (Below.refl _ _) mm
  clear hw1
  have hA1 := RpBox.later (RpBox.later hA0 (newBox _ _) (Nat.le_refl _)) hb1 (Nat.le_refl _)
  have hB1 : RpBox w1 (w.heap.size + 1) q bo m d mo mn mc := by
    have z := RpBox.later (RpBox.new (w.alloc (.cells #[.int .i64 r.client, .int .i64 r.seq, .int .i64 r.epoch, .int .i64 r.op, .int .i64 r.status, .int .i64 r.ai, .int .i64 r.ak, .int .i64 r.az, .int .i64 r.ac, .slice ao n c, .slice lo ln lc, .bool r.more] 30)) q bo m d mo mn mc) hb1 (Nat.le_refl _)
    rw [show (w.alloc (.cells #[.int .i64 r.client, .int .i64 r.seq, .int .i64 r.epoch, .int .i64 r.op, .int .i64 r.status, .int .i64 r.ai, .int .i64 r.ak, .int .i64 r.az, .int .i64 r.ac, .slice ao n c, .slice lo ln lc, .bool r.more] 30)).heap.size = w.heap.size + 1 by simp] at z
    exact z
  have hq1 : Below w.heap.size w w1 := (box2 w _ _).trans (hb1.mono (by simp; omega))
  have hC1 := hC.below hq1 (Nat.le_refl _)
  have hD1 := hD.below hq1 (Nat.le_refl _)
  have hA1' := hA1
  have hB1' := hB1
  obtain ⟨a0, a1, a2, a3, a4, a5, a6, a7, a8, a9, a10, a11⟩ := hA1
  obtain ⟨b0, b1, b2, b3, b4, b5, b6, b7, b8, b9, b10, b11⟩ := hB1
  clear hA0 hb1 hA hB hC hD
  go_wp2_with fail
  clear a0 a1 a2 a3 a4 a5 a6 a7 a8 a9 a10 a11 b0 b1 b2 b3 b4 b5 b6 b7 b8 b9 b10 b11
  refine (sameEnts_any r.list q.list lo ln lc mo mn mc _ hC1 hD1 HL.out HL2.out hln).mono ?_
  rintro e w2 ⟨tl, rfl, htl, hb2⟩
  have HTL : Hid (tl = true ↔ r.list = q.list) := htl
  clear htl
  have hA2 := RpBox.later hA1' hb2 (Nat.le_refl _)
  have hB2 := RpBox.later hB1' hb2 (Nat.le_refl _)
  have hq2 := hq1.trans (hb2.mono hq1.size)
  have hA2' := hA2
  have hB2' := hB2
  obtain ⟨a0, a1, a2, a3, a4, a5, a6, a7, a8, a9, a10, a11⟩ := hA2
  obtain ⟨b0, b1, b2, b3, b4, b5, b6, b7, b8, b9, b10, b11⟩ := hB2
  clear hA1' hB1' hC1 hD1 hb2
  go_wp2_with fail
  clear a0 a1 a2 a3 a4 a5 a6 a7 a8 a9 a10 a11 b0 b1 b2 b3 b4 b5 b6 b7 b8 b9 b10 b11
  refine (sameAttr_any r.ai r.ak r.az r.ac q.ai q.ak q.az q.ac _).mono ?_
  rintro e w3 ⟨rfl, hb3⟩
  have hA3 := RpBox.later hA2' hb3 (Nat.le_refl _)
  have hB3 := RpBox.later hB2' hb3 (Nat.le_refl _)
  have hq3 := hq2.trans (hb3.mono hq2.size)
  obtain ⟨a0, a1, a2, a3, a4, a5, a6, a7, a8, a9, a10, a11⟩ := hA3
  obtain ⟨b0, b1, b2, b3, b4, b5, b6, b7, b8, b9, b10, b11⟩ := hB3
  clear hA2' hB2' hb3
  have HNO : ∀ (f : r ≠ q), (false = true ↔ r = q) := fun f => ⟨fun h => by (cases h), fun h => absurd h f⟩
  by_cases hdat : r.data = q.data
  case neg =>
    rw [decide_eq_false hdat]
    generalize decide (r.ai = q.ai ∧ r.ak = q.ak ∧ r.az = q.az ∧ r.ac = q.ac) = T
    go_wp2_with fail
    go_quiet (first | (go_at_call 76; refine (rnum_id _ _).mono ?_; rintro e w4 ⟨rfl, rfl⟩; exact ⟨rfl, _, rfl⟩))
    go_wp2
    go_ret
    exact ⟨false, rfl, HNO (fun h => hdat (by rw [h])), below_drewN hq3 _⟩
  rw [decide_eq_true hdat]
  cases tl with
  | false =>
    generalize decide (r.ai = q.ai ∧ r.ak = q.ak ∧ r.az = q.az ∧ r.ac = q.ac) = T
    go_wp2_with fail
    go_quiet (first | (go_at_call 76; refine (rnum_id _ _).mono ?_; rintro e w4 ⟨rfl, rfl⟩; exact ⟨rfl, _, rfl⟩))
    go_wp2
    go_ret
    exact ⟨false, rfl, HNO (fun h => by (have z := HTL.out.2 (by rw [h]); cases z)), below_drewN hq3 _⟩
  | true =>
  have hlist := HTL.out.1 rfl
  by_cases hat : r.ai = q.ai ∧ r.ak = q.ak ∧ r.az = q.az ∧ r.ac = q.ac
  case neg =>
    rw [decide_eq_false hat]
    go_wp2_with fail
    go_quiet (first | (go_at_call 76; refine (rnum_id _ _).mono ?_; rintro e w4 ⟨rfl, rfl⟩; exact ⟨rfl, _, rfl⟩))
    go_wp2
    go_ret
    exact ⟨false, rfl, HNO (fun h => hat (by rw [h]; exact ⟨rfl, rfl, rfl, rfl⟩)), below_drewN hq3 _⟩
  rw [decide_eq_true hat]
  by_cases h_client : r.client = q.client
  case neg =>
    have hx := int_ne h_client
    go_wp2_with fail
    go_quiet (first | (go_at_call 76; refine (rnum_id _ _).mono ?_; rintro e w4 ⟨rfl, rfl⟩; exact ⟨rfl, _, rfl⟩))
    go_wp2
    go_ret
    exact ⟨false, rfl, HNO (fun h => h_client (by rw [h])), below_drewN hq3 _⟩
  have e_client : (r.client == q.client) = true := by simpa using h_client
  by_cases h_seq : r.seq = q.seq
  case neg =>
    have hx := int_ne h_seq
    go_wp2_with fail
    go_quiet (first | (go_at_call 76; refine (rnum_id _ _).mono ?_; rintro e w4 ⟨rfl, rfl⟩; exact ⟨rfl, _, rfl⟩))
    go_wp2
    go_ret
    exact ⟨false, rfl, HNO (fun h => h_seq (by rw [h])), below_drewN hq3 _⟩
  have e_seq : (r.seq == q.seq) = true := by simpa using h_seq
  by_cases h_epoch : r.epoch = q.epoch
  case neg =>
    have hx := int_ne h_epoch
    go_wp2_with fail
    go_quiet (first | (go_at_call 76; refine (rnum_id _ _).mono ?_; rintro e w4 ⟨rfl, rfl⟩; exact ⟨rfl, _, rfl⟩))
    go_wp2
    go_ret
    exact ⟨false, rfl, HNO (fun h => h_epoch (by rw [h])), below_drewN hq3 _⟩
  have e_epoch : (r.epoch == q.epoch) = true := by simpa using h_epoch
  by_cases h_op : r.op = q.op
  case neg =>
    have hx := int_ne h_op
    go_wp2_with fail
    go_quiet (first | (go_at_call 76; refine (rnum_id _ _).mono ?_; rintro e w4 ⟨rfl, rfl⟩; exact ⟨rfl, _, rfl⟩))
    go_wp2
    go_ret
    exact ⟨false, rfl, HNO (fun h => h_op (by rw [h])), below_drewN hq3 _⟩
  have e_op : (r.op == q.op) = true := by simpa using h_op
  by_cases h_status : r.status = q.status
  case neg =>
    have hx := int_ne h_status
    go_wp2_with fail
    go_quiet (first | (go_at_call 76; refine (rnum_id _ _).mono ?_; rintro e w4 ⟨rfl, rfl⟩; exact ⟨rfl, _, rfl⟩))
    go_wp2
    go_ret
    exact ⟨false, rfl, HNO (fun h => h_status (by rw [h])), below_drewN hq3 _⟩
  have e_status : (r.status == q.status) = true := by simpa using h_status
  by_cases h_more : r.more = q.more
  case neg =>
    have hx : (r.more == q.more) = false := by simpa using h_more
    go_wp2_with fail
    go_quiet (first | (go_at_call 76; refine (rnum_id _ _).mono ?_; rintro e w4 ⟨rfl, rfl⟩; exact ⟨rfl, _, rfl⟩))
    go_wp2
    go_ret
    exact ⟨false, rfl, HNO (fun h => h_more (by rw [h])), below_drewN hq3 _⟩
  have e_more : (r.more == q.more) = true := by simpa using h_more
  go_wp2_with fail
  go_quiet (first | (go_at_call 76; refine (rnum_id _ _).mono ?_; rintro e w4 ⟨rfl, rfl⟩; exact ⟨rfl, _, rfl⟩))
  go_wp2
  go_ret
  refine ⟨true, by simp, ⟨fun _ => ?_, fun _ => rfl⟩, below_drewN hq3 _⟩
  obtain ⟨h_ai, h_ak, h_az, h_ac⟩ := hat
  obtain ⟨x_client, x_seq, x_epoch, x_op, x_status, x_ai, x_ak, x_az, x_ac, x_data, x_list, x_more⟩ := r
  obtain ⟨y_client, y_seq, y_epoch, y_op, y_status, y_ai, y_ak, y_az, y_ac, y_data, y_list, y_more⟩ := q
  simp only at *
  simp only [h_client, h_seq, h_epoch, h_op, h_status, h_ai, h_ak, h_az, h_ac, hdat, hlist, h_more]
end Go.Proofs.YtdkcplndplhblaaGreatDoor

/- annexlaw4: room, listed: a list with spare room behind it. -/
namespace Go.Proofs.YtdkcplndplhblaaGreatDoor
open Go.RowKit
set_option maxRecDepth 100000

set_option maxHeartbeats 400000 in
theorem room4 (ao : Option Addr) (n cap : Nat) (bs : List Int) (w : World) (hn : n ≤ 140737488351232) (hL : Lies w ao n cap bs) :
    Calls Tryz.prog 12 #[.slice ao n cap] w fun e w' => Made w e w' (n + 3) (bs ++ three) := by
  obtain ⟨i0, hi, hz0, hz1, hz2⟩ := info_parts Tryz.info5
  go_enter Tryz.func12, Tryz.ntmps12
  go_wp2_with fail
  refine (bytes29_any ao n cap bs w (by omega) hL).mono ?_
  rintro e w1 ⟨a1, c1, rfl, hown, hb⟩
  go_wp2_with (at_builtin; refine wpList_append_own_wide _ rfl (.tmp 6) (.tmp 7) 22 rfl w.heap.size 5 i0 (.int .u8 0) 1 1 Tryz.underlying22 hi hz0 hz1 hz2 rfl (by decide) _ _ _ rfl (hown.alloc _) ⟨w1.heap.size, 0, none⟩ 3 3 [.int .u8 161, .int .u8 162, .int .u8 163] rfl rfl (cells_new _ _ _ _ rfl) (by intro u hu; simp at hu; rcases hu with rfl | rfl | rfl <;> rfl) (by unfold maxLen; omega) (by omega) (by have := hb.size; simp; omega) ?_; intro v' w2 hown1 hgrow1 hnil1)
  go_ret
  rcases hown1.2 with ⟨hv, hn0⟩ | ⟨g, cap, cur, hv, r⟩
  · omega
  · subst hv
    exact ⟨g, cap, rfl, by simpa [three] using hown1, (hb.alloc hb.size _).grown hgrow1 (by simp; have := hb.size; omega) (fun k hk => (hown.lt k hk).1)⟩

/-- The entry behind a list. -/
def spareE : Ent := ⟨⟨#[115, 112, 97, 114, 101]⟩, -7, 0⟩
/-- What listed leaves. -/
def MadeE (w : World) (e : Ending) (w' : World) (n : Nat) (l : List Ent) : Prop :=
  ∃ g cap, e = .returned (.slice (some ⟨g, 0, none⟩) n cap) ∧ w'.ownsRow w.heap.size 86 3 (.slice (some ⟨g, 0, none⟩) n cap) n (entCells l) ∧ Below w.heap.size w w'
theorem entCells_one (e : Ent) : entCells [e] = [.string e.name, .int .i64 e.id, .int .i64 e.kind] := rfl
theorem entCells_take {l : List Ent} {k : Nat} (h : k < l.length) : entCells (l.take k) ++ [.string l[k].name, .int .i64 l[k].id, .int .i64 l[k].kind] = entCells (l.take (k + 1)) := by
  rw [List.take_succ_eq_append_getElem h, entCells_app, entCells_one]
set_option maxHeartbeats 1000000 in
theorem listed4 (l : List Ent) (lo : Option Addr) (n lc : Nat) (w : World) (hE : CLies w lo n lc 3 (entCells l)) (hl : l.length = n) (hn : n ≤ 1000000000) :
    Calls Tryz.prog 42 #[.slice lo n lc] w fun e w' => MadeE w e w' (n + 1) (l ++ [spareE]) := by
  obtain ⟨i0, hi, hz0, hz1, hz2⟩ := info_parts Tryz.infoEntry
  have hni : (n : Int) ≤ 1000000000 := by omega
  have HL : Hid (l.length = n) := hl
  clear hl
  go_enter Tryz.func42, Tryz.ntmps42
  go_wp2
  go_loopw [3, 4] (fun m i wr => ∃ k : Nat, k ≤ n ∧ i = .int .i64 k ∧ wr.ownsRow w.heap.size 86 3 m k (entCells (l.take k)) ∧ Below w.heap.size w wr) (fun _ i _ => n - (intOf i).toNat)
  case atStart => exact ⟨0, Nat.zero_le _, rfl, ⟨by simp [entCells], Or.inl ⟨rfl, rfl⟩⟩, Below.refl _ _⟩
  case round =>
    obtain ⟨k, hk, rfl, hown, hb⟩ := hrel
    have hbs := hb.size
    by_cases hlt : k < n
    · have hki : decide ((k : Int) < (n : Int)) = true := by simpa using hlt
      have hkl : k < l.length := by have := HL.out; omega
      obtain ⟨b', o', rfl, hbw, q0, q1, q2⟩ := ents_at hE hkl
      have q0 := cell_later hb q0 (Nat.le_refl _)
      have q1 := cell_later hb q1 (Nat.le_refl _)
      have q2 := cell_later hb q2 (Nat.le_refl _)
      have hnx := entCells_take hkl
      have HX : Hid (entCells (l.take k) ++ [.string l[k].name, .int .i64 l[k].id, .int .i64 l[k].kind] = entCells (l.take (k + 1))) := hnx
      clear hnx hE
      generalize l[k] = x at *
      obtain ⟨nm, id, kd⟩ := x
      simp only at q0 q1 q2
      go_wp2_with (at_builtin; refine wpList_append_own _ rfl (.tmp 11) (.tmp 16) 28 rfl w.heap.size 86 i0 (.agg #[.string ⟨#[]⟩, .int .i64 0, .int .i64 0]) 3 32 Tryz.underlying28 hi hz0 hz1 hz2 rfl (by decide) _ _ _ rfl (hown.alloc _) ⟨wr.heap.size, 0, none⟩ 1 1 [.string nm, .int .i64 id, .int .i64 kd] rfl rfl (cells_new _ _ 86 _ (by simp)) (by intro u hu; simp at hu; rcases hu with rfl | rfl | rfl <;> rfl) (by unfold maxLen; omega) (by omega) (by simp; omega) ?_; intro v' w1 hown1 hgrow1 hnil1)
      go_roundw
      case rel =>
        have h1 := HX.out
        simp only at h1
        refine ⟨k + 1, by omega, by go_num, by rw [← h1]; exact hown1, ?_⟩
        exact (hb.alloc hb.size _).grown hgrow1 (by simp; omega) (fun k hk => (hown.lt k hk).1)
      case measure => simp [intOf]; omega
    · have hki : decide ((k : Int) < (n : Int)) = false := by simp; omega
      obtain rfl : k = n := by omega
      have hall : l.take k = l := List.take_of_length_le (by have := HL.out; omega)
      rw [hall] at hown
      clear hE hall
      go_wp2_with (at_builtin; refine wpList_append_own _ rfl (.tmp 18) (.tmp 20) 28 rfl w.heap.size 86 i0 (.agg #[.string ⟨#[]⟩, .int .i64 0, .int .i64 0]) 3 32 Tryz.underlying28 hi hz0 hz1 hz2 rfl (by decide) _ _ _ rfl (hown.alloc _) ⟨wr.heap.size, 0, none⟩ 1 1 [.string ⟨#[115, 112, 97, 114, 101]⟩, .int .i64 (-7), .int .i64 0] rfl rfl (cells_new _ _ 86 _ (by simp)) (by intro u hu; simp at hu; rcases hu with rfl | rfl | rfl <;> rfl) (by unfold maxLen; omega) (by omega) (by simp; omega) ?_; intro v' w1 hown1 hgrow1 hnil1)
      go_ret
      rcases hown1.2 with ⟨hv, hn0⟩ | ⟨g, cap, cur, hv, r⟩
      · omega
      · subst hv
        refine ⟨g, cap, rfl, by rw [entCells_app]; exact hown1, ?_⟩
        exact (hb.alloc hb.size _).grown hgrow1 (by simp; omega) (fun k hk => (hown.lt k hk).1)
end Go.Proofs.YtdkcplndplhblaaGreatDoor

/- annexlaw4: asked, told, kept. -/
namespace Go.Proofs.YtdkcplndplhblaaGreatDoor
open Go.RowKit
set_option maxRecDepth 100000

theorem RqB.data {w : World} {B : Nat} {r : Req} {ao : Option Addr} {n c : Nat} (h : RqB w B r ao n c) (bo : Option Addr) (m d : Nat) : RqB (w.setCell ⟨B, 12, none⟩ (.slice bo m d)) B r bo m d := by
  rw [RqB, heap_setCell_same _ _ _ _ _ _ h]; rfl
theorem own_below {w w' : World} {base n : Nat} {e : TypeId} {k : Nat} {v : Value} {xs : List Value} (h : w.ownsRow base e k v n xs) (hb : Below w.heap.size w w') : w'.ownsRow base e k v n xs :=
  h.kept (row := none) ⟨hb.os, hb.tape, hb.output, hb.size, fun i hi _ => hb.block i hi⟩ (nb _)
theorem own_cap {w : World} {base n cap : Nat} {e : TypeId} {k : Nat} {ao : Option Addr} {xs : List Value} (h : w.ownsRow base e k (.slice ao n cap) n xs) : n ≤ cap := by
  rcases h.2 with ⟨hv, hn⟩ | ⟨g', cap', cur, hv, _, hb, hnc, _⟩
  · cases hv; exact Nat.le_refl _
  · cases hv; exact hnc
set_option maxHeartbeats 2000000 in
theorem asked_any (r : Req) (ao : Option Addr) (n c : Nat) (w : World) (hD : Lies w ao n c r.data) (hn : n ≤ 140737488351232) :
    Calls Tryz.prog 8 #[rqV r ao n c] w fun e w' => ∃ g cap, e = .returned (.tuple #[rqV r (some ⟨g, 0, none⟩) n cap, .slice (some ⟨g, 0, none⟩) (n + 3) cap]) ∧ w'.ownsRow w.heap.size 5 1 (.slice (some ⟨g, 0, none⟩) (n + 3) cap) (n + 3) ((r.data ++ three).map (Value.int .u8)) ∧ Below w.heap.size w w' := by
  have hbx := box2 w (.cells #[.int .i64 r.client, .int .i64 r.seq, .int .i64 r.ack, .int .i64 r.epoch, .int .i64 r.op, .int .i64 r.id, .int .i64 r.id2, .int .i64 r.off, .int .i64 r.len, .string r.path, .string r.name, .string r.name2, .slice ao n c] 24) (.cells #[.int .i64 0, .int .i64 0, .int .i64 0, .int .i64 0, .int .i64 0, .int .i64 0, .int .i64 0, .int .i64 0, .int .i64 0, .string ⟨#[]⟩, .string ⟨#[]⟩, .string ⟨#[]⟩, .slice none 0 0] 24)
  have hB0 : RqB ((w.alloc (.cells #[.int .i64 r.client, .int .i64 r.seq, .int .i64 r.ack, .int .i64 r.epoch, .int .i64 r.op, .int .i64 r.id, .int .i64 r.id2, .int .i64 r.off, .int .i64 r.len, .string r.path, .string r.name, .string r.name2, .slice ao n c] 24)).alloc (.cells #[.int .i64 0, .int .i64 0, .int .i64 0, .int .i64 0, .int .i64 0, .int .i64 0, .int .i64 0, .int .i64 0, .int .i64 0, .string ⟨#[]⟩, .string ⟨#[]⟩, .string ⟨#[]⟩, .slice none 0 0] 24)) w.heap.size r ao n c := by
    rw [RqB, Below.heap_alloc _ _ _ (by simp)]; exact heap_alloc_new _ _
  have hZ0 : RqB ((w.alloc (.cells #[.int .i64 r.client, .int .i64 r.seq, .int .i64 r.ack, .int .i64 r.epoch, .int .i64 r.op, .int .i64 r.id, .int .i64 r.id2, .int .i64 r.off, .int .i64 r.len, .string r.path, .string r.name, .string r.name2, .slice ao n c] 24)).alloc (.cells #[.int .i64 0, .int .i64 0, .int .i64 0, .int .i64 0, .int .i64 0, .int .i64 0, .int .i64 0, .int .i64 0, .int .i64 0, .string ⟨#[]⟩, .string ⟨#[]⟩, .string ⟨#[]⟩, .slice none 0 0] 24)) (w.heap.size + 1) rq0 none 0 0 := by
    have h := heap_alloc_new (w.alloc (.cells #[.int .i64 r.client, .int .i64 r.seq, .int .i64 r.ack, .int .i64 r.epoch, .int .i64 r.op, .int .i64 r.id, .int .i64 r.id2, .int .i64 r.off, .int .i64 r.len, .string r.path, .string r.name, .string r.name2, .slice ao n c] 24)) (.cells #[.int .i64 0, .int .i64 0, .int .i64 0, .int .i64 0, .int .i64 0, .int .i64 0, .int .i64 0, .int .i64 0, .int .i64 0, .string ⟨#[]⟩, .string ⟨#[]⟩, .string ⟨#[]⟩, .slice none 0 0] 24)
    rw [show (w.alloc (.cells #[.int .i64 r.client, .int .i64 r.seq, .int .i64 r.ack, .int .i64 r.epoch, .int .i64 r.op, .int .i64 r.id, .int .i64 r.id2, .int .i64 r.off, .int .i64 r.len, .string r.path, .string r.name, .string r.name2, .slice ao n c] 24)).heap.size = w.heap.size + 1 by simp] at h
    exact h
  have hsz : w.heap.size + 2 ≤ ((w.alloc (.cells #[.int .i64 r.client, .int .i64 r.seq, .int .i64 r.ack, .int .i64 r.epoch, .int .i64 r.op, .int .i64 r.id, .int .i64 r.id2, .int .i64 r.off, .int .i64 r.len, .string r.path, .string r.name, .string r.name2, .slice ao n c] 24)).alloc (.cells #[.int .i64 0, .int .i64 0, .int .i64 0, .int .i64 0, .int .i64 0, .int .i64 0, .int .i64 0, .int .i64 0, .int .i64 0, .string ⟨#[]⟩, .string ⟨#[]⟩, .string ⟨#[]⟩, .slice none 0 0] 24)).heap.size := by simp
  go_enter Tryz.func8, Tryz.ntmps8
  go_wp2_with fail
  generalize (w.alloc (.cells #[.int .i64 r.client, .int .i64 r.seq, .int .i64 r.ack, .int .i64 r.epoch, .int .i64 r.op, .int .i64 r.id, .int .i64 r.id2, .int .i64 r.off, .int .i64 r.len, .string r.path, .string r.name, .string r.name2, .slice ao n c] 24)).alloc (.cells #[.int .i64 0, .int .i64 0, .int .i64 0, .int .i64 0, .int .i64 0, .int .i64 0, .int .i64 0, .int .i64 0, .int .i64 0, .string ⟨#[]⟩, .string ⟨#[]⟩, .string ⟨#[]⟩, .slice none 0 0] 24) = w2 at *
  refine (room4 ao n c r.data _ hn (hD.below hbx (Nat.le_refl _))).mono ?_
  rintro e w3 ⟨g, cap, rfl, hown, hb3⟩
  have hB3 := RqB.below hB0 hb3
  have hZ3 := RqB.below hZ0 hb3
  have hq3 := hbx.trans (hb3.mono hbx.size)
  have hcap := own_cap hown
  have hg := (hown.lt g rfl).1
  have hcapI : (n : Int) ≤ (cap : Int) := by omega
  have hB4 := hB3.data (some ⟨g, 0, none⟩) n cap
  have hZ4 : RqB (w3.setCell ⟨w.heap.size, 12, none⟩ (.slice (some ⟨g, 0, none⟩) n cap)) (w.heap.size + 1) rq0 none 0 0 := RqB.row hZ3 (grown_setCell _ _ _ _) (by omega)
  have hfin := setRq_is r (some ⟨g, 0, none⟩) n cap hZ4
  have hq4 := (hq3.grown (grown_setCell w3 w.heap.size 12 (.slice (some ⟨g, 0, none⟩) n cap)) (by have := hq3.size; omega) (fun k hk => by cases hk; exact Nat.le_refl _))
  obtain ⟨⟨q0, q1, q2, q3, q4, q5, q6, q7, q8, q9, q10, q11, q12⟩, qf⟩ := hB3.c
  obtain ⟨⟨p0, p1, p2, p3, p4, p5, p6, p7, p8, p9, p10, p11, p12⟩, pf⟩ := hB4.c
  obtain ⟨⟨z0, z1, z2, z3, z4, z5, z6, z7, z8, z9, z10, z11, z12⟩, zf⟩ := hZ4.c
  clear hB0 hZ0 hB3 hZ3 hb3
  go_wp2
  refine bodyPost_ret (RqB.res rfl _ rfl hfin) rfl ?_
  have hq5 := (hq4.grown (setRq_grown _ (w.heap.size + 1) r (some ⟨g, 0, none⟩) n cap) (by have := hq4.size; omega) (fun k hk => by cases hk; exact Nat.le_succ _))
  refine ⟨g, cap, rfl, ?_, hq5⟩
  have ho := ownsRow_mono hown hbx.size
  have ho := ho.kept (grown_setCell w3 w.heap.size 12 (.slice (some ⟨g, 0, none⟩) n cap)) (.inr (by simp [Value.ownBlock]; omega))
  exact ho.kept (setRq_grown _ (w.heap.size + 1) r (some ⟨g, 0, none⟩) n cap) (.inr (by simp [Value.ownBlock]; omega))

theorem RpB.data {w : World} {B : Nat} {r : Rep} {ao : Option Addr} {n c : Nat} {lo : Option Addr} {ln lc : Nat} (h : RpB w B r ao n c lo ln lc) (bo : Option Addr) (m d : Nat) : RpB (w.setCell ⟨B, 9, none⟩ (.slice bo m d)) B r bo m d lo ln lc := by
  rw [RpB, heap_setCell_same _ _ _ _ _ _ h]; rfl
theorem RpB.list {w : World} {B : Nat} {r : Rep} {ao : Option Addr} {n c : Nat} {lo : Option Addr} {ln lc : Nat} (h : RpB w B r ao n c lo ln lc) (bo : Option Addr) (m d : Nat) : RpB (w.setCell ⟨B, 10, none⟩ (.slice bo m d)) B r ao n c bo m d := by
  rw [RpB, heap_setCell_same _ _ _ _ _ _ h]; rfl
theorem results_cell_tmp2 {fn : Func} {p u v : Tmp} {ty : TypeId} (h : fn.results = #[.cell p ty, .tmp u, .tmp v]) (tmps : Array Value) (P : Program) (w : World) :
    (results fn tmps).run P w =
      ((asAddr (tmps.getD p undef)).run P w).andThen fun a w₁ => ((loadVar ty a).run P w₁).andThen fun x w₂ => .ok (.tuple #[x, tmps.getD u undef, tmps.getD v undef]) w₂ := by
  simp only [results, h]
  simp [Sem.run_bind, Result.andThen]
theorem RpB.res3 {fn : Func} {p u v : Tmp} {R : Nat} {w : World} {r : Rep} {ao : Option Addr} {n c : Nat} {lo : Option Addr} {ln lc : Nat} (hf : fn.results = #[.cell p 30, .tmp u, .tmp v]) (tmps : Array Value) (hp : tmps.getD p undef = .pointer (some ⟨R, 0, none⟩)) (h : RpB w R r ao n c lo ln lc) :
    (results fn tmps).run Tryz.prog w = .ok (.tuple #[rpV r ao n c lo ln lc, tmps.getD u undef, tmps.getD v undef]) w := by
  obtain ⟨⟨q0, q1, q2, q3, q4, q5, q6, q7, q8, q9, q10, q11⟩, qf⟩ := h.c
  rw [results_cell_tmp2 hf, hp]
  simp [go_sem, q0, q1, q2, q3, q4, q5, q6, q7, q8, q9, q10, q11]
set_option maxHeartbeats 4000000 in
theorem told_any (r : Rep) (ao : Option Addr) (n c : Nat) (lo : Option Addr) (ln lc : Nat) (w : World) (hD : Lies w ao n c r.data) (hn : n ≤ 140737488351232) (hE : CLies w lo ln lc 3 (entCells r.list)) (hel : r.list.length = ln) (hln : ln ≤ 1000000000) :
    Calls Tryz.prog 14 #[rpV r ao n c lo ln lc] w fun e w' => ∃ g cap h hc, e = .returned (.tuple #[rpV r (some ⟨g, 0, none⟩) n cap (some ⟨h, 0, none⟩) ln hc, .slice (some ⟨g, 0, none⟩) (n + 3) cap, .slice (some ⟨h, 0, none⟩) (ln + 1) hc]) ∧ w'.ownsRow w.heap.size 5 1 (.slice (some ⟨g, 0, none⟩) (n + 3) cap) (n + 3) ((r.data ++ three).map (Value.int .u8)) ∧ w'.ownsRow w.heap.size 86 3 (.slice (some ⟨h, 0, none⟩) (ln + 1) hc) (ln + 1) (entCells (r.list ++ [spareE])) ∧ Below w.heap.size w w' := by
  have HL : Hid (r.list.length = ln) := hel
  clear hel
  have hbx := box2 w (.cells #[.int .i64 r.client, .int .i64 r.seq, .int .i64 r.epoch, .int .i64 r.op, .int .i64 r.status, .int .i64 r.ai, .int .i64 r.ak, .int .i64 r.az, .int .i64 r.ac, .slice ao n c, .slice lo ln lc, .bool r.more] 30) (.cells #[.int .i64 0, .int .i64 0, .int .i64 0, .int .i64 0, .int .i64 0, .int .i64 0, .int .i64 0, .int .i64 0, .int .i64 0, .slice none 0 0, .slice none 0 0, .bool false] 30)
  have hB0 : RpB ((w.alloc (.cells #[.int .i64 r.client, .int .i64 r.seq, .int .i64 r.epoch, .int .i64 r.op, .int .i64 r.status, .int .i64 r.ai, .int .i64 r.ak, .int .i64 r.az, .int .i64 r.ac, .slice ao n c, .slice lo ln lc, .bool r.more] 30)).alloc (.cells #[.int .i64 0, .int .i64 0, .int .i64 0, .int .i64 0, .int .i64 0, .int .i64 0, .int .i64 0, .int .i64 0, .int .i64 0, .slice none 0 0, .slice none 0 0, .bool false] 30)) w.heap.size r ao n c lo ln lc := by
    rw [RpB, Below.heap_alloc _ _ _ (by simp)]; exact heap_alloc_new _ _
  have hZ0 : RpB ((w.alloc (.cells #[.int .i64 r.client, .int .i64 r.seq, .int .i64 r.epoch, .int .i64 r.op, .int .i64 r.status, .int .i64 r.ai, .int .i64 r.ak, .int .i64 r.az, .int .i64 r.ac, .slice ao n c, .slice lo ln lc, .bool r.more] 30)).alloc (.cells #[.int .i64 0, .int .i64 0, .int .i64 0, .int .i64 0, .int .i64 0, .int .i64 0, .int .i64 0, .int .i64 0, .int .i64 0, .slice none 0 0, .slice none 0 0, .bool false] 30)) (w.heap.size + 1) rp0 none 0 0 none 0 0 := by
    have h := heap_alloc_new (w.alloc (.cells #[.int .i64 r.client, .int .i64 r.seq, .int .i64 r.epoch, .int .i64 r.op, .int .i64 r.status, .int .i64 r.ai, .int .i64 r.ak, .int .i64 r.az, .int .i64 r.ac, .slice ao n c, .slice lo ln lc, .bool r.more] 30)) (.cells #[.int .i64 0, .int .i64 0, .int .i64 0, .int .i64 0, .int .i64 0, .int .i64 0, .int .i64 0, .int .i64 0, .int .i64 0, .slice none 0 0, .slice none 0 0, .bool false] 30)
    rw [show (w.alloc (.cells #[.int .i64 r.client, .int .i64 r.seq, .int .i64 r.epoch, .int .i64 r.op, .int .i64 r.status, .int .i64 r.ai, .int .i64 r.ak, .int .i64 r.az, .int .i64 r.ac, .slice ao n c, .slice lo ln lc, .bool r.more] 30)).heap.size = w.heap.size + 1 by simp] at h
    exact h
  have hsz : w.heap.size + 2 ≤ ((w.alloc (.cells #[.int .i64 r.client, .int .i64 r.seq, .int .i64 r.epoch, .int .i64 r.op, .int .i64 r.status, .int .i64 r.ai, .int .i64 r.ak, .int .i64 r.az, .int .i64 r.ac, .slice ao n c, .slice lo ln lc, .bool r.more] 30)).alloc (.cells #[.int .i64 0, .int .i64 0, .int .i64 0, .int .i64 0, .int .i64 0, .int .i64 0, .int .i64 0, .int .i64 0, .int .i64 0, .slice none 0 0, .slice none 0 0, .bool false] 30)).heap.size := by simp
  go_enter Tryz.func14, Tryz.ntmps14
  go_wp2_with fail
  generalize (w.alloc (.cells #[.int .i64 r.client, .int .i64 r.seq, .int .i64 r.epoch, .int .i64 r.op, .int .i64 r.status, .int .i64 r.ai, .int .i64 r.ak, .int .i64 r.az, .int .i64 r.ac, .slice ao n c, .slice lo ln lc, .bool r.more] 30)).alloc (.cells #[.int .i64 0, .int .i64 0, .int .i64 0, .int .i64 0, .int .i64 0, .int .i64 0, .int .i64 0, .int .i64 0, .int .i64 0, .slice none 0 0, .slice none 0 0, .bool false] 30) = w2 at *
  refine (room4 ao n c r.data _ hn (hD.below hbx (Nat.le_refl _))).mono ?_
  rintro e w3 ⟨g, cap, rfl, hown, hb3⟩
  have hB3 := RpB.below hB0 hb3
  have hZ3 := RpB.below hZ0 hb3
  have hq3 := hbx.trans (hb3.mono hbx.size)
  have hcap := own_cap hown
  have hg := (hown.lt g rfl).1
  have hg3 := (hown.lt g rfl).2
  have hcapI : (n : Int) ≤ (cap : Int) := by omega
  have hs3 := hb3.size
  obtain ⟨⟨q0, q1, q2, q3, q4, q5, q6, q7, q8, q9, q10, q11⟩, qf⟩ := hB3.c
  clear hB0 hZ0 hb3
  go_wp2_with fail
  clear q0 q1 q2 q3 q4 q5 q6 q7 q8 q9 q10 q11 qf
  refine (listed4 r.list lo ln lc _ (hE.below hq3 (Nat.le_refl _)) HL.out hln).mono ?_
  rintro e w4 ⟨h, hc, rfl, hownE, hb4⟩
  have hB4 := RpB.below hB3 hb4
  have hZ4 := RpB.below hZ3 hb4
  have hq4 := hq3.trans (hb4.mono hq3.size)
  have hown4 := own_below hown hb4
  have hcap2 := own_cap hownE
  have hh := (hownE.lt h rfl).1
  have hcapI2 : (ln : Int) ≤ (hc : Int) := by omega
  have hB5 := hB4.data (some ⟨g, 0, none⟩) n cap
  have hZ5 : RpB (w4.setCell ⟨w.heap.size, 9, none⟩ (.slice (some ⟨g, 0, none⟩) n cap)) (w.heap.size + 1) rp0 none 0 0 none 0 0 := RpB.row hZ4 (grown_setCell _ _ _ _) (by omega)
  have hq5 := (hq4.grown (grown_setCell w4 w.heap.size 9 (.slice (some ⟨g, 0, none⟩) n cap)) (by have := hq4.size; omega) (fun k hk => by cases hk; exact Nat.le_refl _))
  have ho5 := hown4.kept (grown_setCell w4 w.heap.size 9 (.slice (some ⟨g, 0, none⟩) n cap)) (.inr (by simp [Value.ownBlock]; omega))
  have hl5 := hownE.kept (grown_setCell w4 w.heap.size 9 (.slice (some ⟨g, 0, none⟩) n cap)) (.inr (by simp [Value.ownBlock]; omega))
  have hB6 := hB5.list (some ⟨h, 0, none⟩) ln hc
  have hZ6 : RpB ((w4.setCell ⟨w.heap.size, 9, none⟩ (.slice (some ⟨g, 0, none⟩) n cap)).setCell ⟨w.heap.size, 10, none⟩ (.slice (some ⟨h, 0, none⟩) ln hc)) (w.heap.size + 1) rp0 none 0 0 none 0 0 := RpB.row hZ5 (grown_setCell _ _ _ _) (by omega)
  have hq6 := (hq5.grown (grown_setCell (w4.setCell ⟨w.heap.size, 9, none⟩ (.slice (some ⟨g, 0, none⟩) n cap)) w.heap.size 10 (.slice (some ⟨h, 0, none⟩) ln hc)) (by have := hq5.size; omega) (fun k hk => by cases hk; exact Nat.le_refl _))
  have ho6 := ho5.kept (grown_setCell (w4.setCell ⟨w.heap.size, 9, none⟩ (.slice (some ⟨g, 0, none⟩) n cap)) w.heap.size 10 (.slice (some ⟨h, 0, none⟩) ln hc)) (.inr (by simp [Value.ownBlock]; omega))
  have hl6 := hl5.kept (grown_setCell (w4.setCell ⟨w.heap.size, 9, none⟩ (.slice (some ⟨g, 0, none⟩) n cap)) w.heap.size 10 (.slice (some ⟨h, 0, none⟩) ln hc)) (.inr (by simp [Value.ownBlock]; omega))
  have hfin := setRp_is r (some ⟨g, 0, none⟩) n cap (some ⟨h, 0, none⟩) ln hc hZ6
  have hq7 := (hq6.grown (setRp_grown _ (w.heap.size + 1) r (some ⟨g, 0, none⟩) n cap (some ⟨h, 0, none⟩) ln hc) (by have := hq6.size; omega) (fun k hk => by cases hk; exact Nat.le_succ _))
  have ho7 := ho6.kept (setRp_grown _ (w.heap.size + 1) r (some ⟨g, 0, none⟩) n cap (some ⟨h, 0, none⟩) ln hc) (.inr (by simp [Value.ownBlock]; omega))
  have hl7 := hl6.kept (setRp_grown _ (w.heap.size + 1) r (some ⟨g, 0, none⟩) n cap (some ⟨h, 0, none⟩) ln hc) (.inr (by simp [Value.ownBlock]; omega))
  obtain ⟨⟨q0, q1, q2, q3, q4, q5, q6, q7, q8, q9, q10, q11⟩, qf⟩ := hB4.c
  obtain ⟨⟨p0, p1, p2, p3, p4, p5, p6, p7, p8, p9, p10, p11⟩, pf⟩ := hB5.c
  obtain ⟨⟨s0, s1, s2, s3, s4, s5, s6, s7, s8, s9, s10, s11⟩, sf⟩ := hB6.c
  obtain ⟨⟨z0, z1, z2, z3, z4, z5, z6, z7, z8, z9, z10, z11⟩, zf⟩ := hZ6.c
  clear hB3 hZ3 hB4 hZ4 hB5 hZ5 hb4 ho5 hl5 ho6 hl6 hq5 hq6 hown4
  go_wp2
  refine bodyPost_ret (RpB.res3 rfl _ rfl hfin) rfl ?_
  exact ⟨g, cap, h, hc, rfl, ownsRow_mono ho7 hbx.size, ownsRow_mono hl7 hq3.size, hq7⟩

/-- The first entries of a list. -/
theorem CLies.ents {w : World} {ao : Option Addr} {n cap : Nat} {l q : List Ent} (h : CLies w ao n cap 3 (entCells (l ++ q))) {k : Nat} (hl : l.length = k) (hk : k ≤ n) : CLies w ao k cap 3 (entCells l) := by
  refine ⟨by rw [entCells_length, hl], Nat.le_trans hk h.hle, fun hno => by have := h.hnone hno; omega, fun ad had t u hu => h.hcells ad had t u ?_⟩
  rw [entCells_app, List.getElem?_append_left (by exact (List.getElem?_eq_some_iff.1 hu).1)]
  exact hu
set_option maxHeartbeats 2000000 in
theorem kept_true (r : Rep) (ao : Option Addr) (n c : Nat) (lo : Option Addr) (ln lc : Nat) (fo : Option Addr) (fc : Nat) (eo : Option Addr) (ec : Nat) (w : World) (hD : Lies w ao n c r.data) (hn : n ≤ 140737488351232) (hE : CLies w lo ln lc 3 (entCells r.list)) (hel : r.list.length = ln) (hln : ln ≤ 1000000000)
    (hF : Lies w fo (n + 3) fc (r.data ++ three)) (hG : CLies w eo (ln + 1) ec 3 (entCells (r.list ++ [spareE]))) :
    Calls Tryz.prog 17 #[rpV r ao n c lo ln lc, .slice fo (n + 3) fc, .slice eo (ln + 1) ec] w fun e w' => e = .returned (.bool true) ∧ Below w.heap.size w w' := by
  have HL : Hid (r.list.length = ln) := hel
  clear hel
  have hb0 := newBox w (.cells #[.int .i64 r.client, .int .i64 r.seq, .int .i64 r.epoch, .int .i64 r.op, .int .i64 r.status, .int .i64 r.ai, .int .i64 r.ak, .int .i64 r.az, .int .i64 r.ac, .slice ao n c, .slice lo ln lc, .bool r.more] 30)
  have hB0 := RpBox.new w r ao n c lo ln lc
  go_enter Tryz.func17, Tryz.ntmps17
  go_wp2_with fail
  generalize w.alloc (.cells #[.int .i64 r.client, .int .i64 r.seq, .int .i64 r.epoch, .int .i64 r.op, .int .i64 r.status, .int .i64 r.ai, .int .i64 r.ak, .int .i64 r.az, .int .i64 r.ac, .slice ao n c, .slice lo ln lc, .bool r.more] 30) = w0 at *
  refine (room4 ao n c r.data _ hn (hD.below hb0 (Nat.le_refl _))).mono ?_
  rintro e w1 ⟨g1, c1, rfl, ho1, hb1⟩
  have hB1 := RpBox.later hB0 hb1 (Nat.le_refl _)
  have hq1 := hb0.trans (hb1.mono hb0.size)
  have hL1 := Lies.owned ho1
  clear hB0 hb0 hb1 ho1
  go_wp2_with fail
  refine (same_any _ _ _ _ _ _ _ _ _ (by omega) (hF.below hq1 (Nat.le_refl _)) hL1).mono ?_
  rintro e w2 ⟨rfl, m2, hw2⟩
  have hb2 : Below w1.heap.size w1 w2 := by rw [hw2]; exact below_drewN (Below.refl _ _) m2
  have hB2 := RpBox.later hB1 hb2 (Nat.le_refl _)
  have hq2 := hq1.trans (hb2.mono hq1.size)
  clear hB1 hb2 hq1 hL1 hw2
  rw [decide_eq_true rfl]
  obtain ⟨q0, q1, q2, q3, q4, q5, q6, q7, q8, q9, q10, q11⟩ := hB2
  go_wp2_with fail
  clear q0 q1 q2 q3 q4 q5 q6 q7 q8 q9 q10 q11
  refine (listed4 r.list lo ln lc _ (hE.below hq2 (Nat.le_refl _)) HL.out hln).mono ?_
  rintro e w3 ⟨h3, c3, rfl, ho3, hb3⟩
  have hq3 := hq2.trans (hb3.mono hq2.size)
  have hL3 := CLies.owned ho3
  clear hq2 hb3 ho3
  go_wp2_with fail
  refine (sameEnts_any _ _ _ _ _ _ _ _ _ (hG.below hq3 (Nat.le_refl _)) hL3 (by have := HL.out; simp; omega) (by have := HL.out; simp; omega) (by omega)).mono ?_
  rintro e w4 ⟨t, rfl, ht, hb4⟩
  have hq4 := hq3.trans (hb4.mono hq3.size)
  obtain rfl : t = true := ht.2 rfl
  clear ht hb4 hq3
  go_wp2
  go_ret
  exact ⟨rfl, hq4⟩
end Go.Proofs.YtdkcplndplhblaaGreatDoor
