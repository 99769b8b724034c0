/- SameEntries and SameReply of any two. -/
import Derived.Test.YtdkcplndplhblaaGreatDoorPk18
import Derived.Test.YtdkcplndplhblaaGreatDoorPk17
import Derived.Deep.DeepAppendWide
import Derived.Test.YtdkcplndplhblaaGreatDoorPk16
namespace Go.Proofs.YtdkcplndplhblaaGreatDoor
open Go.RowKit
set_option maxRecDepth 100000

set_option maxHeartbeats 4000000 in
theorem sameEnts_any (l q : List Ent) (ao : Option Addr) (n c : Nat) (bo : Option Addr) (m bc : Nat) (w : World) (hA : CLies w ao n c 3 (entCells l)) (hB : CLies w bo m bc 3 (entCells q)) (hl : l.length = n) (hq : q.length = m) (hn : n ≤ 200000000000000) :
    Calls Tryz.prog 47 #[.slice ao n c, .slice bo m bc] w fun e w' => ∃ t, e = .returned (.bool t) ∧ (t = true ↔ l = q) ∧ Below w.heap.size w w' := by
  have hni : (n : Int) ≤ 200000000000000 := by omega
  by_cases hnm : n = m
  case neg =>
    have h : ((n : Int) != (m : Int)) = true := by simp; omega
    go_enter Tryz.func47, Tryz.ntmps47
    go_wp2
    go_ret
    exact ⟨false, rfl, ⟨fun h => by (cases h), fun h => absurd (by rw [← hl, ← hq, h]) hnm⟩, Below.refl _ _⟩
  subst hnm
  go_enter Tryz.func47, Tryz.ntmps47
  go_wp2
  go_loopw [5] (fun i wr => ∃ k : Nat, k ≤ n ∧ i = .int .i64 k ∧ l.take k = q.take k ∧ Below w.heap.size w wr) (fun i _ => n - (intOf i).toNat)
  case atStart => exact ⟨0, Nat.zero_le _, rfl, by simp, Below.refl _ _⟩
  case round =>
    obtain ⟨k, hk, rfl, htk, hb⟩ := hrel
    have HT : Hid (l.take k = q.take k) := htk
    clear htk
    by_cases hlt : k < n
    · have hki : decide ((k : Int) < (n : Int)) = true := by simpa using hlt
      have hkl : k < l.length := by omega
      have hkq : k < q.length := by omega
      obtain ⟨b1, o1, rfl, _, p0, p1, p2⟩ := ents_at hA hkl
      obtain ⟨b2, o2, rfl, _, q0, q1, q2⟩ := ents_at hB hkq
      have p0 := cell_later hb p0 (Nat.le_refl _)
      have p1 := cell_later hb p1 (Nat.le_refl _)
      have p2 := cell_later hb p2 (Nat.le_refl _)
      have q0 := cell_later hb q0 (Nat.le_refl _)
      have q1 := cell_later hb q1 (Nat.le_refl _)
      have q2 := cell_later hb q2 (Nat.le_refl _)
      clear hA hB
      have HX : Hid (l[k]? = some l[k]) := by show l[k]? = some l[k]; simp [hkl]
      have HY : Hid (q[k]? = some q[k]) := by show q[k]? = some q[k]; simp [hkq]
      have HS : Hid (l[k] = q[k] → l.take (k + 1) = q.take (k + 1)) := fun h => by
        rw [List.take_succ_eq_append_getElem hkl, List.take_succ_eq_append_getElem hkq, h, HT.out]
      generalize l[k] = x at *
      generalize q[k] = y at *
      obtain ⟨nm, id, kd⟩ := x
      obtain ⟨nm', id', kd'⟩ := y
      simp only at p0 p1 p2 q0 q1 q2
      by_cases h1 : nm = nm'
      case neg =>
        have NE : ¬ (some (⟨nm', id', kd'⟩ : Ent) = some ⟨nm, id, kd⟩) := fun h => by (cases h; exact h1 rfl)
        have hx := str_ne h1
        have hx2 : (nm.toList != nm'.toList) = true := by simp [bne, hx]
        go_wp2
        go_quiet (fail)
        go_wp2
        go_ret
        exact ⟨false, rfl, ⟨fun h => by (cases h), fun h => absurd (by subst h; rw [HX.out] at HY; exact HY.out.symm) NE⟩, below_drewN hb _⟩
      subst h1
      by_cases h2 : id = id'
      case neg =>
        have NE : ¬ (some (⟨nm, id', kd'⟩ : Ent) = some ⟨nm, id, kd⟩) := fun h => by (cases h; exact h2 rfl)
        have hx := int_ne h2
        have hx2 : (id != id') = true := by simp [bne, hx]
        go_wp2
        go_quiet (fail)
        go_wp2
        go_ret
        exact ⟨false, rfl, ⟨fun h => by (cases h), fun h => absurd (by subst h; rw [HX.out] at HY; exact HY.out.symm) NE⟩, below_drewN hb _⟩
      subst h2
      by_cases h3 : kd = kd'
      case neg =>
        have NE : ¬ (some (⟨nm, id, kd'⟩ : Ent) = some ⟨nm, id, kd⟩) := fun h => by (cases h; exact h3 rfl)
        have hx := int_ne h3
        have hx2 : (kd != kd') = true := by simp [bne, hx]
        go_wp2
        go_quiet (fail)
        go_wp2
        go_ret
        exact ⟨false, rfl, ⟨fun h => by (cases h), fun h => absurd (by subst h; rw [HX.out] at HY; exact HY.out.symm) NE⟩, below_drewN hb _⟩
      subst h3
      go_wp2
      go_quiet (fail)
      go_wp2
      go_roundw
      case rel => exact ⟨k + 1, by omega, by go_num, HS.out trivial, below_drewN hb _⟩
      case measure => simp [intOf]; omega
    · clear hA hB
      have hki : decide ((k : Int) < (n : Int)) = false := by simp; omega
      go_wp2
      go_ret
      refine ⟨true, rfl, ⟨fun _ => ?_, fun _ => rfl⟩, hb⟩
      have := HT.out
      rwa [List.take_of_length_le (by omega), List.take_of_length_le (by omega)] at this

set_option maxHeartbeats 8000000 in
theorem sameRp_any (r q : Rep) (ao : Option Addr) (n c : Nat) (lo : Option Addr) (ln lc : Nat) (bo : Option Addr) (m d : Nat) (mo : Option Addr) (mn mc : Nat) (w : World) (hn : n ≤ 200000000000000) (hln : ln ≤ 200000000000000) (hA : Lies w ao n c r.data) (hB : Lies w bo m d q.data) (hC : CLies w lo ln lc 3 (entCells r.list)) (hD : CLies w mo mn mc 3 (entCells q.list)) (hl : r.list.length = ln) (hl2 : q.list.length = mn) :
    Calls Tryz.prog 32 #[rpV r ao n c lo ln lc, rpV q bo m d mo mn mc] w fun e w' => ∃ t, e = .returned (.bool t) ∧ (t = true ↔ r = q) ∧ Below w.heap.size w w' := by
  have HL : Hid (r.list.length = ln) := hl
  have HL2 : Hid (q.list.length = mn) := hl2
  clear hl hl2
  have hA0 := RpBox.new w r ao n c lo ln lc
  go_enter Tryz.func32, Tryz.ntmps32
  go_wp2_with fail
  refine (same_any ao bo n m c d r.data q.data _ hn ((hA.boxed _).boxed _) ((hB.boxed _).boxed _)).mono ?_
  rintro e w1 ⟨rfl, mm, hw1⟩
  have hb1 : Below ((w.alloc (.cells #[.int .i64 r.client, .int .i64 r.seq, .int .i64 r.epoch, .int .i64 r.op, .int .i64 r.status, .int .i64 r.ai, .int .i64 r.ak, .int .i64 r.az, .int .i64 r.ac, .slice ao n c, .slice lo ln lc, .bool r.more] 30)).alloc (.cells #[.int .i64 q.client, .int .i64 q.seq, .int .i64 q.epoch, .int .i64 q.op, .int .i64 q.status, .int .i64 q.ai, .int .i64 q.ak, .int .i64 q.az, .int .i64 q.ac, .slice bo m d, .slice mo mn mc, .bool q.more] 30)).heap.size ((w.alloc (.cells #[.int .i64 r.client, .int .i64 r.seq, .int .i64 r.epoch, .int .i64 r.op, .int .i64 r.status, .int .i64 r.ai, .int .i64 r.ak, .int .i64 r.az, .int .i64 r.ac, .slice ao n c, .slice lo ln lc, .bool r.more] 30)).alloc (.cells #[.int .i64 q.client, .int .i64 q.seq, .int .i64 q.epoch, .int .i64 q.op, .int .i64 q.status, .int .i64 q.ai, .int .i64 q.ak, .int .i64 q.az, .int .i64 q.ac, .slice bo m d, .slice mo mn mc, .bool q.more] 30)) w1 := by
    rw [hw1]; exact below_drewN (Below.refl _ _) mm
  clear hw1
  have hA1 := RpBox.later (RpBox.later hA0 (newBox _ _) (Nat.le_refl _)) hb1 (Nat.le_refl _)
  have hB1 : RpBox w1 (w.heap.size + 1) q bo m d mo mn mc := by
    have z := RpBox.later (RpBox.new (w.alloc (.cells #[.int .i64 r.client, .int .i64 r.seq, .int .i64 r.epoch, .int .i64 r.op, .int .i64 r.status, .int .i64 r.ai, .int .i64 r.ak, .int .i64 r.az, .int .i64 r.ac, .slice ao n c, .slice lo ln lc, .bool r.more] 30)) q bo m d mo mn mc) hb1 (Nat.le_refl _)
    rw [show (w.alloc (.cells #[.int .i64 r.client, .int .i64 r.seq, .int .i64 r.epoch, .int .i64 r.op, .int .i64 r.status, .int .i64 r.ai, .int .i64 r.ak, .int .i64 r.az, .int .i64 r.ac, .slice ao n c, .slice lo ln lc, .bool r.more] 30)).heap.size = w.heap.size + 1 by simp] at z
    exact z
  have hq1 : Below w.heap.size w w1 := (box2 w _ _).trans (hb1.mono (by simp; omega))
  have hC1 := hC.below hq1 (Nat.le_refl _)
  have hD1 := hD.below hq1 (Nat.le_refl _)
  have hA1' := hA1
  have hB1' := hB1
  obtain ⟨a0, a1, a2, a3, a4, a5, a6, a7, a8, a9, a10, a11⟩ := hA1
  obtain ⟨b0, b1, b2, b3, b4, b5, b6, b7, b8, b9, b10, b11⟩ := hB1
  clear hA0 hb1 hA hB hC hD
  go_wp2_with fail
  clear a0 a1 a2 a3 a4 a5 a6 a7 a8 a9 a10 a11 b0 b1 b2 b3 b4 b5 b6 b7 b8 b9 b10 b11
  refine (sameEnts_any r.list q.list lo ln lc mo mn mc _ hC1 hD1 HL.out HL2.out hln).mono ?_
  rintro e w2 ⟨tl, rfl, htl, hb2⟩
  have HTL : Hid (tl = true ↔ r.list = q.list) := htl
  clear htl
  have hA2 := RpBox.later hA1' hb2 (Nat.le_refl _)
  have hB2 := RpBox.later hB1' hb2 (Nat.le_refl _)
  have hq2 := hq1.trans (hb2.mono hq1.size)
  have hA2' := hA2
  have hB2' := hB2
  obtain ⟨a0, a1, a2, a3, a4, a5, a6, a7, a8, a9, a10, a11⟩ := hA2
  obtain ⟨b0, b1, b2, b3, b4, b5, b6, b7, b8, b9, b10, b11⟩ := hB2
  clear hA1' hB1' hC1 hD1 hb2
  go_wp2_with fail
  clear a0 a1 a2 a3 a4 a5 a6 a7 a8 a9 a10 a11 b0 b1 b2 b3 b4 b5 b6 b7 b8 b9 b10 b11
  refine (sameAttr_any r.ai r.ak r.az r.ac q.ai q.ak q.az q.ac _).mono ?_
  rintro e w3 ⟨rfl, hb3⟩
  have hA3 := RpBox.later hA2' hb3 (Nat.le_refl _)
  have hB3 := RpBox.later hB2' hb3 (Nat.le_refl _)
  have hq3 := hq2.trans (hb3.mono hq2.size)
  obtain ⟨a0, a1, a2, a3, a4, a5, a6, a7, a8, a9, a10, a11⟩ := hA3
  obtain ⟨b0, b1, b2, b3, b4, b5, b6, b7, b8, b9, b10, b11⟩ := hB3
  clear hA2' hB2' hb3
  have HNO : ∀ (f : r ≠ q), (false = true ↔ r = q) := fun f => ⟨fun h => by (cases h), fun h => absurd h f⟩
  by_cases hdat : r.data = q.data
  case neg =>
    rw [decide_eq_false hdat]
    generalize decide (r.ai = q.ai ∧ r.ak = q.ak ∧ r.az = q.az ∧ r.ac = q.ac) = T
    go_wp2_with fail
    go_quiet (first | (go_at_call 76; refine (rnum_id _ _).mono ?_; rintro e w4 ⟨rfl, rfl⟩; exact ⟨rfl, _, rfl⟩))
    go_wp2
    go_ret
    exact ⟨false, rfl, HNO (fun h => hdat (by rw [h])), below_drewN hq3 _⟩
  rw [decide_eq_true hdat]
  cases tl with
  | false =>
    generalize decide (r.ai = q.ai ∧ r.ak = q.ak ∧ r.az = q.az ∧ r.ac = q.ac) = T
    go_wp2_with fail
    go_quiet (first | (go_at_call 76; refine (rnum_id _ _).mono ?_; rintro e w4 ⟨rfl, rfl⟩; exact ⟨rfl, _, rfl⟩))
    go_wp2
    go_ret
    exact ⟨false, rfl, HNO (fun h => by (have z := HTL.out.2 (by rw [h]); cases z)), below_drewN hq3 _⟩
  | true =>
  have hlist := HTL.out.1 rfl
  by_cases hat : r.ai = q.ai ∧ r.ak = q.ak ∧ r.az = q.az ∧ r.ac = q.ac
  case neg =>
    rw [decide_eq_false hat]
    go_wp2_with fail
    go_quiet (first | (go_at_call 76; refine (rnum_id _ _).mono ?_; rintro e w4 ⟨rfl, rfl⟩; exact ⟨rfl, _, rfl⟩))
    go_wp2
    go_ret
    exact ⟨false, rfl, HNO (fun h => hat (by rw [h]; exact ⟨rfl, rfl, rfl, rfl⟩)), below_drewN hq3 _⟩
  rw [decide_eq_true hat]
  by_cases h_client : r.client = q.client
  case neg =>
    have hx := int_ne h_client
    go_wp2_with fail
    go_quiet (first | (go_at_call 76; refine (rnum_id _ _).mono ?_; rintro e w4 ⟨rfl, rfl⟩; exact ⟨rfl, _, rfl⟩))
    go_wp2
    go_ret
    exact ⟨false, rfl, HNO (fun h => h_client (by rw [h])), below_drewN hq3 _⟩
  have e_client : (r.client == q.client) = true := by simpa using h_client
  by_cases h_seq : r.seq = q.seq
  case neg =>
    have hx := int_ne h_seq
    go_wp2_with fail
    go_quiet (first | (go_at_call 76; refine (rnum_id _ _).mono ?_; rintro e w4 ⟨rfl, rfl⟩; exact ⟨rfl, _, rfl⟩))
    go_wp2
    go_ret
    exact ⟨false, rfl, HNO (fun h => h_seq (by rw [h])), below_drewN hq3 _⟩
  have e_seq : (r.seq == q.seq) = true := by simpa using h_seq
  by_cases h_epoch : r.epoch = q.epoch
  case neg =>
    have hx := int_ne h_epoch
    go_wp2_with fail
    go_quiet (first | (go_at_call 76; refine (rnum_id _ _).mono ?_; rintro e w4 ⟨rfl, rfl⟩; exact ⟨rfl, _, rfl⟩))
    go_wp2
    go_ret
    exact ⟨false, rfl, HNO (fun h => h_epoch (by rw [h])), below_drewN hq3 _⟩
  have e_epoch : (r.epoch == q.epoch) = true := by simpa using h_epoch
  by_cases h_op : r.op = q.op
  case neg =>
    have hx := int_ne h_op
    go_wp2_with fail
    go_quiet (first | (go_at_call 76; refine (rnum_id _ _).mono ?_; rintro e w4 ⟨rfl, rfl⟩; exact ⟨rfl, _, rfl⟩))
    go_wp2
    go_ret
    exact ⟨false, rfl, HNO (fun h => h_op (by rw [h])), below_drewN hq3 _⟩
  have e_op : (r.op == q.op) = true := by simpa using h_op
  by_cases h_status : r.status = q.status
  case neg =>
    have hx := int_ne h_status
    go_wp2_with fail
    go_quiet (first | (go_at_call 76; refine (rnum_id _ _).mono ?_; rintro e w4 ⟨rfl, rfl⟩; exact ⟨rfl, _, rfl⟩))
    go_wp2
    go_ret
    exact ⟨false, rfl, HNO (fun h => h_status (by rw [h])), below_drewN hq3 _⟩
  have e_status : (r.status == q.status) = true := by simpa using h_status
  by_cases h_more : r.more = q.more
  case neg =>
    have hx : (r.more == q.more) = false := by simpa using h_more
    go_wp2_with fail
    go_quiet (first | (go_at_call 76; refine (rnum_id _ _).mono ?_; rintro e w4 ⟨rfl, rfl⟩; exact ⟨rfl, _, rfl⟩))
    go_wp2
    go_ret
    exact ⟨false, rfl, HNO (fun h => h_more (by rw [h])), below_drewN hq3 _⟩
  have e_more : (r.more == q.more) = true := by simpa using h_more
  go_wp2_with fail
  go_quiet (first | (go_at_call 76; refine (rnum_id _ _).mono ?_; rintro e w4 ⟨rfl, rfl⟩; exact ⟨rfl, _, rfl⟩))
  go_wp2
  go_ret
  refine ⟨true, by simp, ⟨fun _ => ?_, fun _ => rfl⟩, below_drewN hq3 _⟩
  obtain ⟨h_ai, h_ak, h_az, h_ac⟩ := hat
  obtain ⟨x_client, x_seq, x_epoch, x_op, x_status, x_ai, x_ak, x_az, x_ac, x_data, x_list, x_more⟩ := r
  obtain ⟨y_client, y_seq, y_epoch, y_op, y_status, y_ai, y_ak, y_az, y_ac, y_data, y_list, y_more⟩ := q
  simp only at *
  simp only [h_client, h_seq, h_epoch, h_op, h_status, h_ai, h_ak, h_az, h_ac, hdat, hlist, h_more]
end Go.Proofs.YtdkcplndplhblaaGreatDoor

/- annexlaw4: room, listed: a list with spare room behind it. -/
namespace Go.Proofs.YtdkcplndplhblaaGreatDoor
open Go.RowKit
set_option maxRecDepth 100000

set_option maxHeartbeats 400000 in
theorem room4 (ao : Option Addr) (n cap : Nat) (bs : List Int) (w : World) (hn : n ≤ 140737488351232) (hL : Lies w ao n cap bs) :
    Calls Tryz.prog 12 #[.slice ao n cap] w fun e w' => Made w e w' (n + 3) (bs ++ three) := by
  obtain ⟨i0, hi, hz0, hz1, hz2⟩ := info_parts Tryz.info5
  go_enter Tryz.func12, Tryz.ntmps12
  go_wp2_with fail
  refine (bytes29_any ao n cap bs w (by omega) hL).mono ?_
  rintro e w1 ⟨a1, c1, rfl, hown, hb⟩
  go_wp2_with (at_builtin; refine wpList_append_own_wide _ rfl (.tmp 6) (.tmp 7) 22 rfl w.heap.size 5 i0 (.int .u8 0) 1 1 Tryz.underlying22 hi hz0 hz1 hz2 rfl (by decide) _ _ _ rfl (hown.alloc _) ⟨w1.heap.size, 0, none⟩ 3 3 [.int .u8 161, .int .u8 162, .int .u8 163] rfl rfl (cells_new _ _ _ _ rfl) (by intro u hu; simp at hu; rcases hu with rfl | rfl | rfl <;> rfl) (by unfold maxLen; omega) (by omega) (by have := hb.size; simp; omega) ?_; intro v' w2 hown1 hgrow1 hnil1)
  go_ret
  rcases hown1.2 with ⟨hv, hn0⟩ | ⟨g, cap, cur, hv, r⟩
  · omega
  · subst hv
    exact ⟨g, cap, rfl, by simpa [three] using hown1, (hb.alloc hb.size _).grown hgrow1 (by simp; have := hb.size; omega) (fun k hk => (hown.lt k hk).1)⟩

/-- The entry behind a list. -/
def spareE : Ent := ⟨⟨#[115, 112, 97, 114, 101]⟩, -7, 0⟩
/-- What listed leaves. -/
def MadeE (w : World) (e : Ending) (w' : World) (n : Nat) (l : List Ent) : Prop :=
  ∃ g cap, e = .returned (.slice (some ⟨g, 0, none⟩) n cap) ∧ w'.ownsRow w.heap.size 86 3 (.slice (some ⟨g, 0, none⟩) n cap) n (entCells l) ∧ Below w.heap.size w w'
theorem entCells_one (e : Ent) : entCells [e] = [.string e.name, .int .i64 e.id, .int .i64 e.kind] := rfl
theorem entCells_take {l : List Ent} {k : Nat} (h : k < l.length) : entCells (l.take k) ++ [.string l[k].name, .int .i64 l[k].id, .int .i64 l[k].kind] = entCells (l.take (k + 1)) := by
  rw [List.take_succ_eq_append_getElem h, entCells_app, entCells_one]
set_option maxHeartbeats 1000000 in
theorem listed4 (l : List Ent) (lo : Option Addr) (n lc : Nat) (w : World) (hE : CLies w lo n lc 3 (entCells l)) (hl : l.length = n) (hn : n ≤ 1000000000) :
    Calls Tryz.prog 42 #[.slice lo n lc] w fun e w' => MadeE w e w' (n + 1) (l ++ [spareE]) := by
  obtain ⟨i0, hi, hz0, hz1, hz2⟩ := info_parts Tryz.infoEntry
  have hni : (n : Int) ≤ 1000000000 := by omega
  have HL : Hid (l.length = n) := hl
  clear hl
  go_enter Tryz.func42, Tryz.ntmps42
  go_wp2
  go_loopw [3, 4] (fun m i wr => ∃ k : Nat, k ≤ n ∧ i = .int .i64 k ∧ wr.ownsRow w.heap.size 86 3 m k (entCells (l.take k)) ∧ Below w.heap.size w wr) (fun _ i _ => n - (intOf i).toNat)
  case atStart => exact ⟨0, Nat.zero_le _, rfl, ⟨by simp [entCells], Or.inl ⟨rfl, rfl⟩⟩, Below.refl _ _⟩
  case round =>
    obtain ⟨k, hk, rfl, hown, hb⟩ := hrel
    have hbs := hb.size
    by_cases hlt : k < n
    · have hki : decide ((k : Int) < (n : Int)) = true := by simpa using hlt
      have hkl : k < l.length := by have := HL.out; omega
      obtain ⟨b', o', rfl, hbw, q0, q1, q2⟩ := ents_at hE hkl
      have q0 := cell_later hb q0 (Nat.le_refl _)
      have q1 := cell_later hb q1 (Nat.le_refl _)
      have q2 := cell_later hb q2 (Nat.le_refl _)
      have hnx := entCells_take hkl
      have HX : Hid (entCells (l.take k) ++ [.string l[k].name, .int .i64 l[k].id, .int .i64 l[k].kind] = entCells (l.take (k + 1))) := hnx
      clear hnx hE
      generalize l[k] = x at *
      obtain ⟨nm, id, kd⟩ := x
      simp only at q0 q1 q2
      go_wp2_with (at_builtin; refine wpList_append_own _ rfl (.tmp 11) (.tmp 16) 28 rfl w.heap.size 86 i0 (.agg #[.string ⟨#[]⟩, .int .i64 0, .int .i64 0]) 3 32 Tryz.underlying28 hi hz0 hz1 hz2 rfl (by decide) _ _ _ rfl (hown.alloc _) ⟨wr.heap.size, 0, none⟩ 1 1 [.string nm, .int .i64 id, .int .i64 kd] rfl rfl (cells_new _ _ 86 _ (by simp)) (by intro u hu; simp at hu; rcases hu with rfl | rfl | rfl <;> rfl) (by unfold maxLen; omega) (by omega) (by simp; omega) ?_; intro v' w1 hown1 hgrow1 hnil1)
      go_roundw
      case rel =>
        have h1 := HX.out
        simp only at h1
        refine ⟨k + 1, by omega, by go_num, by rw [← h1]; exact hown1, ?_⟩
        exact (hb.alloc hb.size _).grown hgrow1 (by simp; omega) (fun k hk => (hown.lt k hk).1)
      case measure => simp [intOf]; omega
    · have hki : decide ((k : Int) < (n : Int)) = false := by simp; omega
      obtain rfl : k = n := by omega
      have hall : l.take k = l := List.take_of_length_le (by have := HL.out; omega)
      rw [hall] at hown
      clear hE hall
      go_wp2_with (at_builtin; refine wpList_append_own _ rfl (.tmp 18) (.tmp 20) 28 rfl w.heap.size 86 i0 (.agg #[.string ⟨#[]⟩, .int .i64 0, .int .i64 0]) 3 32 Tryz.underlying28 hi hz0 hz1 hz2 rfl (by decide) _ _ _ rfl (hown.alloc _) ⟨wr.heap.size, 0, none⟩ 1 1 [.string ⟨#[115, 112, 97, 114, 101]⟩, .int .i64 (-7), .int .i64 0] rfl rfl (cells_new _ _ 86 _ (by simp)) (by intro u hu; simp at hu; rcases hu with rfl | rfl | rfl <;> rfl) (by unfold maxLen; omega) (by omega) (by simp; omega) ?_; intro v' w1 hown1 hgrow1 hnil1)
      go_ret
      rcases hown1.2 with ⟨hv, hn0⟩ | ⟨g, cap, cur, hv, r⟩
      · omega
      · subst hv
        refine ⟨g, cap, rfl, by rw [entCells_app]; exact hown1, ?_⟩
        exact (hb.alloc hb.size _).grown hgrow1 (by simp; omega) (fun k hk => (hown.lt k hk).1)
end Go.Proofs.YtdkcplndplhblaaGreatDoor

/- Book.entries by its contract. -/
namespace Go.Proofs.YtdkcplndplhblaaGreatDoor
open Go.RowKit
set_option maxRecDepth 100000

theorem Tryz.info28 : (Tryz.prog.info? 28).map (fun i => (i.zero, i.size, i.bytes)) = some (some (.slice none 0 0), 1, 24) := by kernel_rfl
theorem own_tyS {w w' : World} {base e s n : Nat} {v : Value} {xs : List Value} (h : w.ownsRow base e s v n xs) (t : Ty e w w') : w'.ownsRow base e s v n xs := by
  obtain ⟨h1, h2⟩ := h
  refine ⟨h1, ?_⟩
  rcases h2 with h2 | ⟨g, cap, cur, hv, hg, hh, r⟩
  · exact Or.inl h2
  · exact Or.inr ⟨g, cap, cur, hv, hg, t g cur hh, r⟩
/-- The lists of entries with three more. -/
theorem Ek.more {w wd : World} {base i : Nat} {C C' : Nat → Prop} {fs : List Bl} {vE vE' : Value} {e0 e1 e2 : Bl} (hE : Ek w base vE C fs) (hfs : fs.length = 3 * i) (hcc : ∀ k, C k → C' k) (ht : Ty 86 w wd)
    (hR : wd.ownsRow base 28 1 vE' (3 * i + 3) (fs.map Bl.val ++ [e0.val, e1.val, e2.val])) (hCE : ∀ k, vE'.ownBlock = some k → C' k)
    (h0 : wd.ownsRow base 86 3 e0.val e0.len (fullE i e0.len)) (h1 : wd.ownsRow base 86 3 e1.val e1.len (fullE i e1.len)) (h2 : wd.ownsRow base 86 3 e2.val e2.len (fullE i e2.len))
    (b0 : ∀ b, e0.val.ownBlock = some b → C' b) (b1 : ∀ b, e1.val.ownBlock = some b → C' b) (b2 : ∀ b, e2.val.ownBlock = some b → C' b) : Ek wd base vE' C' (fs ++ [e0, e1, e2]) := by
  have hlen : (fs ++ [e0, e1, e2]).length = 3 * i + 3 := by simp [hfs]
  refine ⟨?_, hCE, fun j hj => ?_, fun e he b hb => ?_⟩
  · rw [hlen, List.map_append]; exact hR
  · by_cases hjl : j < fs.length
    · rw [List.getElem_append_left hjl]
      exact own_tyS (hE.lies j hjl) ht
    · rw [List.getElem_append_right (by omega)]
      have hd : j / 3 = i := by omega
      rw [hd]
      rcases (show j - fs.length = 0 ∨ j - fs.length = 1 ∨ j - fs.length = 2 by omega) with h | h | h <;> simp only [h]
      · exact h0
      · exact h1
      · exact h2
  · rcases List.mem_append.1 he with h | h
    · exact hcc _ (hE.mine e h b hb)
    · simp at h
      rcases h with rfl | rfl | rfl
      · exact b0 _ hb
      · exact b1 _ hb
      · exact b2 _ hb

set_option maxHeartbeats 2000000 in
theorem entries_any (base bk i n cl : Nat) (vE : Value) (B C : Nat → Prop) (es fs : List Bl) (al : Option Addr) (xs : List Value) (w : World) (hbase : base ≤ w.heap.size) (hB : Bk w base bk vE B es) (hE : Ek w base vE C fs) (hBC : ∀ k, C k → ¬ B k) (hfs : fs.length = 3 * i) (hi : i ≤ 100000000) (hn : n ≤ 2000000)
    (hown : w.ownsRow base 86 3 (.slice al n cl) n xs) (hnB : ∀ b, (Value.slice al n cl).ownBlock = some b → ¬ B b ∧ ¬ C b) :
    Calls Tryz.prog 58 #[.pointer (some ⟨bk, 0, none⟩), .slice al n cl] w fun e w' => e = .returned (.tuple #[]) ∧ ∃ vE' e1 e2, Bk w' base bk vE' B es ∧ Ek w' base vE' (fun k => C k ∨ (Value.slice al n cl).ownBlock = some k ∨ w.heap.size ≤ k) (fs ++ [⟨al, n, cl⟩, e1, e2]) ∧ e1.len = n + 1 ∧ e2.len = n + 41 ∧ FrO (fun k => C k ∨ k = bk) [(Value.slice al n cl).ownBlock] w w' := by
  obtain ⟨i5, hi5, hz0, hz1, hz2⟩ := info_parts Tryz.infoEntry
  have hii : (i : Int) ≤ 100000000 := by omega
  have hni : (n : Int) ≤ 2000000 := by omega
  obtain ⟨⟨vL, vN, hbox, _, _, _, _⟩, hbk, _, _⟩ := id hB
  have hr := hE.row
  rw [hfs] at hr
  obtain ⟨aE, cE, rfl⟩ := own_val hr
  have b2 : w.cell? ⟨bk, 2, none⟩ = some (.slice aE (3 * i) cE) := by rw [cell_of_row w bk 2 _ _ (0, 0) hbox]; rfl
  have hdiv : ((3 * i : Nat) : Int) / 3 = i := by omega
  have hwr : wrap64 (i : Int) = i := by unfold wrap64; omega
  go_enter Tryz.func58, Tryz.ntmps58
  go_wp2_with fail
  refine (entry4_any i _ (by omega)).mono ?_
  rintro e w1 ⟨rfl, hb1⟩
  go_wp2_with fail
  have hBw2 : Below w.heap.size w (w1.alloc (.cells #[.string ⟨#[]⟩, .int .i64 (-1 - (i : Int)), .int .i64 0] 86)) := hb1.alloc hb1.size _
  have hmb2 : (w1.alloc (.cells #[.string ⟨#[]⟩, .int .i64 (-1 - (i : Int)), .int .i64 0] 86)).heap[w1.heap.size]? = some (.cells #[.string ⟨#[]⟩, .int .i64 (-1 - (i : Int)), .int .i64 0] 86) := heap_alloc_new w1 _
  generalize w1.alloc (.cells #[.string ⟨#[]⟩, .int .i64 (-1 - (i : Int)), .int .i64 0] 86) = w2 at *
  have hmb := hb1.size
  generalize w1.heap.size = mb at *
  have ho2 := own_later hown hBw2
  have hlt := fun b hb => (hown.lt b hb).2
  have hnm : (Value.slice al n cl).ownBlock ≠ some mb := fun h => by have := hlt mb h; omega
  clear hb1
  go_loopw [5] (fun j wr => ∃ k : Nat, k ≤ n ∧ j = .int .i64 k ∧ wr.ownsRow base 86 3 (.slice al n cl) n (fullE i k ++ xs.drop (k * 3)) ∧ w2.grownBy wr (Value.slice al n cl).ownBlock) (fun j _ => n - (intOf j).toNat)
  case atStart => exact ⟨0, Nat.zero_le _, rfl, by simpa [fullE] using ho2, World.grownBy.refl _ _⟩
  case round =>
    obtain ⟨k, hk, rfl, ho, hg⟩ := hrel
    have hmr := (hg.block mb (lt_of_block hmb2) (fun h => hnm h.symm)).trans hmb2
    have m0 : wr.cell? ⟨mb, 0, none⟩ = some (.string ⟨#[]⟩) := (cell_of_row wr mb 0 _ _ (0, 0) hmr).trans rfl
    have m1 : wr.cell? ⟨mb, 1, none⟩ = some (.int .i64 (-1 - (i : Int))) := (cell_of_row wr mb 1 _ _ (0, 0) hmr).trans rfl
    have m2 : wr.cell? ⟨mb, 2, none⟩ = some (.int .i64 0) := (cell_of_row wr mb 2 _ _ (0, 0) hmr).trans rfl
    by_cases hlt : k < n
    · obtain ⟨g, rfl⟩ : ∃ g, al = some ⟨g, 0, none⟩ := by
        rcases ho.2 with ⟨_, h0⟩ | ⟨g, c, cur, hv, _⟩
        · omega
        · cases hv; exact ⟨g, rfl⟩
      have hcell : ∀ d, d < 3 → ∃ z, wr.cell? ⟨g, k * 3 + d, none⟩ = some z := by
        intro d hd
        rw [ho.cellAt (k * 3 + d) (by omega)]
        exact ⟨_, List.getElem?_eq_getElem (by rw [ho.1]; omega)⟩
      obtain ⟨z0, c0⟩ := hcell 0 (by omega)
      rw [Nat.add_zero] at c0
      obtain ⟨z1, c1⟩ := hcell 1 (by omega)
      obtain ⟨z2, c2⟩ := hcell 2 (by omega)
      have c1' := (World.cell?_setCell_other wr ⟨g, k * 3, none⟩ ⟨g, k * 3 + 1, none⟩ (.string ⟨#[]⟩) (by simp)).trans c1
      have f0 := ho.frozenAt (k * 3)
      have f1 := ho.frozenAt (k * 3 + 1)
      have f2 := ho.frozenAt (k * 3 + 2)
      have s0 := ho.stored (k * 3) (.string ⟨#[]⟩)
      have s1 := s0.1.stored (k * 3 + 1) (.int .i64 (-1 - (i : Int)))
      have s2 := s1.1.stored (k * 3 + 2) (.int .i64 0)
      have f1' := (ho.stored (k * 3) (.string ⟨#[]⟩)).1.frozenAt (k * 3 + 1)
      have f2' := s1.1.frozenAt (k * 3 + 2)
      have c2' := (World.cell?_setCell_other _ ⟨g, k * 3 + 1, none⟩ ⟨g, k * 3 + 2, none⟩ (.int .i64 (-1 - (i : Int))) (by simp)).trans ((World.cell?_setCell_other wr ⟨g, k * 3, none⟩ ⟨g, k * 3 + 2, none⟩ (.string ⟨#[]⟩) (by simp)).trans c2)
      have hxl := hown.1
      have hst := s2.1
      rw [set_ent i k xs (by omega)] at hst
      have HST : Hid _ := And.intro hst (grown_trans (grown_trans s0.2 s1.2) s2.2)
      clear hst s0 s1 s2
      go_wp2_with fail
      go_roundw
      case rel => exact ⟨k + 1, by omega, by go_num, HST.out.1, grown_trans hg HST.out.2⟩
      case measure => simp [intOf]; omega
    · obtain rfl : k = n := by omega
      have ho1 : wr.ownsRow base 86 3 (.slice al k cl) k (fullE i k) := by
        have := ho
        rw [List.drop_of_length_le (by have := hown.1; omega), List.append_nil] at this
        exact this
      clear ho ho2
      have hsz := hg.size
      have hsw := hBw2.size
      have hob : ∀ b, (Value.slice al k cl).ownBlock = some b → (Value.slice al k cl).ownBlock = some b ∨ w2.heap.size ≤ b := fun b hb => .inl hb
      have eS : ∀ q, fullE i (q + 1) = fullE i q ++ [.string ⟨#[]⟩, .int .i64 (-1 - (i : Int)), .int .i64 0] := fun q => fullE_snoc i q
      have ES : Hid _ := eS
      clear eS
      go_wp2_with (first
        | (at_builtin; refine wpList_append_own_split _ rfl _ _ 28 rfl base 86 i5 (.agg #[.string ⟨#[]⟩, .int .i64 0, .int .i64 0]) 3 32 Tryz.underlying28 hi5 hz0 hz1 hz2 rfl (by decide) _ _ _ rfl (ho1.alloc _) ⟨wr.heap.size, 0, none⟩ 1 1 [.string ⟨#[]⟩, .int .i64 (-1 - (i : Int)), .int .i64 0] (by decide) rfl rfl (cells_new _ _ 86 _ (by simp)) (by intro u hu; simp at hu; rcases hu with rfl | rfl | rfl <;> rfl) (by unfold maxLen; omega) (by omega) (by simp; omega) ?_; intro v1 u1 hv1 hl1; rw [← ES.out] at hv1; have hg1 := laid_grown (grown_trans hg (World.grownBy_alloc wr (.cells #[.string ⟨#[]⟩, .int .i64 (-1 - (i : Int)), .int .i64 0] 86) _)) hob hl1; have hq1 := own_beside3 (ho1.alloc _) hl1 hv1 (ho1.alloc _) (by omega); have hsz1 := hg1.1.size; have hm1 := (hg1.1.block mb (lt_of_block hmb2) (fun h => hnm h.symm)).trans hmb2; have p0 : u1.cell? ⟨mb, 0, none⟩ = some (.string ⟨#[]⟩) := (cell_of_row u1 mb 0 _ _ (0, 0) hm1).trans rfl; have p1 : u1.cell? ⟨mb, 1, none⟩ = some (.int .i64 (-1 - (i : Int))) := (cell_of_row u1 mb 1 _ _ (0, 0) hm1).trans rfl; have p2 : u1.cell? ⟨mb, 2, none⟩ = some (.int .i64 0) := (cell_of_row u1 mb 2 _ _ (0, 0) hm1).trans rfl)
        | (at_builtin; refine wpList_append_own_split _ rfl _ _ 28 rfl base 86 i5 (.agg #[.string ⟨#[]⟩, .int .i64 0, .int .i64 0]) 3 32 Tryz.underlying28 hi5 hz0 hz1 hz2 rfl (by decide) _ _ _ rfl (hq1.alloc _) ⟨u1.heap.size, 0, none⟩ 1 1 [.string ⟨#[]⟩, .int .i64 (-1 - (i : Int)), .int .i64 0] (by decide) rfl rfl (cells_new _ _ 86 _ (by simp)) (by intro u hu; simp at hu; rcases hu with rfl | rfl | rfl <;> rfl) (by unfold maxLen; omega) (by omega) (by simp; omega) ?_; intro v2 u2 hv2 hl2; rw [← ES.out] at hv2; have hg2 := laid_grown (grown_trans hg1.1 (World.grownBy_alloc u1 (.cells #[.string ⟨#[]⟩, .int .i64 (-1 - (i : Int)), .int .i64 0] 86) _)) hob hl2; have hl2o := own_beside3 (hq1.alloc _) hl2 hv2 (hq1.alloc _) (by omega); have h12o := own_beside3 (hq1.alloc _) hl2 hv2 (hv1.alloc _) (by omega)))
      clear ho1 hq1 hl1 hl2 hv1 m0 m1 m2 p0 p1 p2 hm1 hmr
      go_loopw [7, 8] (fun v j wr => ∃ m : Nat, m ≤ 40 ∧ j = .int .i64 m ∧ wr.ownsRow base 86 3 v (k + 1 + m) (fullE i (k + 1 + m)) ∧ wr.ownsRow base 86 3 (.slice al k cl) k (fullE i k) ∧ wr.ownsRow base 86 3 v1 (k + 1) (fullE i (k + 1)) ∧
          w2.grownBy wr (Value.slice al k cl).ownBlock ∧ (∀ b, v.ownBlock = some b → (Value.slice al k cl).ownBlock = some b ∨ w2.heap.size ≤ b)) (fun _ j _ => 40 - (intOf j).toNat)
      case atStart => exact ⟨0, by omega, rfl, hv2, hl2o, h12o, hg2.1, hg2.2⟩
      case round =>
        clear hv2 hl2o h12o hg2 hg hsz
        obtain ⟨m, hm40, rfl, hv, hlo, h1o, hg, hvb⟩ := hrel
        have hsz := hg.size
        have hmr := (hg.block mb (lt_of_block hmb2) (fun h => hnm h.symm)).trans hmb2
        by_cases hlt : m < 40
        · have hmi : (m : Int) < 40 := by omega
          have m0 : wr.cell? ⟨mb, 0, none⟩ = some (.string ⟨#[]⟩) := (cell_of_row wr mb 0 _ _ (0, 0) hmr).trans rfl
          have m1 : wr.cell? ⟨mb, 1, none⟩ = some (.int .i64 (-1 - (i : Int))) := (cell_of_row wr mb 1 _ _ (0, 0) hmr).trans rfl
          have m2 : wr.cell? ⟨mb, 2, none⟩ = some (.int .i64 0) := (cell_of_row wr mb 2 _ _ (0, 0) hmr).trans rfl
          generalize hz : k + 1 + m = z at *
          go_wp2_with (at_builtin; refine wpList_append_own_split _ rfl _ _ 28 rfl base 86 i5 (.agg #[.string ⟨#[]⟩, .int .i64 0, .int .i64 0]) 3 32 Tryz.underlying28 hi5 hz0 hz1 hz2 rfl (by decide) _ _ _ rfl (hv.alloc _) ⟨wr.heap.size, 0, none⟩ 1 1 [.string ⟨#[]⟩, .int .i64 (-1 - (i : Int)), .int .i64 0] (by decide) rfl rfl (cells_new _ _ 86 _ (by simp)) (by intro u hu; simp at hu; rcases hu with rfl | rfl | rfl <;> rfl) (by unfold maxLen; omega) (by omega) (by simp; omega) ?_; intro v3 u3 hv3 hl3)
          rw [← ES.out] at hv3
          have hg3 := laid_grown (grown_trans hg (World.grownBy_alloc wr (.cells #[.string ⟨#[]⟩, .int .i64 (-1 - (i : Int)), .int .i64 0] 86) _)) hvb hl3
          have hlo3 := own_beside3 (hv.alloc _) hl3 hv3 (hlo.alloc _) (by omega)
          have h1o3 := own_beside3 (hv.alloc _) hl3 hv3 (h1o.alloc _) (by omega)
          subst hz
          go_roundw
          case rel => exact ⟨m + 1, by omega, by go_num, hv3, hlo3, h1o3, hg3.1, hg3.2⟩
          case measure => simp [intOf]; omega
        · obtain rfl : m = 40 := by omega
          obtain ⟨i24, hi24, hy0, hy1, hy2⟩ := info_parts Tryz.info28
          obtain ⟨a1, c1, rfl⟩ := own_val h1o
          obtain ⟨a2, c2, rfl⟩ := own_val hv
          have hold : ∀ b, b < w.heap.size → (Value.slice al k cl).ownBlock ≠ some b → wr.heap[b]? = w.heap[b]? := fun b hb hn => (hg.block b (by omega) (fun h => hn h.symm)).trans (hBw2.block b hb)
          have hboxr : wr.heap[bk]? = some (.cells #[vL, vN, .slice aE (3 * i) cE] 59) := (hold bk (lt_of_block hbox) (fun h => (hnB bk h).1 hbk.2)).trans hbox
          have hCr : ∀ b, b < w.heap.size → C b → wr.heap[b]? = w.heap[b]? := fun b hb hc => hold b hb (fun h => (hnB b h).2 hc)
          have hEr := hE.keep hCr
          have hrr := hEr.row
          rw [hfs] at hrr
          have hnC : ¬ C bk := fun h => hBC bk h hbk.2
          have b2r : wr.cell? ⟨bk, 2, none⟩ = some (.slice aE (3 * i) cE) := (cell_of_row wr bk 2 _ _ (0, 0) hboxr).trans rfl
          have hrra := hrr.alloc (.cells #[.slice al k cl, .slice a1 (k + 1) c1, .slice a2 (k + 1 + 40) c2] 28)
          have hTA := Ty.alloc 86 wr (.cells #[.slice al k cl, .slice a1 (k + 1) c1, .slice a2 (k + 1 + 40) c2] 28)
          have hFA := Fr.alloc C wr (.cells #[.slice al k cl, .slice a1 (k + 1) c1, .slice a2 (k + 1 + 40) c2] 28)
          have HE : Hid (Ek w base (.slice aE (3 * i) cE) C fs) := hE
          have HB : Hid (Bk w base bk (.slice aE (3 * i) cE) B es) := hB
          have HR : Hid (Ek wr base (.slice aE (3 * i) cE) C fs) := hEr
          clear hE hB hEr b2 hmr
          go_wp2_with (at_builtin; refine wpList_append_own_split _ rfl _ _ 57 rfl base 28 i24 (.slice none 0 0) 1 24 Tryz.underlying57 hi24 hy0 hy1 hy2 rfl (by decide) _ _ _ rfl hrra ⟨wr.heap.size, 0, none⟩ 3 3 [.slice al k cl, .slice a1 (k + 1) c1, .slice a2 (k + 1 + 40) c2] (by decide) rfl rfl (cells_new _ _ _ _ rfl) (by intro u hu; simp at hu; rcases hu with rfl | rfl | rfl <;> rfl) (by unfold maxLen; omega) (by omega) (by simp; omega) ?_; intro vA uA hoA hlA; have hF1 := hFA.trans (Fr.laid hlA HE.out.hC); have hboxA := (hF1.block bk (lt_of_block hboxr) hnC).trans hboxr; obtain ⟨aA, cA, rfl⟩ := own_val hoA; have f2 : uA.cell? ⟨bk, 2, none⟩ = some (.slice aE (3 * i) cE) := (cell_of_row uA bk 2 _ _ (0, 0) hboxA).trans rfl; have z2 := frozen_of_row uA bk 2 _ _ hboxA)
          first | go_end0 | refine bodyPost_ret (results_none rfl _ _ _) rfl ?_
          have hboxD : (uA.setCell ⟨bk, 2, none⟩ (.slice aA (3 * i + 3) cA)).heap[bk]? = some (.cells #[vL, vN, .slice aA (3 * i + 3) cA] 59) := heap_setCell_same uA bk 2 _ _ _ hboxA
          have hT : Ty 86 wr (uA.setCell ⟨bk, 2, none⟩ (.slice aA (3 * i + 3) cA)) := hTA.trans ((Ty.laid hlA hrra (by decide)).trans (Ty.set (j := 2) hboxA (by decide) _))
          have hbw := lt_of_block hbox
          have hF : FrO (fun b => C b ∨ b = bk) [(Value.slice al k cl).ownBlock] w (uA.setCell ⟨bk, 2, none⟩ (.slice aA (3 * i + 3) cA)) := by
            refine ⟨hF1.os.trans (hg.os.trans hBw2.os), hF1.tape.trans (hg.tape.trans hBw2.tape), hF1.output.trans (hg.output.trans hBw2.output), by have := hF1.size; simp; omega, fun b hb hc ho => ?_⟩
            rw [heap_setCell_other _ _ _ _ (fun h => hc (.inr h)), hF1.block b (by omega) (fun h => hc (.inl h))]
            exact hold b hb (fun h => ho (by simp [h]))
          refine ⟨rfl, .slice aA (3 * i + 3) cA, ⟨a1, k + 1, c1⟩, ⟨a2, k + 1 + 40, c2⟩, ?_, ?_, rfl, rfl, hF⟩
          · refine HB.out.newE (fun b hb hBb hne => hF.block b hb (fun h => ?_) (fun h => ?_)) (fun x y hx => ?_)
            · rcases h with h | h
              · exact hBC b h hBb
              · exact hne h
            · simp at h
              exact (hnB b h.symm).1 hBb
            · rw [hbox] at hx
              simp at hx
              obtain ⟨rfl, rfl⟩ := hx
              exact hboxD
          · refine HR.out.more hfs (fun b hb => .inl hb) hT (own_ty hoA (Ty.set (j := 2) hboxA (by decide) _)) (fun b hb => ?_) (own_tyS hlo hT) (own_tyS h1o hT) (own_tyS hv hT) (fun b hb => .inr (.inl hb)) (fun b hb => .inr ((hg1.2 b hb).imp_right fun h => by omega)) (fun b hb => .inr ((hvb b hb).imp_right fun h => by omega))
            rcases laid_at hlA b hb with h | h
            · exact .inl (HE.out.hC b h)
            · exact .inr (.inr (by simp at h; omega))
end Go.Proofs.YtdkcplndplhblaaGreatDoor
