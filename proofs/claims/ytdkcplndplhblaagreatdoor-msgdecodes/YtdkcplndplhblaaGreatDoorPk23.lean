/- What the walks of annexref4.RequestBytes and ReplyBytes use. -/
import Derived.Test.YtdkcplndplhblaaGreatDoorPk17
import Derived.Test.YtdkcplndplhblaaGreatDoorPk13
import Derived.Test.YtdkcplndplhblaaGreatDoorPk21
import Derived.Test.YtdkcplndplhblaaGreatDoorPk22
import Derived.Test.YtdkcplndplhblaaGreatDoorPk15
namespace Go.Proofs.YtdkcplndplhblaaGreatDoor
open Go.RowKit
set_option maxRecDepth 100000

theorem rq_later {w w' : World} {B Bd : Nat} {cl sq ak ep op id id2 off len : Int} {path name name2 : ByteArray} {dt : List Int} {ao : Option Addr} {n c : Nat} (h : RqBox w B ⟨cl, sq, ak, ep, op, id, id2, off, len, path, name, name2, dt⟩ ao n c) (hb : Below Bd w w') (hB : w.heap.size ≤ Bd) :
    RqBox w' B ⟨cl, sq, ak, ep, op, id, id2, off, len, path, name, name2, dt⟩ ao n c := RqBox.later h hb hB
theorem padk_le (n : Nat) : padN n ≤ 3 := by unfold padN; omega
end Go.Proofs.YtdkcplndplhblaaGreatDoor

/- annexref4.ReplyBytes, where the letters are of one kind. -/
namespace Go.Proofs.YtdkcplndplhblaaGreatDoor
open Go.RowKit
set_option maxRecDepth 100000

set_option maxHeartbeats 4000000 in
theorem rpbytes_e (cl sq ep op st ai ak az ac : Int) (data : List Int) (list : List Ent) (mr : Bool) (ao : Option Addr) (n c : Nat) (lo : Option Addr) (ln lc : Nat) (w : World) (hg : glets op st = ⟨#[]⟩) (hh : hasRp op st = []) :
    Calls Tryz.prog 55 #[rpV ⟨cl, sq, ep, op, st, ai, ak, az, ac, data, list, mr⟩ ao n c lo ln lc] w fun e w' => ∃ ao' n' c', e = .returned (.slice ao' n' c') ∧ Lies w' ao' n' c' (nums ⟨#[65, 78, 82, 49]⟩ ++ putAll (rpHead ⟨cl, sq, ep, op, st, ai, ak, az, ac, data, list, mr⟩) ++ putAll (pick (hasRp op st) (rpAny ⟨cl, sq, ep, op, st, ai, ak, az, ac, data, list, mr⟩))) ∧ n' ≤ 1000000 ∧ Below w.heap.size w w' := by
  have HG : Hid (glets op st = ⟨#[]⟩) := hg
  have HH : Hid (hasRp op st = []) := hh
  clear hg hh
  have hcc := Go.Joins.run_convert_bytes_const_at (P := Tryz.prog) (w.alloc (.cells #[.int .i64 cl, .int .i64 sq, .int .i64 ep, .int .i64 op, .int .i64 st, .int .i64 ai, .int .i64 ak, .int .i64 az, .int .i64 ac, .slice ao n c, .slice lo ln lc, .bool mr] 30)) 22 5 #[.int .u8 65, .int .u8 78, .int .u8 82, .int .u8 49] 4 4 (w.heap.size + 1) (by simp) Tryz.underlying22 Tryz.underlying5
  have hB := RpBox.new w ⟨cl, sq, ep, op, st, ai, ak, az, ac, data, list, mr⟩ ao n c lo ln lc
  have hb0 := newBox (w.alloc (.cells #[.int .i64 cl, .int .i64 sq, .int .i64 ep, .int .i64 op, .int .i64 st, .int .i64 ai, .int .i64 ak, .int .i64 az, .int .i64 ac, .slice ao n c, .slice lo ln lc, .bool mr] 30)) (.cells #[.int .u8 65, .int .u8 78, .int .u8 82, .int .u8 49] 5 (4, 5))
  have hL0 : Lies ((w.alloc (.cells #[.int .i64 cl, .int .i64 sq, .int .i64 ep, .int .i64 op, .int .i64 st, .int .i64 ai, .int .i64 ak, .int .i64 az, .int .i64 ac, .slice ao n c, .slice lo ln lc, .bool mr] 30)).alloc (.cells #[.int .u8 65, .int .u8 78, .int .u8 82, .int .u8 49] 5 (4, 5))) (some ⟨w.heap.size + 1, 0, none⟩) 4 4 (nums ⟨#[65, 78, 82, 49]⟩) :=
    lies_mark (w.alloc (.cells #[.int .i64 cl, .int .i64 sq, .int .i64 ep, .int .i64 op, .int .i64 st, .int .i64 ai, .int .i64 ak, .int .i64 az, .int .i64 ac, .slice ao n c, .slice lo ln lc, .bool mr] 30)) [65, 78, 82, 49] 4 rfl _ rfl (4, 5) (w.heap.size + 1) (by simp)
  have hB := rp_later hB hb0 (Nat.le_refl _)
  have hq0 : Below w.heap.size w ((w.alloc (.cells #[.int .i64 cl, .int .i64 sq, .int .i64 ep, .int .i64 op, .int .i64 st, .int .i64 ai, .int .i64 ak, .int .i64 az, .int .i64 ac, .slice ao n c, .slice lo ln lc, .bool mr] 30)).alloc (.cells #[.int .u8 65, .int .u8 78, .int .u8 82, .int .u8 49] 5 (4, 5))) := (newBox w _).trans (hb0.mono (by simp))
  clear hb0
  have dla : decide ((97 : Int) ∈ nums ⟨#[]⟩) = false := by decide
  have dld : decide ((100 : Int) ∈ nums ⟨#[]⟩) = false := by decide
  have dlt : decide ((116 : Int) ∈ nums ⟨#[]⟩) = false := by decide
  go_enter Tryz.func55, Tryz.ntmps55
  go_wp2_with fail
  generalize (w.alloc (.cells #[.int .i64 cl, .int .i64 sq, .int .i64 ep, .int .i64 op, .int .i64 st, .int .i64 ai, .int .i64 ak, .int .i64 az, .int .i64 ac, .slice ao n c, .slice lo ln lc, .bool mr] 30)).alloc (.cells #[.int .u8 65, .int .u8 78, .int .u8 82, .int .u8 49] 5 (4, 5)) = wA at *
  refine (ref32 _ _ _ _ cl _ (by omega) hL0).mono ?_
  rintro e w1 ⟨a1, c1, rfl, ho, hb⟩
  have hL1 := Lies.owned ho
  have hq1 := hq0.trans (hb.mono hq0.size)
  have hB := rp_later hB hb (Nat.le_refl _)
  clear ho hb hL0 hq0
  have hB' := hB
  obtain ⟨b0, b1, b2, b3, b4, b5, b6, b7, b8, b9, b10, b11⟩ := hB'
  go_wp2_with fail
  clear b0 b1 b2 b3 b4 b5 b6 b7 b8 b9 b10 b11
  refine (ref64 _ _ _ _ sq _ (by omega) hL1).mono ?_
  rintro e w2 ⟨a2, c2, rfl, ho, hb⟩
  have hL2 := Lies.owned ho
  have hq2 := hq1.trans (hb.mono hq1.size)
  have hB := rp_later hB hb (Nat.le_refl _)
  clear ho hb hL1 hq1
  have hB' := hB
  obtain ⟨b0, b1, b2, b3, b4, b5, b6, b7, b8, b9, b10, b11⟩ := hB'
  go_wp2_with fail
  clear b0 b1 b2 b3 b4 b5 b6 b7 b8 b9 b10 b11
  refine (ref64 _ _ _ _ ep _ (by omega) hL2).mono ?_
  rintro e w3 ⟨a3, c3, rfl, ho, hb⟩
  have hL3 := Lies.owned ho
  have hq3 := hq2.trans (hb.mono hq2.size)
  have hB := rp_later hB hb (Nat.le_refl _)
  clear ho hb hL2 hq2
  have hB' := hB
  obtain ⟨b0, b1, b2, b3, b4, b5, b6, b7, b8, b9, b10, b11⟩ := hB'
  go_wp2_with fail
  clear b0 b1 b2 b3 b4 b5 b6 b7 b8 b9 b10 b11
  refine (ref32 _ _ _ _ op _ (by omega) hL3).mono ?_
  rintro e w4 ⟨a4, c4, rfl, ho, hb⟩
  have hL4 := Lies.owned ho
  have hq4 := hq3.trans (hb.mono hq3.size)
  have hB := rp_later hB hb (Nat.le_refl _)
  clear ho hb hL3 hq3
  have hB' := hB
  obtain ⟨b0, b1, b2, b3, b4, b5, b6, b7, b8, b9, b10, b11⟩ := hB'
  go_wp2_with (go_at_call 76; refine (rnum_id _ _).mono ?_; rintro e wn ⟨rfl, hwn⟩; subst wn)
  clear b0 b1 b2 b3 b4 b5 b6 b7 b8 b9 b10 b11
  refine (ref32 _ _ _ _ st _ (by omega) hL4).mono ?_
  rintro e w5 ⟨a5, c5, rfl, ho, hb⟩
  have hL5 := Lies.owned ho
  have hq5 := hq4.trans (hb.mono hq4.size)
  have hB := rp_later hB hb (Nat.le_refl _)
  clear ho hb hL4 hq4
  have hB' := hB
  obtain ⟨b0, b1, b2, b3, b4, b5, b6, b7, b8, b9, b10, b11⟩ := hB'
  go_wp2_with fail
  clear b0 b1 b2 b3 b4 b5 b6 b7 b8 b9 b10 b11
  refine (rgives_is HG.out cl sq ep ai ak az ac ao n c lo ln lc mr _).mono ?_
  rintro e wg ⟨rfl, hb⟩
  have hL5 := hL5.below hb (Nat.le_refl _)
  have hq5 := hq5.trans (hb.mono hq5.size)
  have hB := rp_later hB hb (Nat.le_refl _)
  clear hb
  have hB' := hB
  obtain ⟨b0, b1, b2, b3, b4, b5, b6, b7, b8, b9, b10, b11⟩ := hB'
  go_wp2_with (go_at_call 68; refine (rin_any _ _ _ (by decide)).mono ?_; rintro e wn ⟨rfl, hwn⟩; subst wn; first | rw [dla] | rw [dld] | rw [dlt])
  go_ret
  refine ⟨a5, _, c5, rfl, ?_, by omega, hq5⟩
  have h := hL5
  rw [HH.out]
  simpa [putAll, putV, rpHead, rpAny, pick] using h
end Go.Proofs.YtdkcplndplhblaaGreatDoor

/- annexref4.ReplyBytes, where the letters are of one kind. -/
namespace Go.Proofs.YtdkcplndplhblaaGreatDoor
open Go.RowKit
set_option maxRecDepth 100000

set_option maxHeartbeats 4000000 in
theorem rpbytes_a (cl sq ep op st ai ak az ac : Int) (data : List Int) (list : List Ent) (mr : Bool) (ao : Option Addr) (n c : Nat) (lo : Option Addr) (ln lc : Nat) (w : World) (hg : glets op st = ⟨#[97]⟩) (hh : hasRp op st = [13]) :
    Calls Tryz.prog 55 #[rpV ⟨cl, sq, ep, op, st, ai, ak, az, ac, data, list, mr⟩ ao n c lo ln lc] w fun e w' => ∃ ao' n' c', e = .returned (.slice ao' n' c') ∧ Lies w' ao' n' c' (nums ⟨#[65, 78, 82, 49]⟩ ++ putAll (rpHead ⟨cl, sq, ep, op, st, ai, ak, az, ac, data, list, mr⟩) ++ putAll (pick (hasRp op st) (rpAny ⟨cl, sq, ep, op, st, ai, ak, az, ac, data, list, mr⟩))) ∧ n' ≤ 1000000 ∧ Below w.heap.size w w' := by
  have HG : Hid (glets op st = ⟨#[97]⟩) := hg
  have HH : Hid (hasRp op st = [13]) := hh
  clear hg hh
  have hcc := Go.Joins.run_convert_bytes_const_at (P := Tryz.prog) (w.alloc (.cells #[.int .i64 cl, .int .i64 sq, .int .i64 ep, .int .i64 op, .int .i64 st, .int .i64 ai, .int .i64 ak, .int .i64 az, .int .i64 ac, .slice ao n c, .slice lo ln lc, .bool mr] 30)) 22 5 #[.int .u8 65, .int .u8 78, .int .u8 82, .int .u8 49] 4 4 (w.heap.size + 1) (by simp) Tryz.underlying22 Tryz.underlying5
  have hB := RpBox.new w ⟨cl, sq, ep, op, st, ai, ak, az, ac, data, list, mr⟩ ao n c lo ln lc
  have hb0 := newBox (w.alloc (.cells #[.int .i64 cl, .int .i64 sq, .int .i64 ep, .int .i64 op, .int .i64 st, .int .i64 ai, .int .i64 ak, .int .i64 az, .int .i64 ac, .slice ao n c, .slice lo ln lc, .bool mr] 30)) (.cells #[.int .u8 65, .int .u8 78, .int .u8 82, .int .u8 49] 5 (4, 5))
  have hL0 : Lies ((w.alloc (.cells #[.int .i64 cl, .int .i64 sq, .int .i64 ep, .int .i64 op, .int .i64 st, .int .i64 ai, .int .i64 ak, .int .i64 az, .int .i64 ac, .slice ao n c, .slice lo ln lc, .bool mr] 30)).alloc (.cells #[.int .u8 65, .int .u8 78, .int .u8 82, .int .u8 49] 5 (4, 5))) (some ⟨w.heap.size + 1, 0, none⟩) 4 4 (nums ⟨#[65, 78, 82, 49]⟩) :=
    lies_mark (w.alloc (.cells #[.int .i64 cl, .int .i64 sq, .int .i64 ep, .int .i64 op, .int .i64 st, .int .i64 ai, .int .i64 ak, .int .i64 az, .int .i64 ac, .slice ao n c, .slice lo ln lc, .bool mr] 30)) [65, 78, 82, 49] 4 rfl _ rfl (4, 5) (w.heap.size + 1) (by simp)
  have hB := rp_later hB hb0 (Nat.le_refl _)
  have hq0 : Below w.heap.size w ((w.alloc (.cells #[.int .i64 cl, .int .i64 sq, .int .i64 ep, .int .i64 op, .int .i64 st, .int .i64 ai, .int .i64 ak, .int .i64 az, .int .i64 ac, .slice ao n c, .slice lo ln lc, .bool mr] 30)).alloc (.cells #[.int .u8 65, .int .u8 78, .int .u8 82, .int .u8 49] 5 (4, 5))) := (newBox w _).trans (hb0.mono (by simp))
  clear hb0
  have dla : decide ((97 : Int) ∈ nums ⟨#[97]⟩) = true := by decide
  have dld : decide ((100 : Int) ∈ nums ⟨#[97]⟩) = false := by decide
  have dlt : decide ((116 : Int) ∈ nums ⟨#[97]⟩) = false := by decide
  go_enter Tryz.func55, Tryz.ntmps55
  go_wp2_with fail
  generalize (w.alloc (.cells #[.int .i64 cl, .int .i64 sq, .int .i64 ep, .int .i64 op, .int .i64 st, .int .i64 ai, .int .i64 ak, .int .i64 az, .int .i64 ac, .slice ao n c, .slice lo ln lc, .bool mr] 30)).alloc (.cells #[.int .u8 65, .int .u8 78, .int .u8 82, .int .u8 49] 5 (4, 5)) = wA at *
  refine (ref32 _ _ _ _ cl _ (by omega) hL0).mono ?_
  rintro e w1 ⟨a1, c1, rfl, ho, hb⟩
  have hL1 := Lies.owned ho
  have hq1 := hq0.trans (hb.mono hq0.size)
  have hB := rp_later hB hb (Nat.le_refl _)
  clear ho hb hL0 hq0
  have hB' := hB
  obtain ⟨b0, b1, b2, b3, b4, b5, b6, b7, b8, b9, b10, b11⟩ := hB'
  go_wp2_with fail
  clear b0 b1 b2 b3 b4 b5 b6 b7 b8 b9 b10 b11
  refine (ref64 _ _ _ _ sq _ (by omega) hL1).mono ?_
  rintro e w2 ⟨a2, c2, rfl, ho, hb⟩
  have hL2 := Lies.owned ho
  have hq2 := hq1.trans (hb.mono hq1.size)
  have hB := rp_later hB hb (Nat.le_refl _)
  clear ho hb hL1 hq1
  have hB' := hB
  obtain ⟨b0, b1, b2, b3, b4, b5, b6, b7, b8, b9, b10, b11⟩ := hB'
  go_wp2_with fail
  clear b0 b1 b2 b3 b4 b5 b6 b7 b8 b9 b10 b11
  refine (ref64 _ _ _ _ ep _ (by omega) hL2).mono ?_
  rintro e w3 ⟨a3, c3, rfl, ho, hb⟩
  have hL3 := Lies.owned ho
  have hq3 := hq2.trans (hb.mono hq2.size)
  have hB := rp_later hB hb (Nat.le_refl _)
  clear ho hb hL2 hq2
  have hB' := hB
  obtain ⟨b0, b1, b2, b3, b4, b5, b6, b7, b8, b9, b10, b11⟩ := hB'
  go_wp2_with fail
  clear b0 b1 b2 b3 b4 b5 b6 b7 b8 b9 b10 b11
  refine (ref32 _ _ _ _ op _ (by omega) hL3).mono ?_
  rintro e w4 ⟨a4, c4, rfl, ho, hb⟩
  have hL4 := Lies.owned ho
  have hq4 := hq3.trans (hb.mono hq3.size)
  have hB := rp_later hB hb (Nat.le_refl _)
  clear ho hb hL3 hq3
  have hB' := hB
  obtain ⟨b0, b1, b2, b3, b4, b5, b6, b7, b8, b9, b10, b11⟩ := hB'
  go_wp2_with (go_at_call 76; refine (rnum_id _ _).mono ?_; rintro e wn ⟨rfl, hwn⟩; subst wn)
  clear b0 b1 b2 b3 b4 b5 b6 b7 b8 b9 b10 b11
  refine (ref32 _ _ _ _ st _ (by omega) hL4).mono ?_
  rintro e w5 ⟨a5, c5, rfl, ho, hb⟩
  have hL5 := Lies.owned ho
  have hq5 := hq4.trans (hb.mono hq4.size)
  have hB := rp_later hB hb (Nat.le_refl _)
  clear ho hb hL4 hq4
  have hB' := hB
  obtain ⟨b0, b1, b2, b3, b4, b5, b6, b7, b8, b9, b10, b11⟩ := hB'
  go_wp2_with fail
  clear b0 b1 b2 b3 b4 b5 b6 b7 b8 b9 b10 b11
  refine (rgives_is HG.out cl sq ep ai ak az ac ao n c lo ln lc mr _).mono ?_
  rintro e wg ⟨rfl, hb⟩
  have hL5 := hL5.below hb (Nat.le_refl _)
  have hq5 := hq5.trans (hb.mono hq5.size)
  have hB := rp_later hB hb (Nat.le_refl _)
  clear hb
  have hB' := hB
  obtain ⟨b0, b1, b2, b3, b4, b5, b6, b7, b8, b9, b10, b11⟩ := hB'
  go_wp2_with (go_at_call 68; refine (rin_any _ _ _ (by decide)).mono ?_; rintro e wn ⟨rfl, hwn⟩; subst wn; first | rw [dla] | rw [dld] | rw [dlt])
  clear b0 b1 b2 b3 b4 b5 b6 b7 b8 b9 b10 b11
  refine (ref64 _ _ _ _ ai _ (by omega) hL5).mono ?_
  rintro e w6 ⟨a6, c6, rfl, ho, hb⟩
  have hL6 := Lies.owned ho
  have hq6 := hq5.trans (hb.mono hq5.size)
  have hB := rp_later hB hb (Nat.le_refl _)
  clear ho hb hL5 hq5
  have hB' := hB
  obtain ⟨b0, b1, b2, b3, b4, b5, b6, b7, b8, b9, b10, b11⟩ := hB'
  go_wp2_with fail
  clear b0 b1 b2 b3 b4 b5 b6 b7 b8 b9 b10 b11
  refine (ref32 _ _ _ _ ak _ (by omega) hL6).mono ?_
  rintro e w7 ⟨a7, c7, rfl, ho, hb⟩
  have hL7 := Lies.owned ho
  have hq7 := hq6.trans (hb.mono hq6.size)
  have hB := rp_later hB hb (Nat.le_refl _)
  clear ho hb hL6 hq6
  have hB' := hB
  obtain ⟨b0, b1, b2, b3, b4, b5, b6, b7, b8, b9, b10, b11⟩ := hB'
  go_wp2_with fail
  clear b0 b1 b2 b3 b4 b5 b6 b7 b8 b9 b10 b11
  refine (ref32 _ _ _ _ az _ (by omega) hL7).mono ?_
  rintro e w8 ⟨a8, c8, rfl, ho, hb⟩
  have hL8 := Lies.owned ho
  have hq8 := hq7.trans (hb.mono hq7.size)
  have hB := rp_later hB hb (Nat.le_refl _)
  clear ho hb hL7 hq7
  have hB' := hB
  obtain ⟨b0, b1, b2, b3, b4, b5, b6, b7, b8, b9, b10, b11⟩ := hB'
  go_wp2_with fail
  clear b0 b1 b2 b3 b4 b5 b6 b7 b8 b9 b10 b11
  refine (ref64 _ _ _ _ ac _ (by omega) hL8).mono ?_
  rintro e w9 ⟨a9, c9, rfl, ho, hb⟩
  have hL9 := Lies.owned ho
  have hq9 := hq8.trans (hb.mono hq8.size)
  have hB := rp_later hB hb (Nat.le_refl _)
  clear ho hb hL8 hq8
  have hB' := hB
  obtain ⟨b0, b1, b2, b3, b4, b5, b6, b7, b8, b9, b10, b11⟩ := hB'
  go_wp2_with (go_at_call 68; refine (rin_any _ _ _ (by decide)).mono ?_; rintro e wn ⟨rfl, hwn⟩; subst wn; first | rw [dla] | rw [dld] | rw [dlt])
  go_ret
  refine ⟨a9, _, c9, rfl, ?_, by omega, hq9⟩
  have h := hL9
  rw [HH.out]
  simpa [putAll, putV, rpHead, rpAny, pick] using h
end Go.Proofs.YtdkcplndplhblaaGreatDoor

/- annexref4.ReplyBytes, where the letters are of one kind. -/
namespace Go.Proofs.YtdkcplndplhblaaGreatDoor
open Go.RowKit
set_option maxRecDepth 100000

set_option maxHeartbeats 4000000 in
theorem rpbytes_d (cl sq ep op st ai ak az ac : Int) (data : List Int) (list : List Ent) (mr : Bool) (ao : Option Addr) (n c : Nat) (lo : Option Addr) (ln lc : Nat) (w : World) (hD : Lies w ao n c data) (hn : n ≤ 100000) (hg : glets op st = ⟨#[97, 100]⟩) (hh : hasRp op st = [13, 14]) :
    Calls Tryz.prog 55 #[rpV ⟨cl, sq, ep, op, st, ai, ak, az, ac, data, list, mr⟩ ao n c lo ln lc] w fun e w' => ∃ ao' n' c', e = .returned (.slice ao' n' c') ∧ Lies w' ao' n' c' (nums ⟨#[65, 78, 82, 49]⟩ ++ putAll (rpHead ⟨cl, sq, ep, op, st, ai, ak, az, ac, data, list, mr⟩) ++ putAll (pick (hasRp op st) (rpAny ⟨cl, sq, ep, op, st, ai, ak, az, ac, data, list, mr⟩))) ∧ n' ≤ 1000000 ∧ Below w.heap.size w w' := by
  have HG : Hid (glets op st = ⟨#[97, 100]⟩) := hg
  have HH : Hid (hasRp op st = [13, 14]) := hh
  clear hg hh
  have hcc := Go.Joins.run_convert_bytes_const_at (P := Tryz.prog) (w.alloc (.cells #[.int .i64 cl, .int .i64 sq, .int .i64 ep, .int .i64 op, .int .i64 st, .int .i64 ai, .int .i64 ak, .int .i64 az, .int .i64 ac, .slice ao n c, .slice lo ln lc, .bool mr] 30)) 22 5 #[.int .u8 65, .int .u8 78, .int .u8 82, .int .u8 49] 4 4 (w.heap.size + 1) (by simp) Tryz.underlying22 Tryz.underlying5
  have hB := RpBox.new w ⟨cl, sq, ep, op, st, ai, ak, az, ac, data, list, mr⟩ ao n c lo ln lc
  have hb0 := newBox (w.alloc (.cells #[.int .i64 cl, .int .i64 sq, .int .i64 ep, .int .i64 op, .int .i64 st, .int .i64 ai, .int .i64 ak, .int .i64 az, .int .i64 ac, .slice ao n c, .slice lo ln lc, .bool mr] 30)) (.cells #[.int .u8 65, .int .u8 78, .int .u8 82, .int .u8 49] 5 (4, 5))
  have hL0 : Lies ((w.alloc (.cells #[.int .i64 cl, .int .i64 sq, .int .i64 ep, .int .i64 op, .int .i64 st, .int .i64 ai, .int .i64 ak, .int .i64 az, .int .i64 ac, .slice ao n c, .slice lo ln lc, .bool mr] 30)).alloc (.cells #[.int .u8 65, .int .u8 78, .int .u8 82, .int .u8 49] 5 (4, 5))) (some ⟨w.heap.size + 1, 0, none⟩) 4 4 (nums ⟨#[65, 78, 82, 49]⟩) :=
    lies_mark (w.alloc (.cells #[.int .i64 cl, .int .i64 sq, .int .i64 ep, .int .i64 op, .int .i64 st, .int .i64 ai, .int .i64 ak, .int .i64 az, .int .i64 ac, .slice ao n c, .slice lo ln lc, .bool mr] 30)) [65, 78, 82, 49] 4 rfl _ rfl (4, 5) (w.heap.size + 1) (by simp)
  have hB := rp_later hB hb0 (Nat.le_refl _)
  have hq0 : Below w.heap.size w ((w.alloc (.cells #[.int .i64 cl, .int .i64 sq, .int .i64 ep, .int .i64 op, .int .i64 st, .int .i64 ai, .int .i64 ak, .int .i64 az, .int .i64 ac, .slice ao n c, .slice lo ln lc, .bool mr] 30)).alloc (.cells #[.int .u8 65, .int .u8 78, .int .u8 82, .int .u8 49] 5 (4, 5))) := (newBox w _).trans (hb0.mono (by simp))
  have hd4 := padk_le n
  clear hb0
  have dla : decide ((97 : Int) ∈ nums ⟨#[97, 100]⟩) = true := by decide
  have dld : decide ((100 : Int) ∈ nums ⟨#[97, 100]⟩) = true := by decide
  have dlt : decide ((116 : Int) ∈ nums ⟨#[97, 100]⟩) = false := by decide
  go_enter Tryz.func55, Tryz.ntmps55
  go_wp2_with fail
  generalize (w.alloc (.cells #[.int .i64 cl, .int .i64 sq, .int .i64 ep, .int .i64 op, .int .i64 st, .int .i64 ai, .int .i64 ak, .int .i64 az, .int .i64 ac, .slice ao n c, .slice lo ln lc, .bool mr] 30)).alloc (.cells #[.int .u8 65, .int .u8 78, .int .u8 82, .int .u8 49] 5 (4, 5)) = wA at *
  refine (ref32 _ _ _ _ cl _ (by omega) hL0).mono ?_
  rintro e w1 ⟨a1, c1, rfl, ho, hb⟩
  have hL1 := Lies.owned ho
  have hq1 := hq0.trans (hb.mono hq0.size)
  have hB := rp_later hB hb (Nat.le_refl _)
  clear ho hb hL0 hq0
  have hB' := hB
  obtain ⟨b0, b1, b2, b3, b4, b5, b6, b7, b8, b9, b10, b11⟩ := hB'
  go_wp2_with fail
  clear b0 b1 b2 b3 b4 b5 b6 b7 b8 b9 b10 b11
  refine (ref64 _ _ _ _ sq _ (by omega) hL1).mono ?_
  rintro e w2 ⟨a2, c2, rfl, ho, hb⟩
  have hL2 := Lies.owned ho
  have hq2 := hq1.trans (hb.mono hq1.size)
  have hB := rp_later hB hb (Nat.le_refl _)
  clear ho hb hL1 hq1
  have hB' := hB
  obtain ⟨b0, b1, b2, b3, b4, b5, b6, b7, b8, b9, b10, b11⟩ := hB'
  go_wp2_with fail
  clear b0 b1 b2 b3 b4 b5 b6 b7 b8 b9 b10 b11
  refine (ref64 _ _ _ _ ep _ (by omega) hL2).mono ?_
  rintro e w3 ⟨a3, c3, rfl, ho, hb⟩
  have hL3 := Lies.owned ho
  have hq3 := hq2.trans (hb.mono hq2.size)
  have hB := rp_later hB hb (Nat.le_refl _)
  clear ho hb hL2 hq2
  have hB' := hB
  obtain ⟨b0, b1, b2, b3, b4, b5, b6, b7, b8, b9, b10, b11⟩ := hB'
  go_wp2_with fail
  clear b0 b1 b2 b3 b4 b5 b6 b7 b8 b9 b10 b11
  refine (ref32 _ _ _ _ op _ (by omega) hL3).mono ?_
  rintro e w4 ⟨a4, c4, rfl, ho, hb⟩
  have hL4 := Lies.owned ho
  have hq4 := hq3.trans (hb.mono hq3.size)
  have hB := rp_later hB hb (Nat.le_refl _)
  clear ho hb hL3 hq3
  have hB' := hB
  obtain ⟨b0, b1, b2, b3, b4, b5, b6, b7, b8, b9, b10, b11⟩ := hB'
  go_wp2_with (go_at_call 76; refine (rnum_id _ _).mono ?_; rintro e wn ⟨rfl, hwn⟩; subst wn)
  clear b0 b1 b2 b3 b4 b5 b6 b7 b8 b9 b10 b11
  refine (ref32 _ _ _ _ st _ (by omega) hL4).mono ?_
  rintro e w5 ⟨a5, c5, rfl, ho, hb⟩
  have hL5 := Lies.owned ho
  have hq5 := hq4.trans (hb.mono hq4.size)
  have hB := rp_later hB hb (Nat.le_refl _)
  clear ho hb hL4 hq4
  have hB' := hB
  obtain ⟨b0, b1, b2, b3, b4, b5, b6, b7, b8, b9, b10, b11⟩ := hB'
  go_wp2_with fail
  clear b0 b1 b2 b3 b4 b5 b6 b7 b8 b9 b10 b11
  refine (rgives_is HG.out cl sq ep ai ak az ac ao n c lo ln lc mr _).mono ?_
  rintro e wg ⟨rfl, hb⟩
  have hL5 := hL5.below hb (Nat.le_refl _)
  have hq5 := hq5.trans (hb.mono hq5.size)
  have hB := rp_later hB hb (Nat.le_refl _)
  clear hb
  have hB' := hB
  obtain ⟨b0, b1, b2, b3, b4, b5, b6, b7, b8, b9, b10, b11⟩ := hB'
  go_wp2_with (go_at_call 68; refine (rin_any _ _ _ (by decide)).mono ?_; rintro e wn ⟨rfl, hwn⟩; subst wn; first | rw [dla] | rw [dld] | rw [dlt])
  clear b0 b1 b2 b3 b4 b5 b6 b7 b8 b9 b10 b11
  refine (ref64 _ _ _ _ ai _ (by omega) hL5).mono ?_
  rintro e w6 ⟨a6, c6, rfl, ho, hb⟩
  have hL6 := Lies.owned ho
  have hq6 := hq5.trans (hb.mono hq5.size)
  have hB := rp_later hB hb (Nat.le_refl _)
  clear ho hb hL5 hq5
  have hB' := hB
  obtain ⟨b0, b1, b2, b3, b4, b5, b6, b7, b8, b9, b10, b11⟩ := hB'
  go_wp2_with fail
  clear b0 b1 b2 b3 b4 b5 b6 b7 b8 b9 b10 b11
  refine (ref32 _ _ _ _ ak _ (by omega) hL6).mono ?_
  rintro e w7 ⟨a7, c7, rfl, ho, hb⟩
  have hL7 := Lies.owned ho
  have hq7 := hq6.trans (hb.mono hq6.size)
  have hB := rp_later hB hb (Nat.le_refl _)
  clear ho hb hL6 hq6
  have hB' := hB
  obtain ⟨b0, b1, b2, b3, b4, b5, b6, b7, b8, b9, b10, b11⟩ := hB'
  go_wp2_with fail
  clear b0 b1 b2 b3 b4 b5 b6 b7 b8 b9 b10 b11
  refine (ref32 _ _ _ _ az _ (by omega) hL7).mono ?_
  rintro e w8 ⟨a8, c8, rfl, ho, hb⟩
  have hL8 := Lies.owned ho
  have hq8 := hq7.trans (hb.mono hq7.size)
  have hB := rp_later hB hb (Nat.le_refl _)
  clear ho hb hL7 hq7
  have hB' := hB
  obtain ⟨b0, b1, b2, b3, b4, b5, b6, b7, b8, b9, b10, b11⟩ := hB'
  go_wp2_with fail
  clear b0 b1 b2 b3 b4 b5 b6 b7 b8 b9 b10 b11
  refine (ref64 _ _ _ _ ac _ (by omega) hL8).mono ?_
  rintro e w9 ⟨a9, c9, rfl, ho, hb⟩
  have hL9 := Lies.owned ho
  have hq9 := hq8.trans (hb.mono hq8.size)
  have hB := rp_later hB hb (Nat.le_refl _)
  clear ho hb hL8 hq8
  have hB' := hB
  obtain ⟨b0, b1, b2, b3, b4, b5, b6, b7, b8, b9, b10, b11⟩ := hB'
  go_wp2_with (go_at_call 68; refine (rin_any _ _ _ (by decide)).mono ?_; rintro e wn ⟨rfl, hwn⟩; subst wn; first | rw [dla] | rw [dld] | rw [dlt])
  clear b0 b1 b2 b3 b4 b5 b6 b7 b8 b9 b10 b11
  refine (refBytes _ _ _ _ ao n c data _ (by omega) (by omega) hL9 (hD.below hq9 (Nat.le_refl _))).mono ?_
  rintro e w10 ⟨a10, c10, rfl, ho, hb⟩
  have hL10 := Lies.owned ho
  have hq10 := hq9.trans (hb.mono hq9.size)
  have hB := rp_later hB hb (Nat.le_refl _)
  clear ho hb hL9 hq9
  have hB' := hB
  obtain ⟨b0, b1, b2, b3, b4, b5, b6, b7, b8, b9, b10, b11⟩ := hB'
  go_wp2_with (go_at_call 68; refine (rin_any _ _ _ (by decide)).mono ?_; rintro e wn ⟨rfl, hwn⟩; subst wn; first | rw [dla] | rw [dld] | rw [dlt])
  go_ret
  refine ⟨a10, _, c10, rfl, ?_, by omega, hq10⟩
  have h := hL10
  rw [HH.out]
  simpa [putAll, putV, rpHead, rpAny, pick, dtB, hD.hlen] using h
end Go.Proofs.YtdkcplndplhblaaGreatDoor

/- annexref4.ReplyBytes, where the letters are of one kind. -/
namespace Go.Proofs.YtdkcplndplhblaaGreatDoor
open Go.RowKit
set_option maxRecDepth 100000

set_option maxHeartbeats 4000000 in
theorem rpbytes_t (cl sq ep op st ai ak az ac : Int) (data : List Int) (list : List Ent) (mr : Bool) (ao : Option Addr) (n c : Nat) (lo : Option Addr) (ln lc : Nat) (w : World) (hE : CLies w lo ln lc 3 (entCells list)) (hel : list.length = ln) (hln : ln ≤ 16) (hnm : ∀ e ∈ list, e.name.size ≤ 1000) (hg : glets op st = ⟨#[116]⟩) (hh : hasRp op st = [15, 16]) :
    Calls Tryz.prog 55 #[rpV ⟨cl, sq, ep, op, st, ai, ak, az, ac, data, list, mr⟩ ao n c lo ln lc] w fun e w' => ∃ ao' n' c', e = .returned (.slice ao' n' c') ∧ Lies w' ao' n' c' (nums ⟨#[65, 78, 82, 49]⟩ ++ putAll (rpHead ⟨cl, sq, ep, op, st, ai, ak, az, ac, data, list, mr⟩) ++ putAll (pick (hasRp op st) (rpAny ⟨cl, sq, ep, op, st, ai, ak, az, ac, data, list, mr⟩))) ∧ n' ≤ 1000000 ∧ Below w.heap.size w w' := by
  have HG : Hid (glets op st = ⟨#[116]⟩) := hg
  have HH : Hid (hasRp op st = [15, 16]) := hh
  clear hg hh
  have hcc := Go.Joins.run_convert_bytes_const_at (P := Tryz.prog) (w.alloc (.cells #[.int .i64 cl, .int .i64 sq, .int .i64 ep, .int .i64 op, .int .i64 st, .int .i64 ai, .int .i64 ak, .int .i64 az, .int .i64 ac, .slice ao n c, .slice lo ln lc, .bool mr] 30)) 22 5 #[.int .u8 65, .int .u8 78, .int .u8 82, .int .u8 49] 4 4 (w.heap.size + 1) (by simp) Tryz.underlying22 Tryz.underlying5
  have hB := RpBox.new w ⟨cl, sq, ep, op, st, ai, ak, az, ac, data, list, mr⟩ ao n c lo ln lc
  have hb0 := newBox (w.alloc (.cells #[.int .i64 cl, .int .i64 sq, .int .i64 ep, .int .i64 op, .int .i64 st, .int .i64 ai, .int .i64 ak, .int .i64 az, .int .i64 ac, .slice ao n c, .slice lo ln lc, .bool mr] 30)) (.cells #[.int .u8 65, .int .u8 78, .int .u8 82, .int .u8 49] 5 (4, 5))
  have hL0 : Lies ((w.alloc (.cells #[.int .i64 cl, .int .i64 sq, .int .i64 ep, .int .i64 op, .int .i64 st, .int .i64 ai, .int .i64 ak, .int .i64 az, .int .i64 ac, .slice ao n c, .slice lo ln lc, .bool mr] 30)).alloc (.cells #[.int .u8 65, .int .u8 78, .int .u8 82, .int .u8 49] 5 (4, 5))) (some ⟨w.heap.size + 1, 0, none⟩) 4 4 (nums ⟨#[65, 78, 82, 49]⟩) :=
    lies_mark (w.alloc (.cells #[.int .i64 cl, .int .i64 sq, .int .i64 ep, .int .i64 op, .int .i64 st, .int .i64 ai, .int .i64 ak, .int .i64 az, .int .i64 ac, .slice ao n c, .slice lo ln lc, .bool mr] 30)) [65, 78, 82, 49] 4 rfl _ rfl (4, 5) (w.heap.size + 1) (by simp)
  have hB := rp_later hB hb0 (Nat.le_refl _)
  have hq0 : Below w.heap.size w ((w.alloc (.cells #[.int .i64 cl, .int .i64 sq, .int .i64 ep, .int .i64 op, .int .i64 st, .int .i64 ai, .int .i64 ak, .int .i64 az, .int .i64 ac, .slice ao n c, .slice lo ln lc, .bool mr] 30)).alloc (.cells #[.int .u8 65, .int .u8 78, .int .u8 82, .int .u8 49] 5 (4, 5))) := (newBox w _).trans (hb0.mono (by simp))
  have HEL : Hid (list.length = ln) := hel
  clear hel
  clear hb0
  have dla : decide ((97 : Int) ∈ nums ⟨#[116]⟩) = false := by decide
  have dld : decide ((100 : Int) ∈ nums ⟨#[116]⟩) = false := by decide
  have dlt : decide ((116 : Int) ∈ nums ⟨#[116]⟩) = true := by decide
  go_enter Tryz.func55, Tryz.ntmps55
  go_wp2_with fail
  generalize (w.alloc (.cells #[.int .i64 cl, .int .i64 sq, .int .i64 ep, .int .i64 op, .int .i64 st, .int .i64 ai, .int .i64 ak, .int .i64 az, .int .i64 ac, .slice ao n c, .slice lo ln lc, .bool mr] 30)).alloc (.cells #[.int .u8 65, .int .u8 78, .int .u8 82, .int .u8 49] 5 (4, 5)) = wA at *
  refine (ref32 _ _ _ _ cl _ (by omega) hL0).mono ?_
  rintro e w1 ⟨a1, c1, rfl, ho, hb⟩
  have hL1 := Lies.owned ho
  have hq1 := hq0.trans (hb.mono hq0.size)
  have hB := rp_later hB hb (Nat.le_refl _)
  clear ho hb hL0 hq0
  have hB' := hB
  obtain ⟨b0, b1, b2, b3, b4, b5, b6, b7, b8, b9, b10, b11⟩ := hB'
  go_wp2_with fail
  clear b0 b1 b2 b3 b4 b5 b6 b7 b8 b9 b10 b11
  refine (ref64 _ _ _ _ sq _ (by omega) hL1).mono ?_
  rintro e w2 ⟨a2, c2, rfl, ho, hb⟩
  have hL2 := Lies.owned ho
  have hq2 := hq1.trans (hb.mono hq1.size)
  have hB := rp_later hB hb (Nat.le_refl _)
  clear ho hb hL1 hq1
  have hB' := hB
  obtain ⟨b0, b1, b2, b3, b4, b5, b6, b7, b8, b9, b10, b11⟩ := hB'
  go_wp2_with fail
  clear b0 b1 b2 b3 b4 b5 b6 b7 b8 b9 b10 b11
  refine (ref64 _ _ _ _ ep _ (by omega) hL2).mono ?_
  rintro e w3 ⟨a3, c3, rfl, ho, hb⟩
  have hL3 := Lies.owned ho
  have hq3 := hq2.trans (hb.mono hq2.size)
  have hB := rp_later hB hb (Nat.le_refl _)
  clear ho hb hL2 hq2
  have hB' := hB
  obtain ⟨b0, b1, b2, b3, b4, b5, b6, b7, b8, b9, b10, b11⟩ := hB'
  go_wp2_with fail
  clear b0 b1 b2 b3 b4 b5 b6 b7 b8 b9 b10 b11
  refine (ref32 _ _ _ _ op _ (by omega) hL3).mono ?_
  rintro e w4 ⟨a4, c4, rfl, ho, hb⟩
  have hL4 := Lies.owned ho
  have hq4 := hq3.trans (hb.mono hq3.size)
  have hB := rp_later hB hb (Nat.le_refl _)
  clear ho hb hL3 hq3
  have hB' := hB
  obtain ⟨b0, b1, b2, b3, b4, b5, b6, b7, b8, b9, b10, b11⟩ := hB'
  go_wp2_with (go_at_call 76; refine (rnum_id _ _).mono ?_; rintro e wn ⟨rfl, hwn⟩; subst wn)
  clear b0 b1 b2 b3 b4 b5 b6 b7 b8 b9 b10 b11
  refine (ref32 _ _ _ _ st _ (by omega) hL4).mono ?_
  rintro e w5 ⟨a5, c5, rfl, ho, hb⟩
  have hL5 := Lies.owned ho
  have hq5 := hq4.trans (hb.mono hq4.size)
  have hB := rp_later hB hb (Nat.le_refl _)
  clear ho hb hL4 hq4
  have hB' := hB
  obtain ⟨b0, b1, b2, b3, b4, b5, b6, b7, b8, b9, b10, b11⟩ := hB'
  go_wp2_with fail
  clear b0 b1 b2 b3 b4 b5 b6 b7 b8 b9 b10 b11
  refine (rgives_is HG.out cl sq ep ai ak az ac ao n c lo ln lc mr _).mono ?_
  rintro e wg ⟨rfl, hb⟩
  have hL5 := hL5.below hb (Nat.le_refl _)
  have hq5 := hq5.trans (hb.mono hq5.size)
  have hB := rp_later hB hb (Nat.le_refl _)
  clear hb
  have hB' := hB
  obtain ⟨b0, b1, b2, b3, b4, b5, b6, b7, b8, b9, b10, b11⟩ := hB'
  go_wp2_with (go_at_call 68; refine (rin_any _ _ _ (by decide)).mono ?_; rintro e wn ⟨rfl, hwn⟩; subst wn; first | rw [dla] | rw [dld] | rw [dlt])
  clear b0 b1 b2 b3 b4 b5 b6 b7 b8 b9 b10 b11
  refine (ref32 _ _ _ _ (ln : Int) _ (by omega) hL5).mono ?_
  rintro e w6 ⟨a6, c6, rfl, ho, hb⟩
  have hL6 := Lies.owned ho
  have hq6 := hq5.trans (hb.mono hq5.size)
  have hB := rp_later hB hb (Nat.le_refl _)
  clear ho hb hL5 hq5
  have hB' := hB
  obtain ⟨b0, b1, b2, b3, b4, b5, b6, b7, b8, b9, b10, b11⟩ := hB'
  go_wp2
  clear b0 b1 b2 b3 b4 b5 b6 b7 b8 b9 b10 b11
  obtain ⟨Y, hY⟩ : ∃ Y, nums ⟨#[65, 78, 82, 49]⟩ ++ be (IntKind.u64.wrap cl) 4 ++ be (IntKind.u64.wrap sq) 8 ++ be (IntKind.u64.wrap ep) 8 ++ be (IntKind.u64.wrap op) 4 ++ be (IntKind.u64.wrap st) 4 ++ be (IntKind.u64.wrap (ln : Int)) 4 = Y := ⟨_, rfl⟩
  rw [hY] at hL6
  have HY : Hid (nums ⟨#[65, 78, 82, 49]⟩ ++ be (IntKind.u64.wrap cl) 4 ++ be (IntKind.u64.wrap sq) 8 ++ be (IntKind.u64.wrap ep) 8 ++ be (IntKind.u64.wrap op) 4 ++ be (IntKind.u64.wrap st) 4 ++ be (IntKind.u64.wrap (ln : Int)) 4 = Y) := hY
  clear hY
  go_loopw [3, 5] (fun b i wr => ∃ k : Nat, ∃ ab nb cb, k ≤ ln ∧ i = .int .i64 k ∧ b = .slice ab nb cb ∧ Lies wr ab nb cb (Y ++ (list.take k).flatMap entB) ∧ nb ≤ 100 + k * 2000 ∧ RpBox wr w.heap.size ⟨cl, sq, ep, op, st, ai, ak, az, ac, data, list, mr⟩ ao n c lo ln lc ∧ Below w.heap.size w wr) (fun _ i _ => ln - (intOf i).toNat)
  case atStart => exact ⟨0, _, _, _, Nat.zero_le _, rfl, rfl, by simpa using hL6, by omega, hB, hq6⟩
  case round =>
    obtain ⟨k, ab, nb, cb, hk, rfl, rfl, hLk, hnb, hBk, hqk⟩ := hrel
    clear hL6 hB hq6
    by_cases hlt : k < ln
    · have hki : decide ((k : Int) < (ln : Int)) = true := by simpa using hlt
      have hkl : k < list.length := by have := HEL.out; omega
      have hnk := hnm list[k] (List.getElem_mem hkl)
      have hpd := padk_le (list[k].name.size)
      obtain ⟨b', o', hlo, hbw, e0, e1, e2⟩ := ents_at hE hkl
      subst hlo
      have HX : Hid ((Y ++ (list.take k).flatMap entB) ++ entB list[k] = Y ++ (list.take (k + 1)).flatMap entB) := by
        show _ = _
        rw [List.take_succ_eq_append_getElem hkl, List.flatMap_append]
        simp
      clear hnm
      generalize list[k] = x at *
      obtain ⟨nm, xid, kd⟩ := x
      simp only at e0 e1 e2 hnk hpd
      have f0 := cell_later hqk e0 (Nat.le_refl _)
      have f1 := cell_later hqk e1 (Nat.le_refl _)
      have f2 := cell_later hqk e2 (Nat.le_refl _)
      have hB' := hBk
      obtain ⟨b0, b1, b2, b3, b4, b5, b6, b7, b8, b9, b10, b11⟩ := hB'
      go_wp2_with fail
      clear b0 b1 b2 b3 b4 b5 b6 b7 b8 b9 b10 b11 f0 f1 f2
      refine (refText _ _ _ _ nm _ (by omega) hLk).mono ?_
      rintro e v1 ⟨z1, d1, rfl, ho, hb⟩
      have hM1 := Lies.owned ho
      have hr1 := hqk.trans (hb.mono hqk.size)
      have hB1 := rp_later hBk hb (Nat.le_refl _)
      clear ho hb hLk hqk hBk
      have f1 := cell_later hr1 e1 (Nat.le_refl _)
      have hB' := hB1
      obtain ⟨b0, b1, b2, b3, b4, b5, b6, b7, b8, b9, b10, b11⟩ := hB'
      go_wp2_with fail
      clear b0 b1 b2 b3 b4 b5 b6 b7 b8 b9 b10 b11 f1
      refine (ref64 _ _ _ _ xid _ (by omega) hM1).mono ?_
      rintro e v2 ⟨z2, d2, rfl, ho, hb⟩
      have hM2 := Lies.owned ho
      have hr2 := hr1.trans (hb.mono hr1.size)
      have hB2 := rp_later hB1 hb (Nat.le_refl _)
      clear ho hb hM1 hr1 hB1
      have f2 := cell_later hr2 e2 (Nat.le_refl _)
      have hB' := hB2
      obtain ⟨b0, b1, b2, b3, b4, b5, b6, b7, b8, b9, b10, b11⟩ := hB'
      go_wp2_with fail
      clear b0 b1 b2 b3 b4 b5 b6 b7 b8 b9 b10 b11 f2
      refine (ref32 _ _ _ _ kd _ (by omega) hM2).mono ?_
      rintro e v3 ⟨z3, d3, rfl, ho, hb⟩
      have hM3 := Lies.owned ho
      have hr3 := hr2.trans (hb.mono hr2.size)
      have hB3 := rp_later hB2 hb (Nat.le_refl _)
      clear ho hb hM2 hr2 hB2 e0 e1 e2
      go_wp2
      go_roundw
      case rel =>
        refine ⟨k + 1, z3, _, d3, by omega, by go_num, rfl, ?_, ?_, hB3, hr3⟩
        · rw [← HX.out]
          have h := hM3
          simpa [entB, txB] using h
        · omega
      case measure => simp [intOf]; omega
    · have hki : decide ((k : Int) < (ln : Int)) = false := by simp; omega
      obtain rfl : k = ln := by omega
      have hall : list.take k = list := List.take_of_length_le (by have := HEL.out; omega)
      rw [hall] at hLk
      clear hall hnm hE
      have hB' := hBk
      obtain ⟨b0, b1, b2, b3, b4, b5, b6, b7, b8, b9, b10, b11⟩ := hB'
      cases mr
      all_goals
        go_wp2_with fail
        refine (ref32 _ _ _ _ _ _ (by omega) hLk).mono ?_
        rintro e v1 ⟨z1, d1, rfl, ho, hb⟩
        have hM1 := Lies.owned ho
        have hr1 := hqk.trans (hb.mono hqk.size)
        clear ho hb hLk hqk hBk b0 b1 b2 b3 b4 b5 b6 b7 b8 b9 b10 b11
        go_wp2
        go_ret
        refine ⟨z1, _, d1, rfl, ?_, by omega, hr1⟩
        have h := hM1
        rw [HH.out]
        rw [← HY.out] at h
        simpa [putAll, putV, rpHead, rpAny, pick, HEL.out] using h
end Go.Proofs.YtdkcplndplhblaaGreatDoor

/- annexref4.EncodeReply, of any reply. -/
namespace Go.Proofs.YtdkcplndplhblaaGreatDoor
open Go.RowKit
set_option maxRecDepth 100000

theorem rbytesRp_any (r : Rep) (ao : Option Addr) (n c : Nat) (lo : Option Addr) (ln lc : Nat) (w : World) (hD : Lies w ao n c r.data) (hE : CLies w lo ln lc 3 (entCells r.list)) (hel : r.list.length = ln) (h : rpE r = 0) :
    Calls Tryz.prog 55 #[rpV r ao n c lo ln lc] w fun e w' => ∃ ao' n' c', e = .returned (.slice ao' n' c') ∧ Lies w' ao' n' c' (nums ⟨#[65, 78, 82, 49]⟩ ++ putAll (rpHead r) ++ putAll (pick (hasRp r.op r.status) (rpAny r))) ∧ n' ≤ 1000000 ∧ Below w.heap.size w w' := by
  have hsm := judge_small (rpE_zero h)
  clear h
  obtain ⟨cl, sq, ep, op, st, ai, ak, az, ac, data, list, mr⟩ := r
  simp only at hD hE hel hsm ⊢
  have h14 : (14 : Int) ∈ hasRp op st → data.length ≤ 2000 := fun q => hsm (14, .content data) (by simp [pick, rpAny, q])
  have h15 : (15 : Int) ∈ hasRp op st → list.length ≤ 16 ∧ ∀ e ∈ list, e.name.size ≤ 1000 := fun q => hsm (15, .entries list) (by simp [pick, rpAny, q])
  clear hsm
  have hl := hD.hlen
  by_cases hs : st = 0
  · subst hs
    by_cases h1 : op = 1 ∨ op = 2 ∨ op = 4 ∨ op = 5 ∨ op = 7
    · exact rpbytes_a cl sq ep op 0 ai ak az ac data list mr ao n c lo ln lc w (by unfold glets; rw [if_pos rfl, if_pos h1]) (by unfold hasRp; rw [if_pos rfl, if_pos h1])
    · by_cases h3 : op = 3
      · subst h3
        exact rpbytes_d cl sq ep 3 0 ai ak az ac data list mr ao n c lo ln lc w hD (by have := h14 (by decide); omega) (by decide) (by decide)
      · by_cases h10 : op = 10
        · subst h10
          exact rpbytes_t cl sq ep 10 0 ai ak az ac data list mr ao n c lo ln lc w hE hel (by have := (h15 (by decide)).1; omega) (h15 (by decide)).2 (by decide) (by decide)
        · exact rpbytes_e cl sq ep op 0 ai ak az ac data list mr ao n c lo ln lc w (by unfold glets; rw [if_pos rfl, if_neg h1, if_neg h3, if_neg h10]) (by unfold hasRp; rw [if_pos rfl, if_neg h1, if_neg h3, if_neg h10])
  · exact rpbytes_e cl sq ep op st ai ak az ac data list mr ao n c lo ln lc w (by unfold glets; rw [if_neg hs]) (by unfold hasRp; rw [if_neg hs])

set_option maxHeartbeats 1000000 in
theorem rencRp_any (r : Rep) (ao : Option Addr) (n c : Nat) (lo : Option Addr) (ln lc : Nat) (w : World) (hD : Lies w ao n c r.data) (hE : CLies w lo ln lc 3 (entCells r.list)) (hel : r.list.length = ln) (hby : Bys r.data) :
    Calls Tryz.prog 21 #[rpV r ao n c lo ln lc] w fun e w' => ∃ go k l, e = .returned (.tuple #[.slice go k l, .int .i64 (rpE r)]) ∧ Below w.heap.size w w' ∧ (rpE r = 0 → Lies w' go k l (rpB r)) ∧ (rpE r ≠ 0 → k = 0 ∧ go = none ∧ l = 0) := by
  have HL : Hid (r.list.length = ln) := hel
  clear hel
  have hB0 := RpBox.new w r ao n c lo ln lc
  have hb0 := newBox w (.cells #[.int .i64 r.client, .int .i64 r.seq, .int .i64 r.epoch, .int .i64 r.op, .int .i64 r.status, .int .i64 r.ai, .int .i64 r.ak, .int .i64 r.az, .int .i64 r.ac, .slice ao n c, .slice lo ln lc, .bool r.more] 30)
  by_cases h0 : rpE r = 0
  · have HX : Hid (∀ X, X = nums ⟨#[65, 78, 82, 49]⟩ ++ putAll (rpHead r) ++ putAll (pick (hasRp r.op r.status) (rpAny r)) → closeB X = rpB r ∧ X.length ≤ 2000 ∧ Bys X) := by
      intro X hX
      obtain ⟨X', hX', _, _, hXb⟩ := rpB_is h0 hby
      have hlen := (rp_back h0).2.2
      have e1 : rpB r = closeB X := by subst hX; rfl
      have e2 : X' = X := by
        have := hX'.symm.trans e1
        unfold closeB at this
        exact (List.append_inj' this (by simp [be_length])).1
      refine ⟨e1.symm, ?_, e2 ▸ hXb⟩
      rw [e1] at hlen
      simp [closeB, be_length] at hlen
      omega
    go_enter Tryz.func21, Tryz.ntmps21
    go_wp2_with fail
    refine (rcheckRp_any r ao n c lo ln lc _ hD.hlen (hE.below hb0 (Nat.le_refl _)) HL.out).mono ?_
    rintro e w1 ⟨rfl, hb1⟩
    rw [h0]
    have hB1 := RpBox.later hB0 hb1 (Nat.le_refl _)
    have hq1 : Below w.heap.size w w1 := hb0.trans (hb1.mono (by simp))
    clear hB0 hb1 hb0
    obtain ⟨b0, b1, b2, b3, b4, b5, b6, b7, b8, b9, b10, b11⟩ := hB1
    go_wp2_with fail
    clear b0 b1 b2 b3 b4 b5 b6 b7 b8 b9 b10 b11
    refine (rbytesRp_any r ao n c lo ln lc _ (hD.below hq1 (Nat.le_refl _)) (hE.below hq1 (Nat.le_refl _)) HL.out h0).mono ?_
    rintro e w2 ⟨a2, n2, c2, rfl, hL2, hn2, hb2⟩
    have hq2 := hq1.trans (hb2.mono hq1.size)
    have hy := HX.out _ rfl
    have hn3 : n2 ≤ 2000 := by rw [← hL2.hlen]; exact hy.2.1
    go_wp2_with fail
    refine (closed_any _ n2 _ _ _ hn3 hL2 hy.2.2).mono ?_
    rintro e w3 ⟨a3, n3, c3, rfl, hL3, hb3⟩
    have hq3 := hq2.trans (hb3.mono hq2.size)
    rw [hy.1] at hL3
    have HY : Hid (rpE r = 0) := h0
    clear hy hL2 hn3 HX h0
    go_wp2
    go_ret2
    exact ⟨a3, n3, c3, by rw [HY.out]; rfl, hq3, fun _ => hL3, fun q => absurd HY.out q⟩
  · have h1 : (rpE r != 0) = true := by simpa using h0
    go_enter Tryz.func21, Tryz.ntmps21
    go_wp2_with fail
    refine (rcheckRp_any r ao n c lo ln lc _ hD.hlen (hE.below hb0 (Nat.le_refl _)) HL.out).mono ?_
    rintro e w1 ⟨rfl, hb1⟩
    have hq1 : Below w.heap.size w w1 := hb0.trans (hb1.mono (by simp))
    have HY : Hid (¬ rpE r = 0) := h0
    clear h0
    go_wp2
    go_ret2
    exact ⟨none, 0, 0, rfl, hq1, fun q => absurd q HY.out, fun _ => ⟨rfl, rfl, rfl⟩⟩
end Go.Proofs.YtdkcplndplhblaaGreatDoor
