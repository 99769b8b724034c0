/- annexref4.RequestBytes, of one operation. -/
import Derived.Test.YtdkcplndplhblaaGreatDoorPk23
namespace Go.Proofs.YtdkcplndplhblaaGreatDoor
open Go.RowKit
set_option maxRecDepth 100000

set_option maxHeartbeats 4000000 in
theorem rbytes_1 (cl sq ak ep id id2 off len : Int) (path name name2 : ByteArray) (data : List Int) (ao : Option Addr) (n c : Nat) (w : World) (hp1 : path.size ≤ 100000) :
    Calls Tryz.prog 52 #[rqV ⟨cl, sq, ak, ep, 1, id, id2, off, len, path, name, name2, data⟩ ao n c] w fun e w' => ∃ ao' n' c', e = .returned (.slice ao' n' c') ∧ Lies w' ao' n' c' (nums ⟨#[65, 78, 81, 49]⟩ ++ putAll (rqHead ⟨cl, sq, ak, ep, 1, id, id2, off, len, path, name, name2, data⟩) ++ putAll (pick (hasRq 1) (rqAny ⟨cl, sq, ak, ep, 1, id, id2, off, len, path, name, name2, data⟩))) ∧ n' ≤ 1000000 ∧ Below w.heap.size w w' := by
  have hcc := Go.Joins.run_convert_bytes_const_at (P := Tryz.prog) (w.alloc (.cells #[.int .i64 cl, .int .i64 sq, .int .i64 ak, .int .i64 ep, .int .i64 1, .int .i64 id, .int .i64 id2, .int .i64 off, .int .i64 len, .string path, .string name, .string name2, .slice ao n c] 24)) 22 5 #[.int .u8 65, .int .u8 78, .int .u8 81, .int .u8 49] 4 4 (w.heap.size + 1) (by simp) Tryz.underlying22 Tryz.underlying5
  have hB := RqBox.new w ⟨cl, sq, ak, ep, 1, id, id2, off, len, path, name, name2, data⟩ ao n c
  have hb0 := newBox (w.alloc (.cells #[.int .i64 cl, .int .i64 sq, .int .i64 ak, .int .i64 ep, .int .i64 1, .int .i64 id, .int .i64 id2, .int .i64 off, .int .i64 len, .string path, .string name, .string name2, .slice ao n c] 24)) (.cells #[.int .u8 65, .int .u8 78, .int .u8 81, .int .u8 49] 5 (4, 5))
  have hL0 : Lies ((w.alloc (.cells #[.int .i64 cl, .int .i64 sq, .int .i64 ak, .int .i64 ep, .int .i64 1, .int .i64 id, .int .i64 id2, .int .i64 off, .int .i64 len, .string path, .string name, .string name2, .slice ao n c] 24)).alloc (.cells #[.int .u8 65, .int .u8 78, .int .u8 81, .int .u8 49] 5 (4, 5))) (some ⟨w.heap.size + 1, 0, none⟩) 4 4 (nums ⟨#[65, 78, 81, 49]⟩) :=
    lies_mark (w.alloc (.cells #[.int .i64 cl, .int .i64 sq, .int .i64 ak, .int .i64 ep, .int .i64 1, .int .i64 id, .int .i64 id2, .int .i64 off, .int .i64 len, .string path, .string name, .string name2, .slice ao n c] 24)) [65, 78, 81, 49] 4 rfl _ rfl (4, 5) (w.heap.size + 1) (by simp)
  have hB := rq_later hB hb0 (Nat.le_refl _)
  have hq0 : Below w.heap.size w ((w.alloc (.cells #[.int .i64 cl, .int .i64 sq, .int .i64 ak, .int .i64 ep, .int .i64 1, .int .i64 id, .int .i64 id2, .int .i64 off, .int .i64 len, .string path, .string name, .string name2, .slice ao n c] 24)).alloc (.cells #[.int .u8 65, .int .u8 78, .int .u8 81, .int .u8 49] 5 (4, 5))) := (newBox w _).trans (hb0.mono (by simp))
  have hd1 := padk_le path.size
  have hd2 := padk_le name.size
  have hd3 := padk_le name2.size
  have hd4 := padk_le n
  clear hb0
  have dlp : decide ((112 : Int) ∈ nums ⟨#[112]⟩) = true := by decide
  have dli : decide ((105 : Int) ∈ nums ⟨#[112]⟩) = false := by decide
  have dlo : decide ((111 : Int) ∈ nums ⟨#[112]⟩) = false := by decide
  have dll : decide ((108 : Int) ∈ nums ⟨#[112]⟩) = false := by decide
  have dln : decide ((110 : Int) ∈ nums ⟨#[112]⟩) = false := by decide
  have dlj : decide ((106 : Int) ∈ nums ⟨#[112]⟩) = false := by decide
  have dlm : decide ((109 : Int) ∈ nums ⟨#[112]⟩) = false := by decide
  have dld : decide ((100 : Int) ∈ nums ⟨#[112]⟩) = false := by decide
  go_enter Tryz.func52, Tryz.ntmps52
  go_wp2_with fail
  generalize (w.alloc (.cells #[.int .i64 cl, .int .i64 sq, .int .i64 ak, .int .i64 ep, .int .i64 1, .int .i64 id, .int .i64 id2, .int .i64 off, .int .i64 len, .string path, .string name, .string name2, .slice ao n c] 24)).alloc (.cells #[.int .u8 65, .int .u8 78, .int .u8 81, .int .u8 49] 5 (4, 5)) = wA at *
  refine (ref32 _ _ _ _ cl _ (by omega) hL0).mono ?_
  rintro e w1 ⟨a1, c1, rfl, ho, hb⟩
  have hL1 := Lies.owned ho
  have hq1 := hq0.trans (hb.mono hq0.size)
  have hB := rq_later hB hb (Nat.le_refl _)
  clear ho hb hL0 hq0
  have hB' := hB
  obtain ⟨b0, b1, b2, b3, b4, b5, b6, b7, b8, b9, b10, b11, b12⟩ := hB'
  go_wp2_with fail
  clear b0 b1 b2 b3 b4 b5 b6 b7 b8 b9 b10 b11 b12
  refine (ref64 _ _ _ _ sq _ (by omega) hL1).mono ?_
  rintro e w2 ⟨a2, c2, rfl, ho, hb⟩
  have hL2 := Lies.owned ho
  have hq2 := hq1.trans (hb.mono hq1.size)
  have hB := rq_later hB hb (Nat.le_refl _)
  clear ho hb hL1 hq1
  have hB' := hB
  obtain ⟨b0, b1, b2, b3, b4, b5, b6, b7, b8, b9, b10, b11, b12⟩ := hB'
  go_wp2_with fail
  clear b0 b1 b2 b3 b4 b5 b6 b7 b8 b9 b10 b11 b12
  refine (ref64 _ _ _ _ ak _ (by omega) hL2).mono ?_
  rintro e w3 ⟨a3, c3, rfl, ho, hb⟩
  have hL3 := Lies.owned ho
  have hq3 := hq2.trans (hb.mono hq2.size)
  have hB := rq_later hB hb (Nat.le_refl _)
  clear ho hb hL2 hq2
  have hB' := hB
  obtain ⟨b0, b1, b2, b3, b4, b5, b6, b7, b8, b9, b10, b11, b12⟩ := hB'
  go_wp2_with fail
  clear b0 b1 b2 b3 b4 b5 b6 b7 b8 b9 b10 b11 b12
  refine (ref64 _ _ _ _ ep _ (by omega) hL3).mono ?_
  rintro e w4 ⟨a4, c4, rfl, ho, hb⟩
  have hL4 := Lies.owned ho
  have hq4 := hq3.trans (hb.mono hq3.size)
  have hB := rq_later hB hb (Nat.le_refl _)
  clear ho hb hL3 hq3
  have hB' := hB
  obtain ⟨b0, b1, b2, b3, b4, b5, b6, b7, b8, b9, b10, b11, b12⟩ := hB'
  go_wp2_with fail
  clear b0 b1 b2 b3 b4 b5 b6 b7 b8 b9 b10 b11 b12
  refine (ref32 _ _ _ _ 1 _ (by omega) hL4).mono ?_
  rintro e w5 ⟨a5, c5, rfl, ho, hb⟩
  have hL5 := Lies.owned ho
  have hq5 := hq4.trans (hb.mono hq4.size)
  have hB := rq_later hB hb (Nat.le_refl _)
  clear ho hb hL4 hq4
  have hB' := hB
  obtain ⟨b0, b1, b2, b3, b4, b5, b6, b7, b8, b9, b10, b11, b12⟩ := hB'
  go_wp2_with fail
  refine (rhas_is (s := ⟨#[112]⟩) rfl _).mono ?_
  rintro e wn ⟨rfl, hwn⟩
  subst wn
  clear b0 b1 b2 b3 b4 b5 b6 b7 b8 b9 b10 b11 b12
  have hB' := hB
  obtain ⟨b0, b1, b2, b3, b4, b5, b6, b7, b8, b9, b10, b11, b12⟩ := hB'
  go_wp2_with (go_at_call 68; refine (rin_any _ _ _ (by decide)).mono ?_; rintro e wn ⟨rfl, hwn⟩; subst wn; first | rw [dlp] | rw [dli] | rw [dlo] | rw [dll] | rw [dln] | rw [dlj] | rw [dlm] | rw [dld])
  clear b0 b1 b2 b3 b4 b5 b6 b7 b8 b9 b10 b11 b12
  refine (refText _ _ _ _ path _ (by omega) hL5).mono ?_
  rintro e w6 ⟨a6, c6, rfl, ho, hb⟩
  have hL6 := Lies.owned ho
  have hq6 := hq5.trans (hb.mono hq5.size)
  have hB := rq_later hB hb (Nat.le_refl _)
  clear ho hb hL5 hq5
  have hB' := hB
  obtain ⟨b0, b1, b2, b3, b4, b5, b6, b7, b8, b9, b10, b11, b12⟩ := hB'
  go_wp2_with (go_at_call 68; refine (rin_any _ _ _ (by decide)).mono ?_; rintro e wn ⟨rfl, hwn⟩; subst wn; first | rw [dlp] | rw [dli] | rw [dlo] | rw [dll] | rw [dln] | rw [dlj] | rw [dlm] | rw [dld])
  go_ret
  refine ⟨a6, _, c6, rfl, ?_, by omega, hq6⟩
  have h := hL6
  simpa [putAll, putV, rqHead, rqAny, pick, hasRq, txB] using h

set_option maxHeartbeats 4000000 in
theorem rbytes_2 (cl sq ak ep id id2 off len : Int) (path name name2 : ByteArray) (data : List Int) (ao : Option Addr) (n c : Nat) (w : World) :
    Calls Tryz.prog 52 #[rqV ⟨cl, sq, ak, ep, 2, id, id2, off, len, path, name, name2, data⟩ ao n c] w fun e w' => ∃ ao' n' c', e = .returned (.slice ao' n' c') ∧ Lies w' ao' n' c' (nums ⟨#[65, 78, 81, 49]⟩ ++ putAll (rqHead ⟨cl, sq, ak, ep, 2, id, id2, off, len, path, name, name2, data⟩) ++ putAll (pick (hasRq 2) (rqAny ⟨cl, sq, ak, ep, 2, id, id2, off, len, path, name, name2, data⟩))) ∧ n' ≤ 1000000 ∧ Below w.heap.size w w' := by
  have hcc := Go.Joins.run_convert_bytes_const_at (P := Tryz.prog) (w.alloc (.cells #[.int .i64 cl, .int .i64 sq, .int .i64 ak, .int .i64 ep, .int .i64 2, .int .i64 id, .int .i64 id2, .int .i64 off, .int .i64 len, .string path, .string name, .string name2, .slice ao n c] 24)) 22 5 #[.int .u8 65, .int .u8 78, .int .u8 81, .int .u8 49] 4 4 (w.heap.size + 1) (by simp) Tryz.underlying22 Tryz.underlying5
  have hB := RqBox.new w ⟨cl, sq, ak, ep, 2, id, id2, off, len, path, name, name2, data⟩ ao n c
  have hb0 := newBox (w.alloc (.cells #[.int .i64 cl, .int .i64 sq, .int .i64 ak, .int .i64 ep, .int .i64 2, .int .i64 id, .int .i64 id2, .int .i64 off, .int .i64 len, .string path, .string name, .string name2, .slice ao n c] 24)) (.cells #[.int .u8 65, .int .u8 78, .int .u8 81, .int .u8 49] 5 (4, 5))
  have hL0 : Lies ((w.alloc (.cells #[.int .i64 cl, .int .i64 sq, .int .i64 ak, .int .i64 ep, .int .i64 2, .int .i64 id, .int .i64 id2, .int .i64 off, .int .i64 len, .string path, .string name, .string name2, .slice ao n c] 24)).alloc (.cells #[.int .u8 65, .int .u8 78, .int .u8 81, .int .u8 49] 5 (4, 5))) (some ⟨w.heap.size + 1, 0, none⟩) 4 4 (nums ⟨#[65, 78, 81, 49]⟩) :=
    lies_mark (w.alloc (.cells #[.int .i64 cl, .int .i64 sq, .int .i64 ak, .int .i64 ep, .int .i64 2, .int .i64 id, .int .i64 id2, .int .i64 off, .int .i64 len, .string path, .string name, .string name2, .slice ao n c] 24)) [65, 78, 81, 49] 4 rfl _ rfl (4, 5) (w.heap.size + 1) (by simp)
  have hB := rq_later hB hb0 (Nat.le_refl _)
  have hq0 : Below w.heap.size w ((w.alloc (.cells #[.int .i64 cl, .int .i64 sq, .int .i64 ak, .int .i64 ep, .int .i64 2, .int .i64 id, .int .i64 id2, .int .i64 off, .int .i64 len, .string path, .string name, .string name2, .slice ao n c] 24)).alloc (.cells #[.int .u8 65, .int .u8 78, .int .u8 81, .int .u8 49] 5 (4, 5))) := (newBox w _).trans (hb0.mono (by simp))
  have hd1 := padk_le path.size
  have hd2 := padk_le name.size
  have hd3 := padk_le name2.size
  have hd4 := padk_le n
  clear hb0
  have dlp : decide ((112 : Int) ∈ nums ⟨#[105]⟩) = false := by decide
  have dli : decide ((105 : Int) ∈ nums ⟨#[105]⟩) = true := by decide
  have dlo : decide ((111 : Int) ∈ nums ⟨#[105]⟩) = false := by decide
  have dll : decide ((108 : Int) ∈ nums ⟨#[105]⟩) = false := by decide
  have dln : decide ((110 : Int) ∈ nums ⟨#[105]⟩) = false := by decide
  have dlj : decide ((106 : Int) ∈ nums ⟨#[105]⟩) = false := by decide
  have dlm : decide ((109 : Int) ∈ nums ⟨#[105]⟩) = false := by decide
  have dld : decide ((100 : Int) ∈ nums ⟨#[105]⟩) = false := by decide
  go_enter Tryz.func52, Tryz.ntmps52
  go_wp2_with fail
  generalize (w.alloc (.cells #[.int .i64 cl, .int .i64 sq, .int .i64 ak, .int .i64 ep, .int .i64 2, .int .i64 id, .int .i64 id2, .int .i64 off, .int .i64 len, .string path, .string name, .string name2, .slice ao n c] 24)).alloc (.cells #[.int .u8 65, .int .u8 78, .int .u8 81, .int .u8 49] 5 (4, 5)) = wA at *
  refine (ref32 _ _ _ _ cl _ (by omega) hL0).mono ?_
  rintro e w1 ⟨a1, c1, rfl, ho, hb⟩
  have hL1 := Lies.owned ho
  have hq1 := hq0.trans (hb.mono hq0.size)
  have hB := rq_later hB hb (Nat.le_refl _)
  clear ho hb hL0 hq0
  have hB' := hB
  obtain ⟨b0, b1, b2, b3, b4, b5, b6, b7, b8, b9, b10, b11, b12⟩ := hB'
  go_wp2_with fail
  clear b0 b1 b2 b3 b4 b5 b6 b7 b8 b9 b10 b11 b12
  refine (ref64 _ _ _ _ sq _ (by omega) hL1).mono ?_
  rintro e w2 ⟨a2, c2, rfl, ho, hb⟩
  have hL2 := Lies.owned ho
  have hq2 := hq1.trans (hb.mono hq1.size)
  have hB := rq_later hB hb (Nat.le_refl _)
  clear ho hb hL1 hq1
  have hB' := hB
  obtain ⟨b0, b1, b2, b3, b4, b5, b6, b7, b8, b9, b10, b11, b12⟩ := hB'
  go_wp2_with fail
  clear b0 b1 b2 b3 b4 b5 b6 b7 b8 b9 b10 b11 b12
  refine (ref64 _ _ _ _ ak _ (by omega) hL2).mono ?_
  rintro e w3 ⟨a3, c3, rfl, ho, hb⟩
  have hL3 := Lies.owned ho
  have hq3 := hq2.trans (hb.mono hq2.size)
  have hB := rq_later hB hb (Nat.le_refl _)
  clear ho hb hL2 hq2
  have hB' := hB
  obtain ⟨b0, b1, b2, b3, b4, b5, b6, b7, b8, b9, b10, b11, b12⟩ := hB'
  go_wp2_with fail
  clear b0 b1 b2 b3 b4 b5 b6 b7 b8 b9 b10 b11 b12
  refine (ref64 _ _ _ _ ep _ (by omega) hL3).mono ?_
  rintro e w4 ⟨a4, c4, rfl, ho, hb⟩
  have hL4 := Lies.owned ho
  have hq4 := hq3.trans (hb.mono hq3.size)
  have hB := rq_later hB hb (Nat.le_refl _)
  clear ho hb hL3 hq3
  have hB' := hB
  obtain ⟨b0, b1, b2, b3, b4, b5, b6, b7, b8, b9, b10, b11, b12⟩ := hB'
  go_wp2_with fail
  clear b0 b1 b2 b3 b4 b5 b6 b7 b8 b9 b10 b11 b12
  refine (ref32 _ _ _ _ 2 _ (by omega) hL4).mono ?_
  rintro e w5 ⟨a5, c5, rfl, ho, hb⟩
  have hL5 := Lies.owned ho
  have hq5 := hq4.trans (hb.mono hq4.size)
  have hB := rq_later hB hb (Nat.le_refl _)
  clear ho hb hL4 hq4
  have hB' := hB
  obtain ⟨b0, b1, b2, b3, b4, b5, b6, b7, b8, b9, b10, b11, b12⟩ := hB'
  go_wp2_with fail
  refine (rhas_is (s := ⟨#[105]⟩) rfl _).mono ?_
  rintro e wn ⟨rfl, hwn⟩
  subst wn
  clear b0 b1 b2 b3 b4 b5 b6 b7 b8 b9 b10 b11 b12
  have hB' := hB
  obtain ⟨b0, b1, b2, b3, b4, b5, b6, b7, b8, b9, b10, b11, b12⟩ := hB'
  go_wp2_with (go_at_call 68; refine (rin_any _ _ _ (by decide)).mono ?_; rintro e wn ⟨rfl, hwn⟩; subst wn; first | rw [dlp] | rw [dli] | rw [dlo] | rw [dll] | rw [dln] | rw [dlj] | rw [dlm] | rw [dld])
  clear b0 b1 b2 b3 b4 b5 b6 b7 b8 b9 b10 b11 b12
  refine (ref64 _ _ _ _ id _ (by omega) hL5).mono ?_
  rintro e w6 ⟨a6, c6, rfl, ho, hb⟩
  have hL6 := Lies.owned ho
  have hq6 := hq5.trans (hb.mono hq5.size)
  have hB := rq_later hB hb (Nat.le_refl _)
  clear ho hb hL5 hq5
  have hB' := hB
  obtain ⟨b0, b1, b2, b3, b4, b5, b6, b7, b8, b9, b10, b11, b12⟩ := hB'
  go_wp2_with (go_at_call 68; refine (rin_any _ _ _ (by decide)).mono ?_; rintro e wn ⟨rfl, hwn⟩; subst wn; first | rw [dlp] | rw [dli] | rw [dlo] | rw [dll] | rw [dln] | rw [dlj] | rw [dlm] | rw [dld])
  go_ret
  refine ⟨a6, _, c6, rfl, ?_, by omega, hq6⟩
  have h := hL6
  simpa [putAll, putV, rqHead, rqAny, pick, hasRq] using h

set_option maxHeartbeats 4000000 in
theorem rbytes_3 (cl sq ak ep id id2 off len : Int) (path name name2 : ByteArray) (data : List Int) (ao : Option Addr) (n c : Nat) (w : World) :
    Calls Tryz.prog 52 #[rqV ⟨cl, sq, ak, ep, 3, id, id2, off, len, path, name, name2, data⟩ ao n c] w fun e w' => ∃ ao' n' c', e = .returned (.slice ao' n' c') ∧ Lies w' ao' n' c' (nums ⟨#[65, 78, 81, 49]⟩ ++ putAll (rqHead ⟨cl, sq, ak, ep, 3, id, id2, off, len, path, name, name2, data⟩) ++ putAll (pick (hasRq 3) (rqAny ⟨cl, sq, ak, ep, 3, id, id2, off, len, path, name, name2, data⟩))) ∧ n' ≤ 1000000 ∧ Below w.heap.size w w' := by
  have hcc := Go.Joins.run_convert_bytes_const_at (P := Tryz.prog) (w.alloc (.cells #[.int .i64 cl, .int .i64 sq, .int .i64 ak, .int .i64 ep, .int .i64 3, .int .i64 id, .int .i64 id2, .int .i64 off, .int .i64 len, .string path, .string name, .string name2, .slice ao n c] 24)) 22 5 #[.int .u8 65, .int .u8 78, .int .u8 81, .int .u8 49] 4 4 (w.heap.size + 1) (by simp) Tryz.underlying22 Tryz.underlying5
  have hB := RqBox.new w ⟨cl, sq, ak, ep, 3, id, id2, off, len, path, name, name2, data⟩ ao n c
  have hb0 := newBox (w.alloc (.cells #[.int .i64 cl, .int .i64 sq, .int .i64 ak, .int .i64 ep, .int .i64 3, .int .i64 id, .int .i64 id2, .int .i64 off, .int .i64 len, .string path, .string name, .string name2, .slice ao n c] 24)) (.cells #[.int .u8 65, .int .u8 78, .int .u8 81, .int .u8 49] 5 (4, 5))
  have hL0 : Lies ((w.alloc (.cells #[.int .i64 cl, .int .i64 sq, .int .i64 ak, .int .i64 ep, .int .i64 3, .int .i64 id, .int .i64 id2, .int .i64 off, .int .i64 len, .string path, .string name, .string name2, .slice ao n c] 24)).alloc (.cells #[.int .u8 65, .int .u8 78, .int .u8 81, .int .u8 49] 5 (4, 5))) (some ⟨w.heap.size + 1, 0, none⟩) 4 4 (nums ⟨#[65, 78, 81, 49]⟩) :=
    lies_mark (w.alloc (.cells #[.int .i64 cl, .int .i64 sq, .int .i64 ak, .int .i64 ep, .int .i64 3, .int .i64 id, .int .i64 id2, .int .i64 off, .int .i64 len, .string path, .string name, .string name2, .slice ao n c] 24)) [65, 78, 81, 49] 4 rfl _ rfl (4, 5) (w.heap.size + 1) (by simp)
  have hB := rq_later hB hb0 (Nat.le_refl _)
  have hq0 : Below w.heap.size w ((w.alloc (.cells #[.int .i64 cl, .int .i64 sq, .int .i64 ak, .int .i64 ep, .int .i64 3, .int .i64 id, .int .i64 id2, .int .i64 off, .int .i64 len, .string path, .string name, .string name2, .slice ao n c] 24)).alloc (.cells #[.int .u8 65, .int .u8 78, .int .u8 81, .int .u8 49] 5 (4, 5))) := (newBox w _).trans (hb0.mono (by simp))
  have hd1 := padk_le path.size
  have hd2 := padk_le name.size
  have hd3 := padk_le name2.size
  have hd4 := padk_le n
  clear hb0
  have dlp : decide ((112 : Int) ∈ nums ⟨#[105, 111, 108]⟩) = false := by decide
  have dli : decide ((105 : Int) ∈ nums ⟨#[105, 111, 108]⟩) = true := by decide
  have dlo : decide ((111 : Int) ∈ nums ⟨#[105, 111, 108]⟩) = true := by decide
  have dll : decide ((108 : Int) ∈ nums ⟨#[105, 111, 108]⟩) = true := by decide
  have dln : decide ((110 : Int) ∈ nums ⟨#[105, 111, 108]⟩) = false := by decide
  have dlj : decide ((106 : Int) ∈ nums ⟨#[105, 111, 108]⟩) = false := by decide
  have dlm : decide ((109 : Int) ∈ nums ⟨#[105, 111, 108]⟩) = false := by decide
  have dld : decide ((100 : Int) ∈ nums ⟨#[105, 111, 108]⟩) = false := by decide
  go_enter Tryz.func52, Tryz.ntmps52
  go_wp2_with fail
  generalize (w.alloc (.cells #[.int .i64 cl, .int .i64 sq, .int .i64 ak, .int .i64 ep, .int .i64 3, .int .i64 id, .int .i64 id2, .int .i64 off, .int .i64 len, .string path, .string name, .string name2, .slice ao n c] 24)).alloc (.cells #[.int .u8 65, .int .u8 78, .int .u8 81, .int .u8 49] 5 (4, 5)) = wA at *
  refine (ref32 _ _ _ _ cl _ (by omega) hL0).mono ?_
  rintro e w1 ⟨a1, c1, rfl, ho, hb⟩
  have hL1 := Lies.owned ho
  have hq1 := hq0.trans (hb.mono hq0.size)
  have hB := rq_later hB hb (Nat.le_refl _)
  clear ho hb hL0 hq0
  have hB' := hB
  obtain ⟨b0, b1, b2, b3, b4, b5, b6, b7, b8, b9, b10, b11, b12⟩ := hB'
  go_wp2_with fail
  clear b0 b1 b2 b3 b4 b5 b6 b7 b8 b9 b10 b11 b12
  refine (ref64 _ _ _ _ sq _ (by omega) hL1).mono ?_
  rintro e w2 ⟨a2, c2, rfl, ho, hb⟩
  have hL2 := Lies.owned ho
  have hq2 := hq1.trans (hb.mono hq1.size)
  have hB := rq_later hB hb (Nat.le_refl _)
  clear ho hb hL1 hq1
  have hB' := hB
  obtain ⟨b0, b1, b2, b3, b4, b5, b6, b7, b8, b9, b10, b11, b12⟩ := hB'
  go_wp2_with fail
  clear b0 b1 b2 b3 b4 b5 b6 b7 b8 b9 b10 b11 b12
  refine (ref64 _ _ _ _ ak _ (by omega) hL2).mono ?_
  rintro e w3 ⟨a3, c3, rfl, ho, hb⟩
  have hL3 := Lies.owned ho
  have hq3 := hq2.trans (hb.mono hq2.size)
  have hB := rq_later hB hb (Nat.le_refl _)
  clear ho hb hL2 hq2
  have hB' := hB
  obtain ⟨b0, b1, b2, b3, b4, b5, b6, b7, b8, b9, b10, b11, b12⟩ := hB'
  go_wp2_with fail
  clear b0 b1 b2 b3 b4 b5 b6 b7 b8 b9 b10 b11 b12
  refine (ref64 _ _ _ _ ep _ (by omega) hL3).mono ?_
  rintro e w4 ⟨a4, c4, rfl, ho, hb⟩
  have hL4 := Lies.owned ho
  have hq4 := hq3.trans (hb.mono hq3.size)
  have hB := rq_later hB hb (Nat.le_refl _)
  clear ho hb hL3 hq3
  have hB' := hB
  obtain ⟨b0, b1, b2, b3, b4, b5, b6, b7, b8, b9, b10, b11, b12⟩ := hB'
  go_wp2_with fail
  clear b0 b1 b2 b3 b4 b5 b6 b7 b8 b9 b10 b11 b12
  refine (ref32 _ _ _ _ 3 _ (by omega) hL4).mono ?_
  rintro e w5 ⟨a5, c5, rfl, ho, hb⟩
  have hL5 := Lies.owned ho
  have hq5 := hq4.trans (hb.mono hq4.size)
  have hB := rq_later hB hb (Nat.le_refl _)
  clear ho hb hL4 hq4
  have hB' := hB
  obtain ⟨b0, b1, b2, b3, b4, b5, b6, b7, b8, b9, b10, b11, b12⟩ := hB'
  go_wp2_with fail
  refine (rhas_is (s := ⟨#[105, 111, 108]⟩) rfl _).mono ?_
  rintro e wn ⟨rfl, hwn⟩
  subst wn
  clear b0 b1 b2 b3 b4 b5 b6 b7 b8 b9 b10 b11 b12
  have hB' := hB
  obtain ⟨b0, b1, b2, b3, b4, b5, b6, b7, b8, b9, b10, b11, b12⟩ := hB'
  go_wp2_with (go_at_call 68; refine (rin_any _ _ _ (by decide)).mono ?_; rintro e wn ⟨rfl, hwn⟩; subst wn; first | rw [dlp] | rw [dli] | rw [dlo] | rw [dll] | rw [dln] | rw [dlj] | rw [dlm] | rw [dld])
  clear b0 b1 b2 b3 b4 b5 b6 b7 b8 b9 b10 b11 b12
  refine (ref64 _ _ _ _ id _ (by omega) hL5).mono ?_
  rintro e w6 ⟨a6, c6, rfl, ho, hb⟩
  have hL6 := Lies.owned ho
  have hq6 := hq5.trans (hb.mono hq5.size)
  have hB := rq_later hB hb (Nat.le_refl _)
  clear ho hb hL5 hq5
  have hB' := hB
  obtain ⟨b0, b1, b2, b3, b4, b5, b6, b7, b8, b9, b10, b11, b12⟩ := hB'
  go_wp2_with (go_at_call 68; refine (rin_any _ _ _ (by decide)).mono ?_; rintro e wn ⟨rfl, hwn⟩; subst wn; first | rw [dlp] | rw [dli] | rw [dlo] | rw [dll] | rw [dln] | rw [dlj] | rw [dlm] | rw [dld])
  clear b0 b1 b2 b3 b4 b5 b6 b7 b8 b9 b10 b11 b12
  refine (ref32 _ _ _ _ off _ (by omega) hL6).mono ?_
  rintro e w7 ⟨a7, c7, rfl, ho, hb⟩
  have hL7 := Lies.owned ho
  have hq7 := hq6.trans (hb.mono hq6.size)
  have hB := rq_later hB hb (Nat.le_refl _)
  clear ho hb hL6 hq6
  have hB' := hB
  obtain ⟨b0, b1, b2, b3, b4, b5, b6, b7, b8, b9, b10, b11, b12⟩ := hB'
  go_wp2_with (go_at_call 68; refine (rin_any _ _ _ (by decide)).mono ?_; rintro e wn ⟨rfl, hwn⟩; subst wn; first | rw [dlp] | rw [dli] | rw [dlo] | rw [dll] | rw [dln] | rw [dlj] | rw [dlm] | rw [dld])
  clear b0 b1 b2 b3 b4 b5 b6 b7 b8 b9 b10 b11 b12
  refine (ref32 _ _ _ _ len _ (by omega) hL7).mono ?_
  rintro e w8 ⟨a8, c8, rfl, ho, hb⟩
  have hL8 := Lies.owned ho
  have hq8 := hq7.trans (hb.mono hq7.size)
  have hB := rq_later hB hb (Nat.le_refl _)
  clear ho hb hL7 hq7
  have hB' := hB
  obtain ⟨b0, b1, b2, b3, b4, b5, b6, b7, b8, b9, b10, b11, b12⟩ := hB'
  go_wp2_with (go_at_call 68; refine (rin_any _ _ _ (by decide)).mono ?_; rintro e wn ⟨rfl, hwn⟩; subst wn; first | rw [dlp] | rw [dli] | rw [dlo] | rw [dll] | rw [dln] | rw [dlj] | rw [dlm] | rw [dld])
  go_ret
  refine ⟨a8, _, c8, rfl, ?_, by omega, hq8⟩
  have h := hL8
  simpa [putAll, putV, rqHead, rqAny, pick, hasRq] using h

set_option maxHeartbeats 4000000 in
theorem rbytes_4 (cl sq ak ep id id2 off len : Int) (path name name2 : ByteArray) (data : List Int) (ao : Option Addr) (n c : Nat) (w : World) (hD : Lies w ao n c data) (hn : n ≤ 100000) :
    Calls Tryz.prog 52 #[rqV ⟨cl, sq, ak, ep, 4, id, id2, off, len, path, name, name2, data⟩ ao n c] w fun e w' => ∃ ao' n' c', e = .returned (.slice ao' n' c') ∧ Lies w' ao' n' c' (nums ⟨#[65, 78, 81, 49]⟩ ++ putAll (rqHead ⟨cl, sq, ak, ep, 4, id, id2, off, len, path, name, name2, data⟩) ++ putAll (pick (hasRq 4) (rqAny ⟨cl, sq, ak, ep, 4, id, id2, off, len, path, name, name2, data⟩))) ∧ n' ≤ 1000000 ∧ Below w.heap.size w w' := by
  have hcc := Go.Joins.run_convert_bytes_const_at (P := Tryz.prog) (w.alloc (.cells #[.int .i64 cl, .int .i64 sq, .int .i64 ak, .int .i64 ep, .int .i64 4, .int .i64 id, .int .i64 id2, .int .i64 off, .int .i64 len, .string path, .string name, .string name2, .slice ao n c] 24)) 22 5 #[.int .u8 65, .int .u8 78, .int .u8 81, .int .u8 49] 4 4 (w.heap.size + 1) (by simp) Tryz.underlying22 Tryz.underlying5
  have hB := RqBox.new w ⟨cl, sq, ak, ep, 4, id, id2, off, len, path, name, name2, data⟩ ao n c
  have hb0 := newBox (w.alloc (.cells #[.int .i64 cl, .int .i64 sq, .int .i64 ak, .int .i64 ep, .int .i64 4, .int .i64 id, .int .i64 id2, .int .i64 off, .int .i64 len, .string path, .string name, .string name2, .slice ao n c] 24)) (.cells #[.int .u8 65, .int .u8 78, .int .u8 81, .int .u8 49] 5 (4, 5))
  have hL0 : Lies ((w.alloc (.cells #[.int .i64 cl, .int .i64 sq, .int .i64 ak, .int .i64 ep, .int .i64 4, .int .i64 id, .int .i64 id2, .int .i64 off, .int .i64 len, .string path, .string name, .string name2, .slice ao n c] 24)).alloc (.cells #[.int .u8 65, .int .u8 78, .int .u8 81, .int .u8 49] 5 (4, 5))) (some ⟨w.heap.size + 1, 0, none⟩) 4 4 (nums ⟨#[65, 78, 81, 49]⟩) :=
    lies_mark (w.alloc (.cells #[.int .i64 cl, .int .i64 sq, .int .i64 ak, .int .i64 ep, .int .i64 4, .int .i64 id, .int .i64 id2, .int .i64 off, .int .i64 len, .string path, .string name, .string name2, .slice ao n c] 24)) [65, 78, 81, 49] 4 rfl _ rfl (4, 5) (w.heap.size + 1) (by simp)
  have hB := rq_later hB hb0 (Nat.le_refl _)
  have hq0 : Below w.heap.size w ((w.alloc (.cells #[.int .i64 cl, .int .i64 sq, .int .i64 ak, .int .i64 ep, .int .i64 4, .int .i64 id, .int .i64 id2, .int .i64 off, .int .i64 len, .string path, .string name, .string name2, .slice ao n c] 24)).alloc (.cells #[.int .u8 65, .int .u8 78, .int .u8 81, .int .u8 49] 5 (4, 5))) := (newBox w _).trans (hb0.mono (by simp))
  have hd1 := padk_le path.size
  have hd2 := padk_le name.size
  have hd3 := padk_le name2.size
  have hd4 := padk_le n
  clear hb0
  have dlp : decide ((112 : Int) ∈ nums ⟨#[105, 111, 100]⟩) = false := by decide
  have dli : decide ((105 : Int) ∈ nums ⟨#[105, 111, 100]⟩) = true := by decide
  have dlo : decide ((111 : Int) ∈ nums ⟨#[105, 111, 100]⟩) = true := by decide
  have dll : decide ((108 : Int) ∈ nums ⟨#[105, 111, 100]⟩) = false := by decide
  have dln : decide ((110 : Int) ∈ nums ⟨#[105, 111, 100]⟩) = false := by decide
  have dlj : decide ((106 : Int) ∈ nums ⟨#[105, 111, 100]⟩) = false := by decide
  have dlm : decide ((109 : Int) ∈ nums ⟨#[105, 111, 100]⟩) = false := by decide
  have dld : decide ((100 : Int) ∈ nums ⟨#[105, 111, 100]⟩) = true := by decide
  go_enter Tryz.func52, Tryz.ntmps52
  go_wp2_with fail
  generalize (w.alloc (.cells #[.int .i64 cl, .int .i64 sq, .int .i64 ak, .int .i64 ep, .int .i64 4, .int .i64 id, .int .i64 id2, .int .i64 off, .int .i64 len, .string path, .string name, .string name2, .slice ao n c] 24)).alloc (.cells #[.int .u8 65, .int .u8 78, .int .u8 81, .int .u8 49] 5 (4, 5)) = wA at *
  refine (ref32 _ _ _ _ cl _ (by omega) hL0).mono ?_
  rintro e w1 ⟨a1, c1, rfl, ho, hb⟩
  have hL1 := Lies.owned ho
  have hq1 := hq0.trans (hb.mono hq0.size)
  have hB := rq_later hB hb (Nat.le_refl _)
  clear ho hb hL0 hq0
  have hB' := hB
  obtain ⟨b0, b1, b2, b3, b4, b5, b6, b7, b8, b9, b10, b11, b12⟩ := hB'
  go_wp2_with fail
  clear b0 b1 b2 b3 b4 b5 b6 b7 b8 b9 b10 b11 b12
  refine (ref64 _ _ _ _ sq _ (by omega) hL1).mono ?_
  rintro e w2 ⟨a2, c2, rfl, ho, hb⟩
  have hL2 := Lies.owned ho
  have hq2 := hq1.trans (hb.mono hq1.size)
  have hB := rq_later hB hb (Nat.le_refl _)
  clear ho hb hL1 hq1
  have hB' := hB
  obtain ⟨b0, b1, b2, b3, b4, b5, b6, b7, b8, b9, b10, b11, b12⟩ := hB'
  go_wp2_with fail
  clear b0 b1 b2 b3 b4 b5 b6 b7 b8 b9 b10 b11 b12
  refine (ref64 _ _ _ _ ak _ (by omega) hL2).mono ?_
  rintro e w3 ⟨a3, c3, rfl, ho, hb⟩
  have hL3 := Lies.owned ho
  have hq3 := hq2.trans (hb.mono hq2.size)
  have hB := rq_later hB hb (Nat.le_refl _)
  clear ho hb hL2 hq2
  have hB' := hB
  obtain ⟨b0, b1, b2, b3, b4, b5, b6, b7, b8, b9, b10, b11, b12⟩ := hB'
  go_wp2_with fail
  clear b0 b1 b2 b3 b4 b5 b6 b7 b8 b9 b10 b11 b12
  refine (ref64 _ _ _ _ ep _ (by omega) hL3).mono ?_
  rintro e w4 ⟨a4, c4, rfl, ho, hb⟩
  have hL4 := Lies.owned ho
  have hq4 := hq3.trans (hb.mono hq3.size)
  have hB := rq_later hB hb (Nat.le_refl _)
  clear ho hb hL3 hq3
  have hB' := hB
  obtain ⟨b0, b1, b2, b3, b4, b5, b6, b7, b8, b9, b10, b11, b12⟩ := hB'
  go_wp2_with fail
  clear b0 b1 b2 b3 b4 b5 b6 b7 b8 b9 b10 b11 b12
  refine (ref32 _ _ _ _ 4 _ (by omega) hL4).mono ?_
  rintro e w5 ⟨a5, c5, rfl, ho, hb⟩
  have hL5 := Lies.owned ho
  have hq5 := hq4.trans (hb.mono hq4.size)
  have hB := rq_later hB hb (Nat.le_refl _)
  clear ho hb hL4 hq4
  have hB' := hB
  obtain ⟨b0, b1, b2, b3, b4, b5, b6, b7, b8, b9, b10, b11, b12⟩ := hB'
  go_wp2_with fail
  refine (rhas_is (s := ⟨#[105, 111, 100]⟩) rfl _).mono ?_
  rintro e wn ⟨rfl, hwn⟩
  subst wn
  clear b0 b1 b2 b3 b4 b5 b6 b7 b8 b9 b10 b11 b12
  have hB' := hB
  obtain ⟨b0, b1, b2, b3, b4, b5, b6, b7, b8, b9, b10, b11, b12⟩ := hB'
  go_wp2_with (go_at_call 68; refine (rin_any _ _ _ (by decide)).mono ?_; rintro e wn ⟨rfl, hwn⟩; subst wn; first | rw [dlp] | rw [dli] | rw [dlo] | rw [dll] | rw [dln] | rw [dlj] | rw [dlm] | rw [dld])
  clear b0 b1 b2 b3 b4 b5 b6 b7 b8 b9 b10 b11 b12
  refine (ref64 _ _ _ _ id _ (by omega) hL5).mono ?_
  rintro e w6 ⟨a6, c6, rfl, ho, hb⟩
  have hL6 := Lies.owned ho
  have hq6 := hq5.trans (hb.mono hq5.size)
  have hB := rq_later hB hb (Nat.le_refl _)
  clear ho hb hL5 hq5
  have hB' := hB
  obtain ⟨b0, b1, b2, b3, b4, b5, b6, b7, b8, b9, b10, b11, b12⟩ := hB'
  go_wp2_with (go_at_call 68; refine (rin_any _ _ _ (by decide)).mono ?_; rintro e wn ⟨rfl, hwn⟩; subst wn; first | rw [dlp] | rw [dli] | rw [dlo] | rw [dll] | rw [dln] | rw [dlj] | rw [dlm] | rw [dld])
  clear b0 b1 b2 b3 b4 b5 b6 b7 b8 b9 b10 b11 b12
  refine (ref32 _ _ _ _ off _ (by omega) hL6).mono ?_
  rintro e w7 ⟨a7, c7, rfl, ho, hb⟩
  have hL7 := Lies.owned ho
  have hq7 := hq6.trans (hb.mono hq6.size)
  have hB := rq_later hB hb (Nat.le_refl _)
  clear ho hb hL6 hq6
  have hB' := hB
  obtain ⟨b0, b1, b2, b3, b4, b5, b6, b7, b8, b9, b10, b11, b12⟩ := hB'
  go_wp2_with (go_at_call 68; refine (rin_any _ _ _ (by decide)).mono ?_; rintro e wn ⟨rfl, hwn⟩; subst wn; first | rw [dlp] | rw [dli] | rw [dlo] | rw [dll] | rw [dln] | rw [dlj] | rw [dlm] | rw [dld])
  clear b0 b1 b2 b3 b4 b5 b6 b7 b8 b9 b10 b11 b12
  refine (refBytes _ _ _ _ ao n c data _ (by omega) (by omega) hL7 (hD.below hq7 (Nat.le_refl _))).mono ?_
  rintro e w8 ⟨a8, c8, rfl, ho, hb⟩
  have hL8 := Lies.owned ho
  have hq8 := hq7.trans (hb.mono hq7.size)
  have hB := rq_later hB hb (Nat.le_refl _)
  clear ho hb hL7 hq7
  have hB' := hB
  obtain ⟨b0, b1, b2, b3, b4, b5, b6, b7, b8, b9, b10, b11, b12⟩ := hB'
  go_wp2_with (go_at_call 68; refine (rin_any _ _ _ (by decide)).mono ?_; rintro e wn ⟨rfl, hwn⟩; subst wn; first | rw [dlp] | rw [dli] | rw [dlo] | rw [dll] | rw [dln] | rw [dlj] | rw [dlm] | rw [dld])
  go_ret
  refine ⟨a8, _, c8, rfl, ?_, by omega, hq8⟩
  have h := hL8
  simpa [putAll, putV, rqHead, rqAny, pick, hasRq, dtB, hD.hlen] using h
end Go.Proofs.YtdkcplndplhblaaGreatDoor

/- annexref4.RequestBytes, of one operation. -/
namespace Go.Proofs.YtdkcplndplhblaaGreatDoor
open Go.RowKit
set_option maxRecDepth 100000

set_option maxHeartbeats 4000000 in
theorem rbytes_5 (cl sq ak ep id id2 off len : Int) (path name name2 : ByteArray) (data : List Int) (ao : Option Addr) (n c : Nat) (w : World) (hp2 : name.size ≤ 100000) :
    Calls Tryz.prog 52 #[rqV ⟨cl, sq, ak, ep, 5, id, id2, off, len, path, name, name2, data⟩ ao n c] w fun e w' => ∃ ao' n' c', e = .returned (.slice ao' n' c') ∧ Lies w' ao' n' c' (nums ⟨#[65, 78, 81, 49]⟩ ++ putAll (rqHead ⟨cl, sq, ak, ep, 5, id, id2, off, len, path, name, name2, data⟩) ++ putAll (pick (hasRq 5) (rqAny ⟨cl, sq, ak, ep, 5, id, id2, off, len, path, name, name2, data⟩))) ∧ n' ≤ 1000000 ∧ Below w.heap.size w w' := by
  have hcc := Go.Joins.run_convert_bytes_const_at (P := Tryz.prog) (w.alloc (.cells #[.int .i64 cl, .int .i64 sq, .int .i64 ak, .int .i64 ep, .int .i64 5, .int .i64 id, .int .i64 id2, .int .i64 off, .int .i64 len, .string path, .string name, .string name2, .slice ao n c] 24)) 22 5 #[.int .u8 65, .int .u8 78, .int .u8 81, .int .u8 49] 4 4 (w.heap.size + 1) (by simp) Tryz.underlying22 Tryz.underlying5
  have hB := RqBox.new w ⟨cl, sq, ak, ep, 5, id, id2, off, len, path, name, name2, data⟩ ao n c
  have hb0 := newBox (w.alloc (.cells #[.int .i64 cl, .int .i64 sq, .int .i64 ak, .int .i64 ep, .int .i64 5, .int .i64 id, .int .i64 id2, .int .i64 off, .int .i64 len, .string path, .string name, .string name2, .slice ao n c] 24)) (.cells #[.int .u8 65, .int .u8 78, .int .u8 81, .int .u8 49] 5 (4, 5))
  have hL0 : Lies ((w.alloc (.cells #[.int .i64 cl, .int .i64 sq, .int .i64 ak, .int .i64 ep, .int .i64 5, .int .i64 id, .int .i64 id2, .int .i64 off, .int .i64 len, .string path, .string name, .string name2, .slice ao n c] 24)).alloc (.cells #[.int .u8 65, .int .u8 78, .int .u8 81, .int .u8 49] 5 (4, 5))) (some ⟨w.heap.size + 1, 0, none⟩) 4 4 (nums ⟨#[65, 78, 81, 49]⟩) :=
    lies_mark (w.alloc (.cells #[.int .i64 cl, .int .i64 sq, .int .i64 ak, .int .i64 ep, .int .i64 5, .int .i64 id, .int .i64 id2, .int .i64 off, .int .i64 len, .string path, .string name, .string name2, .slice ao n c] 24)) [65, 78, 81, 49] 4 rfl _ rfl (4, 5) (w.heap.size + 1) (by simp)
  have hB := rq_later hB hb0 (Nat.le_refl _)
  have hq0 : Below w.heap.size w ((w.alloc (.cells #[.int .i64 cl, .int .i64 sq, .int .i64 ak, .int .i64 ep, .int .i64 5, .int .i64 id, .int .i64 id2, .int .i64 off, .int .i64 len, .string path, .string name, .string name2, .slice ao n c] 24)).alloc (.cells #[.int .u8 65, .int .u8 78, .int .u8 81, .int .u8 49] 5 (4, 5))) := (newBox w _).trans (hb0.mono (by simp))
  have hd1 := padk_le path.size
  have hd2 := padk_le name.size
  have hd3 := padk_le name2.size
  have hd4 := padk_le n
  clear hb0
  have dlp : decide ((112 : Int) ∈ nums ⟨#[105, 110]⟩) = false := by decide
  have dli : decide ((105 : Int) ∈ nums ⟨#[105, 110]⟩) = true := by decide
  have dlo : decide ((111 : Int) ∈ nums ⟨#[105, 110]⟩) = false := by decide
  have dll : decide ((108 : Int) ∈ nums ⟨#[105, 110]⟩) = false := by decide
  have dln : decide ((110 : Int) ∈ nums ⟨#[105, 110]⟩) = true := by decide
  have dlj : decide ((106 : Int) ∈ nums ⟨#[105, 110]⟩) = false := by decide
  have dlm : decide ((109 : Int) ∈ nums ⟨#[105, 110]⟩) = false := by decide
  have dld : decide ((100 : Int) ∈ nums ⟨#[105, 110]⟩) = false := by decide
  go_enter Tryz.func52, Tryz.ntmps52
  go_wp2_with fail
  generalize (w.alloc (.cells #[.int .i64 cl, .int .i64 sq, .int .i64 ak, .int .i64 ep, .int .i64 5, .int .i64 id, .int .i64 id2, .int .i64 off, .int .i64 len, .string path, .string name, .string name2, .slice ao n c] 24)).alloc (.cells #[.int .u8 65, .int .u8 78, .int .u8 81, .int .u8 49] 5 (4, 5)) = wA at *
  refine (ref32 _ _ _ _ cl _ (by omega) hL0).mono ?_
  rintro e w1 ⟨a1, c1, rfl, ho, hb⟩
  have hL1 := Lies.owned ho
  have hq1 := hq0.trans (hb.mono hq0.size)
  have hB := rq_later hB hb (Nat.le_refl _)
  clear ho hb hL0 hq0
  have hB' := hB
  obtain ⟨b0, b1, b2, b3, b4, b5, b6, b7, b8, b9, b10, b11, b12⟩ := hB'
  go_wp2_with fail
  clear b0 b1 b2 b3 b4 b5 b6 b7 b8 b9 b10 b11 b12
  refine (ref64 _ _ _ _ sq _ (by omega) hL1).mono ?_
  rintro e w2 ⟨a2, c2, rfl, ho, hb⟩
  have hL2 := Lies.owned ho
  have hq2 := hq1.trans (hb.mono hq1.size)
  have hB := rq_later hB hb (Nat.le_refl _)
  clear ho hb hL1 hq1
  have hB' := hB
  obtain ⟨b0, b1, b2, b3, b4, b5, b6, b7, b8, b9, b10, b11, b12⟩ := hB'
  go_wp2_with fail
  clear b0 b1 b2 b3 b4 b5 b6 b7 b8 b9 b10 b11 b12
  refine (ref64 _ _ _ _ ak _ (by omega) hL2).mono ?_
  rintro e w3 ⟨a3, c3, rfl, ho, hb⟩
  have hL3 := Lies.owned ho
  have hq3 := hq2.trans (hb.mono hq2.size)
  have hB := rq_later hB hb (Nat.le_refl _)
  clear ho hb hL2 hq2
  have hB' := hB
  obtain ⟨b0, b1, b2, b3, b4, b5, b6, b7, b8, b9, b10, b11, b12⟩ := hB'
  go_wp2_with fail
  clear b0 b1 b2 b3 b4 b5 b6 b7 b8 b9 b10 b11 b12
  refine (ref64 _ _ _ _ ep _ (by omega) hL3).mono ?_
  rintro e w4 ⟨a4, c4, rfl, ho, hb⟩
  have hL4 := Lies.owned ho
  have hq4 := hq3.trans (hb.mono hq3.size)
  have hB := rq_later hB hb (Nat.le_refl _)
  clear ho hb hL3 hq3
  have hB' := hB
  obtain ⟨b0, b1, b2, b3, b4, b5, b6, b7, b8, b9, b10, b11, b12⟩ := hB'
  go_wp2_with fail
  clear b0 b1 b2 b3 b4 b5 b6 b7 b8 b9 b10 b11 b12
  refine (ref32 _ _ _ _ 5 _ (by omega) hL4).mono ?_
  rintro e w5 ⟨a5, c5, rfl, ho, hb⟩
  have hL5 := Lies.owned ho
  have hq5 := hq4.trans (hb.mono hq4.size)
  have hB := rq_later hB hb (Nat.le_refl _)
  clear ho hb hL4 hq4
  have hB' := hB
  obtain ⟨b0, b1, b2, b3, b4, b5, b6, b7, b8, b9, b10, b11, b12⟩ := hB'
  go_wp2_with fail
  refine (rhas_is (s := ⟨#[105, 110]⟩) rfl _).mono ?_
  rintro e wn ⟨rfl, hwn⟩
  subst wn
  clear b0 b1 b2 b3 b4 b5 b6 b7 b8 b9 b10 b11 b12
  have hB' := hB
  obtain ⟨b0, b1, b2, b3, b4, b5, b6, b7, b8, b9, b10, b11, b12⟩ := hB'
  go_wp2_with (go_at_call 68; refine (rin_any _ _ _ (by decide)).mono ?_; rintro e wn ⟨rfl, hwn⟩; subst wn; first | rw [dlp] | rw [dli] | rw [dlo] | rw [dll] | rw [dln] | rw [dlj] | rw [dlm] | rw [dld])
  clear b0 b1 b2 b3 b4 b5 b6 b7 b8 b9 b10 b11 b12
  refine (ref64 _ _ _ _ id _ (by omega) hL5).mono ?_
  rintro e w6 ⟨a6, c6, rfl, ho, hb⟩
  have hL6 := Lies.owned ho
  have hq6 := hq5.trans (hb.mono hq5.size)
  have hB := rq_later hB hb (Nat.le_refl _)
  clear ho hb hL5 hq5
  have hB' := hB
  obtain ⟨b0, b1, b2, b3, b4, b5, b6, b7, b8, b9, b10, b11, b12⟩ := hB'
  go_wp2_with (go_at_call 68; refine (rin_any _ _ _ (by decide)).mono ?_; rintro e wn ⟨rfl, hwn⟩; subst wn; first | rw [dlp] | rw [dli] | rw [dlo] | rw [dll] | rw [dln] | rw [dlj] | rw [dlm] | rw [dld])
  clear b0 b1 b2 b3 b4 b5 b6 b7 b8 b9 b10 b11 b12
  refine (refText _ _ _ _ name _ (by omega) hL6).mono ?_
  rintro e w7 ⟨a7, c7, rfl, ho, hb⟩
  have hL7 := Lies.owned ho
  have hq7 := hq6.trans (hb.mono hq6.size)
  have hB := rq_later hB hb (Nat.le_refl _)
  clear ho hb hL6 hq6
  have hB' := hB
  obtain ⟨b0, b1, b2, b3, b4, b5, b6, b7, b8, b9, b10, b11, b12⟩ := hB'
  go_wp2_with (go_at_call 68; refine (rin_any _ _ _ (by decide)).mono ?_; rintro e wn ⟨rfl, hwn⟩; subst wn; first | rw [dlp] | rw [dli] | rw [dlo] | rw [dll] | rw [dln] | rw [dlj] | rw [dlm] | rw [dld])
  go_ret
  refine ⟨a7, _, c7, rfl, ?_, by omega, hq7⟩
  have h := hL7
  simpa [putAll, putV, rqHead, rqAny, pick, hasRq, txB] using h

set_option maxHeartbeats 4000000 in
theorem rbytes_6 (cl sq ak ep id id2 off len : Int) (path name name2 : ByteArray) (data : List Int) (ao : Option Addr) (n c : Nat) (w : World) (hp2 : name.size ≤ 100000) :
    Calls Tryz.prog 52 #[rqV ⟨cl, sq, ak, ep, 6, id, id2, off, len, path, name, name2, data⟩ ao n c] w fun e w' => ∃ ao' n' c', e = .returned (.slice ao' n' c') ∧ Lies w' ao' n' c' (nums ⟨#[65, 78, 81, 49]⟩ ++ putAll (rqHead ⟨cl, sq, ak, ep, 6, id, id2, off, len, path, name, name2, data⟩) ++ putAll (pick (hasRq 6) (rqAny ⟨cl, sq, ak, ep, 6, id, id2, off, len, path, name, name2, data⟩))) ∧ n' ≤ 1000000 ∧ Below w.heap.size w w' := by
  have hcc := Go.Joins.run_convert_bytes_const_at (P := Tryz.prog) (w.alloc (.cells #[.int .i64 cl, .int .i64 sq, .int .i64 ak, .int .i64 ep, .int .i64 6, .int .i64 id, .int .i64 id2, .int .i64 off, .int .i64 len, .string path, .string name, .string name2, .slice ao n c] 24)) 22 5 #[.int .u8 65, .int .u8 78, .int .u8 81, .int .u8 49] 4 4 (w.heap.size + 1) (by simp) Tryz.underlying22 Tryz.underlying5
  have hB := RqBox.new w ⟨cl, sq, ak, ep, 6, id, id2, off, len, path, name, name2, data⟩ ao n c
  have hb0 := newBox (w.alloc (.cells #[.int .i64 cl, .int .i64 sq, .int .i64 ak, .int .i64 ep, .int .i64 6, .int .i64 id, .int .i64 id2, .int .i64 off, .int .i64 len, .string path, .string name, .string name2, .slice ao n c] 24)) (.cells #[.int .u8 65, .int .u8 78, .int .u8 81, .int .u8 49] 5 (4, 5))
  have hL0 : Lies ((w.alloc (.cells #[.int .i64 cl, .int .i64 sq, .int .i64 ak, .int .i64 ep, .int .i64 6, .int .i64 id, .int .i64 id2, .int .i64 off, .int .i64 len, .string path, .string name, .string name2, .slice ao n c] 24)).alloc (.cells #[.int .u8 65, .int .u8 78, .int .u8 81, .int .u8 49] 5 (4, 5))) (some ⟨w.heap.size + 1, 0, none⟩) 4 4 (nums ⟨#[65, 78, 81, 49]⟩) :=
    lies_mark (w.alloc (.cells #[.int .i64 cl, .int .i64 sq, .int .i64 ak, .int .i64 ep, .int .i64 6, .int .i64 id, .int .i64 id2, .int .i64 off, .int .i64 len, .string path, .string name, .string name2, .slice ao n c] 24)) [65, 78, 81, 49] 4 rfl _ rfl (4, 5) (w.heap.size + 1) (by simp)
  have hB := rq_later hB hb0 (Nat.le_refl _)
  have hq0 : Below w.heap.size w ((w.alloc (.cells #[.int .i64 cl, .int .i64 sq, .int .i64 ak, .int .i64 ep, .int .i64 6, .int .i64 id, .int .i64 id2, .int .i64 off, .int .i64 len, .string path, .string name, .string name2, .slice ao n c] 24)).alloc (.cells #[.int .u8 65, .int .u8 78, .int .u8 81, .int .u8 49] 5 (4, 5))) := (newBox w _).trans (hb0.mono (by simp))
  have hd1 := padk_le path.size
  have hd2 := padk_le name.size
  have hd3 := padk_le name2.size
  have hd4 := padk_le n
  clear hb0
  have dlp : decide ((112 : Int) ∈ nums ⟨#[105, 110]⟩) = false := by decide
  have dli : decide ((105 : Int) ∈ nums ⟨#[105, 110]⟩) = true := by decide
  have dlo : decide ((111 : Int) ∈ nums ⟨#[105, 110]⟩) = false := by decide
  have dll : decide ((108 : Int) ∈ nums ⟨#[105, 110]⟩) = false := by decide
  have dln : decide ((110 : Int) ∈ nums ⟨#[105, 110]⟩) = true := by decide
  have dlj : decide ((106 : Int) ∈ nums ⟨#[105, 110]⟩) = false := by decide
  have dlm : decide ((109 : Int) ∈ nums ⟨#[105, 110]⟩) = false := by decide
  have dld : decide ((100 : Int) ∈ nums ⟨#[105, 110]⟩) = false := by decide
  go_enter Tryz.func52, Tryz.ntmps52
  go_wp2_with fail
  generalize (w.alloc (.cells #[.int .i64 cl, .int .i64 sq, .int .i64 ak, .int .i64 ep, .int .i64 6, .int .i64 id, .int .i64 id2, .int .i64 off, .int .i64 len, .string path, .string name, .string name2, .slice ao n c] 24)).alloc (.cells #[.int .u8 65, .int .u8 78, .int .u8 81, .int .u8 49] 5 (4, 5)) = wA at *
  refine (ref32 _ _ _ _ cl _ (by omega) hL0).mono ?_
  rintro e w1 ⟨a1, c1, rfl, ho, hb⟩
  have hL1 := Lies.owned ho
  have hq1 := hq0.trans (hb.mono hq0.size)
  have hB := rq_later hB hb (Nat.le_refl _)
  clear ho hb hL0 hq0
  have hB' := hB
  obtain ⟨b0, b1, b2, b3, b4, b5, b6, b7, b8, b9, b10, b11, b12⟩ := hB'
  go_wp2_with fail
  clear b0 b1 b2 b3 b4 b5 b6 b7 b8 b9 b10 b11 b12
  refine (ref64 _ _ _ _ sq _ (by omega) hL1).mono ?_
  rintro e w2 ⟨a2, c2, rfl, ho, hb⟩
  have hL2 := Lies.owned ho
  have hq2 := hq1.trans (hb.mono hq1.size)
  have hB := rq_later hB hb (Nat.le_refl _)
  clear ho hb hL1 hq1
  have hB' := hB
  obtain ⟨b0, b1, b2, b3, b4, b5, b6, b7, b8, b9, b10, b11, b12⟩ := hB'
  go_wp2_with fail
  clear b0 b1 b2 b3 b4 b5 b6 b7 b8 b9 b10 b11 b12
  refine (ref64 _ _ _ _ ak _ (by omega) hL2).mono ?_
  rintro e w3 ⟨a3, c3, rfl, ho, hb⟩
  have hL3 := Lies.owned ho
  have hq3 := hq2.trans (hb.mono hq2.size)
  have hB := rq_later hB hb (Nat.le_refl _)
  clear ho hb hL2 hq2
  have hB' := hB
  obtain ⟨b0, b1, b2, b3, b4, b5, b6, b7, b8, b9, b10, b11, b12⟩ := hB'
  go_wp2_with fail
  clear b0 b1 b2 b3 b4 b5 b6 b7 b8 b9 b10 b11 b12
  refine (ref64 _ _ _ _ ep _ (by omega) hL3).mono ?_
  rintro e w4 ⟨a4, c4, rfl, ho, hb⟩
  have hL4 := Lies.owned ho
  have hq4 := hq3.trans (hb.mono hq3.size)
  have hB := rq_later hB hb (Nat.le_refl _)
  clear ho hb hL3 hq3
  have hB' := hB
  obtain ⟨b0, b1, b2, b3, b4, b5, b6, b7, b8, b9, b10, b11, b12⟩ := hB'
  go_wp2_with fail
  clear b0 b1 b2 b3 b4 b5 b6 b7 b8 b9 b10 b11 b12
  refine (ref32 _ _ _ _ 6 _ (by omega) hL4).mono ?_
  rintro e w5 ⟨a5, c5, rfl, ho, hb⟩
  have hL5 := Lies.owned ho
  have hq5 := hq4.trans (hb.mono hq4.size)
  have hB := rq_later hB hb (Nat.le_refl _)
  clear ho hb hL4 hq4
  have hB' := hB
  obtain ⟨b0, b1, b2, b3, b4, b5, b6, b7, b8, b9, b10, b11, b12⟩ := hB'
  go_wp2_with fail
  refine (rhas_is (s := ⟨#[105, 110]⟩) rfl _).mono ?_
  rintro e wn ⟨rfl, hwn⟩
  subst wn
  clear b0 b1 b2 b3 b4 b5 b6 b7 b8 b9 b10 b11 b12
  have hB' := hB
  obtain ⟨b0, b1, b2, b3, b4, b5, b6, b7, b8, b9, b10, b11, b12⟩ := hB'
  go_wp2_with (go_at_call 68; refine (rin_any _ _ _ (by decide)).mono ?_; rintro e wn ⟨rfl, hwn⟩; subst wn; first | rw [dlp] | rw [dli] | rw [dlo] | rw [dll] | rw [dln] | rw [dlj] | rw [dlm] | rw [dld])
  clear b0 b1 b2 b3 b4 b5 b6 b7 b8 b9 b10 b11 b12
  refine (ref64 _ _ _ _ id _ (by omega) hL5).mono ?_
  rintro e w6 ⟨a6, c6, rfl, ho, hb⟩
  have hL6 := Lies.owned ho
  have hq6 := hq5.trans (hb.mono hq5.size)
  have hB := rq_later hB hb (Nat.le_refl _)
  clear ho hb hL5 hq5
  have hB' := hB
  obtain ⟨b0, b1, b2, b3, b4, b5, b6, b7, b8, b9, b10, b11, b12⟩ := hB'
  go_wp2_with (go_at_call 68; refine (rin_any _ _ _ (by decide)).mono ?_; rintro e wn ⟨rfl, hwn⟩; subst wn; first | rw [dlp] | rw [dli] | rw [dlo] | rw [dll] | rw [dln] | rw [dlj] | rw [dlm] | rw [dld])
  clear b0 b1 b2 b3 b4 b5 b6 b7 b8 b9 b10 b11 b12
  refine (refText _ _ _ _ name _ (by omega) hL6).mono ?_
  rintro e w7 ⟨a7, c7, rfl, ho, hb⟩
  have hL7 := Lies.owned ho
  have hq7 := hq6.trans (hb.mono hq6.size)
  have hB := rq_later hB hb (Nat.le_refl _)
  clear ho hb hL6 hq6
  have hB' := hB
  obtain ⟨b0, b1, b2, b3, b4, b5, b6, b7, b8, b9, b10, b11, b12⟩ := hB'
  go_wp2_with (go_at_call 68; refine (rin_any _ _ _ (by decide)).mono ?_; rintro e wn ⟨rfl, hwn⟩; subst wn; first | rw [dlp] | rw [dli] | rw [dlo] | rw [dll] | rw [dln] | rw [dlj] | rw [dlm] | rw [dld])
  go_ret
  refine ⟨a7, _, c7, rfl, ?_, by omega, hq7⟩
  have h := hL7
  simpa [putAll, putV, rqHead, rqAny, pick, hasRq, txB] using h

set_option maxHeartbeats 4000000 in
theorem rbytes_7 (cl sq ak ep id id2 off len : Int) (path name name2 : ByteArray) (data : List Int) (ao : Option Addr) (n c : Nat) (w : World) (hp2 : name.size ≤ 100000) :
    Calls Tryz.prog 52 #[rqV ⟨cl, sq, ak, ep, 7, id, id2, off, len, path, name, name2, data⟩ ao n c] w fun e w' => ∃ ao' n' c', e = .returned (.slice ao' n' c') ∧ Lies w' ao' n' c' (nums ⟨#[65, 78, 81, 49]⟩ ++ putAll (rqHead ⟨cl, sq, ak, ep, 7, id, id2, off, len, path, name, name2, data⟩) ++ putAll (pick (hasRq 7) (rqAny ⟨cl, sq, ak, ep, 7, id, id2, off, len, path, name, name2, data⟩))) ∧ n' ≤ 1000000 ∧ Below w.heap.size w w' := by
  have hcc := Go.Joins.run_convert_bytes_const_at (P := Tryz.prog) (w.alloc (.cells #[.int .i64 cl, .int .i64 sq, .int .i64 ak, .int .i64 ep, .int .i64 7, .int .i64 id, .int .i64 id2, .int .i64 off, .int .i64 len, .string path, .string name, .string name2, .slice ao n c] 24)) 22 5 #[.int .u8 65, .int .u8 78, .int .u8 81, .int .u8 49] 4 4 (w.heap.size + 1) (by simp) Tryz.underlying22 Tryz.underlying5
  have hB := RqBox.new w ⟨cl, sq, ak, ep, 7, id, id2, off, len, path, name, name2, data⟩ ao n c
  have hb0 := newBox (w.alloc (.cells #[.int .i64 cl, .int .i64 sq, .int .i64 ak, .int .i64 ep, .int .i64 7, .int .i64 id, .int .i64 id2, .int .i64 off, .int .i64 len, .string path, .string name, .string name2, .slice ao n c] 24)) (.cells #[.int .u8 65, .int .u8 78, .int .u8 81, .int .u8 49] 5 (4, 5))
  have hL0 : Lies ((w.alloc (.cells #[.int .i64 cl, .int .i64 sq, .int .i64 ak, .int .i64 ep, .int .i64 7, .int .i64 id, .int .i64 id2, .int .i64 off, .int .i64 len, .string path, .string name, .string name2, .slice ao n c] 24)).alloc (.cells #[.int .u8 65, .int .u8 78, .int .u8 81, .int .u8 49] 5 (4, 5))) (some ⟨w.heap.size + 1, 0, none⟩) 4 4 (nums ⟨#[65, 78, 81, 49]⟩) :=
    lies_mark (w.alloc (.cells #[.int .i64 cl, .int .i64 sq, .int .i64 ak, .int .i64 ep, .int .i64 7, .int .i64 id, .int .i64 id2, .int .i64 off, .int .i64 len, .string path, .string name, .string name2, .slice ao n c] 24)) [65, 78, 81, 49] 4 rfl _ rfl (4, 5) (w.heap.size + 1) (by simp)
  have hB := rq_later hB hb0 (Nat.le_refl _)
  have hq0 : Below w.heap.size w ((w.alloc (.cells #[.int .i64 cl, .int .i64 sq, .int .i64 ak, .int .i64 ep, .int .i64 7, .int .i64 id, .int .i64 id2, .int .i64 off, .int .i64 len, .string path, .string name, .string name2, .slice ao n c] 24)).alloc (.cells #[.int .u8 65, .int .u8 78, .int .u8 81, .int .u8 49] 5 (4, 5))) := (newBox w _).trans (hb0.mono (by simp))
  have hd1 := padk_le path.size
  have hd2 := padk_le name.size
  have hd3 := padk_le name2.size
  have hd4 := padk_le n
  clear hb0
  have dlp : decide ((112 : Int) ∈ nums ⟨#[105, 110]⟩) = false := by decide
  have dli : decide ((105 : Int) ∈ nums ⟨#[105, 110]⟩) = true := by decide
  have dlo : decide ((111 : Int) ∈ nums ⟨#[105, 110]⟩) = false := by decide
  have dll : decide ((108 : Int) ∈ nums ⟨#[105, 110]⟩) = false := by decide
  have dln : decide ((110 : Int) ∈ nums ⟨#[105, 110]⟩) = true := by decide
  have dlj : decide ((106 : Int) ∈ nums ⟨#[105, 110]⟩) = false := by decide
  have dlm : decide ((109 : Int) ∈ nums ⟨#[105, 110]⟩) = false := by decide
  have dld : decide ((100 : Int) ∈ nums ⟨#[105, 110]⟩) = false := by decide
  go_enter Tryz.func52, Tryz.ntmps52
  go_wp2_with fail
  generalize (w.alloc (.cells #[.int .i64 cl, .int .i64 sq, .int .i64 ak, .int .i64 ep, .int .i64 7, .int .i64 id, .int .i64 id2, .int .i64 off, .int .i64 len, .string path, .string name, .string name2, .slice ao n c] 24)).alloc (.cells #[.int .u8 65, .int .u8 78, .int .u8 81, .int .u8 49] 5 (4, 5)) = wA at *
  refine (ref32 _ _ _ _ cl _ (by omega) hL0).mono ?_
  rintro e w1 ⟨a1, c1, rfl, ho, hb⟩
  have hL1 := Lies.owned ho
  have hq1 := hq0.trans (hb.mono hq0.size)
  have hB := rq_later hB hb (Nat.le_refl _)
  clear ho hb hL0 hq0
  have hB' := hB
  obtain ⟨b0, b1, b2, b3, b4, b5, b6, b7, b8, b9, b10, b11, b12⟩ := hB'
  go_wp2_with fail
  clear b0 b1 b2 b3 b4 b5 b6 b7 b8 b9 b10 b11 b12
  refine (ref64 _ _ _ _ sq _ (by omega) hL1).mono ?_
  rintro e w2 ⟨a2, c2, rfl, ho, hb⟩
  have hL2 := Lies.owned ho
  have hq2 := hq1.trans (hb.mono hq1.size)
  have hB := rq_later hB hb (Nat.le_refl _)
  clear ho hb hL1 hq1
  have hB' := hB
  obtain ⟨b0, b1, b2, b3, b4, b5, b6, b7, b8, b9, b10, b11, b12⟩ := hB'
  go_wp2_with fail
  clear b0 b1 b2 b3 b4 b5 b6 b7 b8 b9 b10 b11 b12
  refine (ref64 _ _ _ _ ak _ (by omega) hL2).mono ?_
  rintro e w3 ⟨a3, c3, rfl, ho, hb⟩
  have hL3 := Lies.owned ho
  have hq3 := hq2.trans (hb.mono hq2.size)
  have hB := rq_later hB hb (Nat.le_refl _)
  clear ho hb hL2 hq2
  have hB' := hB
  obtain ⟨b0, b1, b2, b3, b4, b5, b6, b7, b8, b9, b10, b11, b12⟩ := hB'
  go_wp2_with fail
  clear b0 b1 b2 b3 b4 b5 b6 b7 b8 b9 b10 b11 b12
  refine (ref64 _ _ _ _ ep _ (by omega) hL3).mono ?_
  rintro e w4 ⟨a4, c4, rfl, ho, hb⟩
  have hL4 := Lies.owned ho
  have hq4 := hq3.trans (hb.mono hq3.size)
  have hB := rq_later hB hb (Nat.le_refl _)
  clear ho hb hL3 hq3
  have hB' := hB
  obtain ⟨b0, b1, b2, b3, b4, b5, b6, b7, b8, b9, b10, b11, b12⟩ := hB'
  go_wp2_with fail
  clear b0 b1 b2 b3 b4 b5 b6 b7 b8 b9 b10 b11 b12
  refine (ref32 _ _ _ _ 7 _ (by omega) hL4).mono ?_
  rintro e w5 ⟨a5, c5, rfl, ho, hb⟩
  have hL5 := Lies.owned ho
  have hq5 := hq4.trans (hb.mono hq4.size)
  have hB := rq_later hB hb (Nat.le_refl _)
  clear ho hb hL4 hq4
  have hB' := hB
  obtain ⟨b0, b1, b2, b3, b4, b5, b6, b7, b8, b9, b10, b11, b12⟩ := hB'
  go_wp2_with fail
  refine (rhas_is (s := ⟨#[105, 110]⟩) rfl _).mono ?_
  rintro e wn ⟨rfl, hwn⟩
  subst wn
  clear b0 b1 b2 b3 b4 b5 b6 b7 b8 b9 b10 b11 b12
  have hB' := hB
  obtain ⟨b0, b1, b2, b3, b4, b5, b6, b7, b8, b9, b10, b11, b12⟩ := hB'
  go_wp2_with (go_at_call 68; refine (rin_any _ _ _ (by decide)).mono ?_; rintro e wn ⟨rfl, hwn⟩; subst wn; first | rw [dlp] | rw [dli] | rw [dlo] | rw [dll] | rw [dln] | rw [dlj] | rw [dlm] | rw [dld])
  clear b0 b1 b2 b3 b4 b5 b6 b7 b8 b9 b10 b11 b12
  refine (ref64 _ _ _ _ id _ (by omega) hL5).mono ?_
  rintro e w6 ⟨a6, c6, rfl, ho, hb⟩
  have hL6 := Lies.owned ho
  have hq6 := hq5.trans (hb.mono hq5.size)
  have hB := rq_later hB hb (Nat.le_refl _)
  clear ho hb hL5 hq5
  have hB' := hB
  obtain ⟨b0, b1, b2, b3, b4, b5, b6, b7, b8, b9, b10, b11, b12⟩ := hB'
  go_wp2_with (go_at_call 68; refine (rin_any _ _ _ (by decide)).mono ?_; rintro e wn ⟨rfl, hwn⟩; subst wn; first | rw [dlp] | rw [dli] | rw [dlo] | rw [dll] | rw [dln] | rw [dlj] | rw [dlm] | rw [dld])
  clear b0 b1 b2 b3 b4 b5 b6 b7 b8 b9 b10 b11 b12
  refine (refText _ _ _ _ name _ (by omega) hL6).mono ?_
  rintro e w7 ⟨a7, c7, rfl, ho, hb⟩
  have hL7 := Lies.owned ho
  have hq7 := hq6.trans (hb.mono hq6.size)
  have hB := rq_later hB hb (Nat.le_refl _)
  clear ho hb hL6 hq6
  have hB' := hB
  obtain ⟨b0, b1, b2, b3, b4, b5, b6, b7, b8, b9, b10, b11, b12⟩ := hB'
  go_wp2_with (go_at_call 68; refine (rin_any _ _ _ (by decide)).mono ?_; rintro e wn ⟨rfl, hwn⟩; subst wn; first | rw [dlp] | rw [dli] | rw [dlo] | rw [dll] | rw [dln] | rw [dlj] | rw [dlm] | rw [dld])
  go_ret
  refine ⟨a7, _, c7, rfl, ?_, by omega, hq7⟩
  have h := hL7
  simpa [putAll, putV, rqHead, rqAny, pick, hasRq, txB] using h
end Go.Proofs.YtdkcplndplhblaaGreatDoor
