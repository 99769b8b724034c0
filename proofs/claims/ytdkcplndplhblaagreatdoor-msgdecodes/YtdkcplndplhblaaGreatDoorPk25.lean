/- annexref4.RequestBytes, of one operation. -/
import Derived.Test.YtdkcplndplhblaaGreatDoorPk23
import Derived.Test.YtdkcplndplhblaaGreatDoorPk24
import Derived.Test.YtdkcplndplhblaaGreatDoorPk20
import Derived.Test.YtdkcplndplhblaaGreatDoorPk13
import Derived.Test.YtdkcplndplhblaaGreatDoorPk15
namespace Go.Proofs.YtdkcplndplhblaaGreatDoor
open Go.RowKit
set_option maxRecDepth 100000

set_option maxHeartbeats 4000000 in
theorem rbytes_8 (cl sq ak ep id id2 off len : Int) (path name name2 : ByteArray) (data : List Int) (ao : Option Addr) (n c : Nat) (w : World) (hp2 : name.size ≤ 100000) :
    Calls Tryz.prog 52 #[rqV ⟨cl, sq, ak, ep, 8, id, id2, off, len, path, name, name2, data⟩ ao n c] w fun e w' => ∃ ao' n' c', e = .returned (.slice ao' n' c') ∧ Lies w' ao' n' c' (nums ⟨#[65, 78, 81, 49]⟩ ++ putAll (rqHead ⟨cl, sq, ak, ep, 8, id, id2, off, len, path, name, name2, data⟩) ++ putAll (pick (hasRq 8) (rqAny ⟨cl, sq, ak, ep, 8, id, id2, off, len, path, name, name2, data⟩))) ∧ n' ≤ 1000000 ∧ Below w.heap.size w w' := by
  have hcc := Go.Joins.run_convert_bytes_const_at (P := Tryz.prog) (w.alloc (.cells #[.int .i64 cl, .int .i64 sq, .int .i64 ak, .int .i64 ep, .int .i64 8, .int .i64 id, .int .i64 id2, .int .i64 off, .int .i64 len, .string path, .string name, .string name2, .slice ao n c] 24)) 22 5 #[.int .u8 65, .int .u8 78, .int .u8 81, .int .u8 49] 4 4 (w.heap.size + 1) (by simp) Tryz.underlying22 Tryz.underlying5
  have hB := RqBox.new w ⟨cl, sq, ak, ep, 8, id, id2, off, len, path, name, name2, data⟩ ao n c
  have hb0 := newBox (w.alloc (.cells #[.int .i64 cl, .int .i64 sq, .int .i64 ak, .int .i64 ep, .int .i64 8, .int .i64 id, .int .i64 id2, .int .i64 off, .int .i64 len, .string path, .string name, .string name2, .slice ao n c] 24)) (.cells #[.int .u8 65, .int .u8 78, .int .u8 81, .int .u8 49] 5 (4, 5))
  have hL0 : Lies ((w.alloc (.cells #[.int .i64 cl, .int .i64 sq, .int .i64 ak, .int .i64 ep, .int .i64 8, .int .i64 id, .int .i64 id2, .int .i64 off, .int .i64 len, .string path, .string name, .string name2, .slice ao n c] 24)).alloc (.cells #[.int .u8 65, .int .u8 78, .int .u8 81, .int .u8 49] 5 (4, 5))) (some ⟨w.heap.size + 1, 0, none⟩) 4 4 (nums ⟨#[65, 78, 81, 49]⟩) :=
    lies_mark (w.alloc (.cells #[.int .i64 cl, .int .i64 sq, .int .i64 ak, .int .i64 ep, .int .i64 8, .int .i64 id, .int .i64 id2, .int .i64 off, .int .i64 len, .string path, .string name, .string name2, .slice ao n c] 24)) [65, 78, 81, 49] 4 rfl _ rfl (4, 5) (w.heap.size + 1) (by simp)
  have hB := rq_later hB hb0 (Nat.le_refl _)
  have hq0 : Below w.heap.size w ((w.alloc (.cells #[.int .i64 cl, .int .i64 sq, .int .i64 ak, .int .i64 ep, .int .i64 8, .int .i64 id, .int .i64 id2, .int .i64 off, .int .i64 len, .string path, .string name, .string name2, .slice ao n c] 24)).alloc (.cells #[.int .u8 65, .int .u8 78, .int .u8 81, .int .u8 49] 5 (4, 5))) := (newBox w _).trans (hb0.mono (by simp))
  have hd1 := padk_le path.size
  have hd2 := padk_le name.size
  have hd3 := padk_le name2.size
  have hd4 := padk_le n
  clear hb0
  have dlp : decide ((112 : Int) ∈ nums ⟨#[105, 110]⟩) = false := by decide
  have dli : decide ((105 : Int) ∈ nums ⟨#[105, 110]⟩) = true := by decide
  have dlo : decide ((111 : Int) ∈ nums ⟨#[105, 110]⟩) = false := by decide
  have dll : decide ((108 : Int) ∈ nums ⟨#[105, 110]⟩) = false := by decide
  have dln : decide ((110 : Int) ∈ nums ⟨#[105, 110]⟩) = true := by decide
  have dlj : decide ((106 : Int) ∈ nums ⟨#[105, 110]⟩) = false := by decide
  have dlm : decide ((109 : Int) ∈ nums ⟨#[105, 110]⟩) = false := by decide
  have dld : decide ((100 : Int) ∈ nums ⟨#[105, 110]⟩) = false := by decide
  go_enter Tryz.func52, Tryz.ntmps52
  go_wp2_with fail
  generalize (w.alloc (.cells #[.int .i64 cl, .int .i64 sq, .int .i64 ak, .int .i64 ep, .int .i64 8, .int .i64 id, .int .i64 id2, .int .i64 off, .int .i64 len, .string path, .string name, .string name2, .slice ao n c] 24)).alloc (.cells #[.int .u8 65, .int .u8 78, .int .u8 81, .int .u8 49] 5 (4, 5)) = wA at *
  refine (ref32 _ _ _ _ cl _ (by omega) hL0).mono ?_
  rintro e w1 ⟨a1, c1, rfl, ho, hb⟩
  have hL1 := Lies.owned ho
  have hq1 := hq0.trans (hb.mono hq0.size)
  have hB := rq_later hB hb (Nat.le_refl _)
  clear ho hb hL0 hq0
  have hB' := hB
  obtain ⟨b0, b1, b2, b3, b4, b5, b6, b7, b8, b9, b10, b11, b12⟩ := hB'
  go_wp2_with fail
  clear b0 b1 b2 b3 b4 b5 b6 b7 b8 b9 b10 b11 b12
  refine (ref64 _ _ _ _ sq _ (by omega) hL1).mono ?_
  rintro e w2 ⟨a2, c2, rfl, ho, hb⟩
  have hL2 := Lies.owned ho
  have hq2 := hq1.trans (hb.mono hq1.size)
  have hB := rq_later hB hb (Nat.le_refl _)
  clear ho hb hL1 hq1
  have hB' := hB
  obtain ⟨b0, b1, b2, b3, b4, b5, b6, b7, b8, b9, b10, b11, b12⟩ := hB'
  go_wp2_with fail
  clear b0 b1 b2 b3 b4 b5 b6 b7 b8 b9 b10 b11 b12
  refine (ref64 _ _ _ _ ak _ (by omega) hL2).mono ?_
  rintro e w3 ⟨a3, c3, rfl, ho, hb⟩
  have hL3 := Lies.owned ho
  have hq3 := hq2.trans (hb.mono hq2.size)
  have hB := rq_later hB hb (Nat.le_refl _)
  clear ho hb hL2 hq2
  have hB' := hB
  obtain ⟨b0, b1, b2, b3, b4, b5, b6, b7, b8, b9, b10, b11, b12⟩ := hB'
  go_wp2_with fail
  clear b0 b1 b2 b3 b4 b5 b6 b7 b8 b9 b10 b11 b12
  refine (ref64 _ _ _ _ ep _ (by omega) hL3).mono ?_
  rintro e w4 ⟨a4, c4, rfl, ho, hb⟩
  have hL4 := Lies.owned ho
  have hq4 := hq3.trans (hb.mono hq3.size)
  have hB := rq_later hB hb (Nat.le_refl _)
  clear ho hb hL3 hq3
  have hB' := hB
  obtain ⟨b0, b1, b2, b3, b4, b5, b6, b7, b8, b9, b10, b11, b12⟩ := hB'
  go_wp2_with fail
  clear b0 b1 b2 b3 b4 b5 b6 b7 b8 b9 b10 b11 b12
  refine (ref32 _ _ _ _ 8 _ (by omega) hL4).mono ?_
  rintro e w5 ⟨a5, c5, rfl, ho, hb⟩
  have hL5 := Lies.owned ho
  have hq5 := hq4.trans (hb.mono hq4.size)
  have hB := rq_later hB hb (Nat.le_refl _)
  clear ho hb hL4 hq4
  have hB' := hB
  obtain ⟨b0, b1, b2, b3, b4, b5, b6, b7, b8, b9, b10, b11, b12⟩ := hB'
  go_wp2_with fail
  refine (rhas_is (s := ⟨#[105, 110]⟩) rfl _).mono ?_
  rintro e wn ⟨rfl, hwn⟩
  subst wn
  clear b0 b1 b2 b3 b4 b5 b6 b7 b8 b9 b10 b11 b12
  have hB' := hB
  obtain ⟨b0, b1, b2, b3, b4, b5, b6, b7, b8, b9, b10, b11, b12⟩ := hB'
  go_wp2_with (go_at_call 68; refine (rin_any _ _ _ (by decide)).mono ?_; rintro e wn ⟨rfl, hwn⟩; subst wn; first | rw [dlp] | rw [dli] | rw [dlo] | rw [dll] | rw [dln] | rw [dlj] | rw [dlm] | rw [dld])
  clear b0 b1 b2 b3 b4 b5 b6 b7 b8 b9 b10 b11 b12
  refine (ref64 _ _ _ _ id _ (by omega) hL5).mono ?_
  rintro e w6 ⟨a6, c6, rfl, ho, hb⟩
  have hL6 := Lies.owned ho
  have hq6 := hq5.trans (hb.mono hq5.size)
  have hB := rq_later hB hb (Nat.le_refl _)
  clear ho hb hL5 hq5
  have hB' := hB
  obtain ⟨b0, b1, b2, b3, b4, b5, b6, b7, b8, b9, b10, b11, b12⟩ := hB'
  go_wp2_with (go_at_call 68; refine (rin_any _ _ _ (by decide)).mono ?_; rintro e wn ⟨rfl, hwn⟩; subst wn; first | rw [dlp] | rw [dli] | rw [dlo] | rw [dll] | rw [dln] | rw [dlj] | rw [dlm] | rw [dld])
  clear b0 b1 b2 b3 b4 b5 b6 b7 b8 b9 b10 b11 b12
  refine (refText _ _ _ _ name _ (by omega) hL6).mono ?_
  rintro e w7 ⟨a7, c7, rfl, ho, hb⟩
  have hL7 := Lies.owned ho
  have hq7 := hq6.trans (hb.mono hq6.size)
  have hB := rq_later hB hb (Nat.le_refl _)
  clear ho hb hL6 hq6
  have hB' := hB
  obtain ⟨b0, b1, b2, b3, b4, b5, b6, b7, b8, b9, b10, b11, b12⟩ := hB'
  go_wp2_with (go_at_call 68; refine (rin_any _ _ _ (by decide)).mono ?_; rintro e wn ⟨rfl, hwn⟩; subst wn; first | rw [dlp] | rw [dli] | rw [dlo] | rw [dll] | rw [dln] | rw [dlj] | rw [dlm] | rw [dld])
  go_ret
  refine ⟨a7, _, c7, rfl, ?_, by omega, hq7⟩
  have h := hL7
  simpa [putAll, putV, rqHead, rqAny, pick, hasRq, txB] using h

set_option maxHeartbeats 4000000 in
theorem rbytes_9 (cl sq ak ep id id2 off len : Int) (path name name2 : ByteArray) (data : List Int) (ao : Option Addr) (n c : Nat) (w : World) (hp2 : name.size ≤ 100000) (hp3 : name2.size ≤ 100000) :
    Calls Tryz.prog 52 #[rqV ⟨cl, sq, ak, ep, 9, id, id2, off, len, path, name, name2, data⟩ ao n c] w fun e w' => ∃ ao' n' c', e = .returned (.slice ao' n' c') ∧ Lies w' ao' n' c' (nums ⟨#[65, 78, 81, 49]⟩ ++ putAll (rqHead ⟨cl, sq, ak, ep, 9, id, id2, off, len, path, name, name2, data⟩) ++ putAll (pick (hasRq 9) (rqAny ⟨cl, sq, ak, ep, 9, id, id2, off, len, path, name, name2, data⟩))) ∧ n' ≤ 1000000 ∧ Below w.heap.size w w' := by
  have hcc := Go.Joins.run_convert_bytes_const_at (P := Tryz.prog) (w.alloc (.cells #[.int .i64 cl, .int .i64 sq, .int .i64 ak, .int .i64 ep, .int .i64 9, .int .i64 id, .int .i64 id2, .int .i64 off, .int .i64 len, .string path, .string name, .string name2, .slice ao n c] 24)) 22 5 #[.int .u8 65, .int .u8 78, .int .u8 81, .int .u8 49] 4 4 (w.heap.size + 1) (by simp) Tryz.underlying22 Tryz.underlying5
  have hB := RqBox.new w ⟨cl, sq, ak, ep, 9, id, id2, off, len, path, name, name2, data⟩ ao n c
  have hb0 := newBox (w.alloc (.cells #[.int .i64 cl, .int .i64 sq, .int .i64 ak, .int .i64 ep, .int .i64 9, .int .i64 id, .int .i64 id2, .int .i64 off, .int .i64 len, .string path, .string name, .string name2, .slice ao n c] 24)) (.cells #[.int .u8 65, .int .u8 78, .int .u8 81, .int .u8 49] 5 (4, 5))
  have hL0 : Lies ((w.alloc (.cells #[.int .i64 cl, .int .i64 sq, .int .i64 ak, .int .i64 ep, .int .i64 9, .int .i64 id, .int .i64 id2, .int .i64 off, .int .i64 len, .string path, .string name, .string name2, .slice ao n c] 24)).alloc (.cells #[.int .u8 65, .int .u8 78, .int .u8 81, .int .u8 49] 5 (4, 5))) (some ⟨w.heap.size + 1, 0, none⟩) 4 4 (nums ⟨#[65, 78, 81, 49]⟩) :=
    lies_mark (w.alloc (.cells #[.int .i64 cl, .int .i64 sq, .int .i64 ak, .int .i64 ep, .int .i64 9, .int .i64 id, .int .i64 id2, .int .i64 off, .int .i64 len, .string path, .string name, .string name2, .slice ao n c] 24)) [65, 78, 81, 49] 4 rfl _ rfl (4, 5) (w.heap.size + 1) (by simp)
  have hB := rq_later hB hb0 (Nat.le_refl _)
  have hq0 : Below w.heap.size w ((w.alloc (.cells #[.int .i64 cl, .int .i64 sq, .int .i64 ak, .int .i64 ep, .int .i64 9, .int .i64 id, .int .i64 id2, .int .i64 off, .int .i64 len, .string path, .string name, .string name2, .slice ao n c] 24)).alloc (.cells #[.int .u8 65, .int .u8 78, .int .u8 81, .int .u8 49] 5 (4, 5))) := (newBox w _).trans (hb0.mono (by simp))
  have hd1 := padk_le path.size
  have hd2 := padk_le name.size
  have hd3 := padk_le name2.size
  have hd4 := padk_le n
  clear hb0
  have dlp : decide ((112 : Int) ∈ nums ⟨#[105, 110, 106, 109]⟩) = false := by decide
  have dli : decide ((105 : Int) ∈ nums ⟨#[105, 110, 106, 109]⟩) = true := by decide
  have dlo : decide ((111 : Int) ∈ nums ⟨#[105, 110, 106, 109]⟩) = false := by decide
  have dll : decide ((108 : Int) ∈ nums ⟨#[105, 110, 106, 109]⟩) = false := by decide
  have dln : decide ((110 : Int) ∈ nums ⟨#[105, 110, 106, 109]⟩) = true := by decide
  have dlj : decide ((106 : Int) ∈ nums ⟨#[105, 110, 106, 109]⟩) = true := by decide
  have dlm : decide ((109 : Int) ∈ nums ⟨#[105, 110, 106, 109]⟩) = true := by decide
  have dld : decide ((100 : Int) ∈ nums ⟨#[105, 110, 106, 109]⟩) = false := by decide
  go_enter Tryz.func52, Tryz.ntmps52
  go_wp2_with fail
  generalize (w.alloc (.cells #[.int .i64 cl, .int .i64 sq, .int .i64 ak, .int .i64 ep, .int .i64 9, .int .i64 id, .int .i64 id2, .int .i64 off, .int .i64 len, .string path, .string name, .string name2, .slice ao n c] 24)).alloc (.cells #[.int .u8 65, .int .u8 78, .int .u8 81, .int .u8 49] 5 (4, 5)) = wA at *
  refine (ref32 _ _ _ _ cl _ (by omega) hL0).mono ?_
  rintro e w1 ⟨a1, c1, rfl, ho, hb⟩
  have hL1 := Lies.owned ho
  have hq1 := hq0.trans (hb.mono hq0.size)
  have hB := rq_later hB hb (Nat.le_refl _)
  clear ho hb hL0 hq0
  have hB' := hB
  obtain ⟨b0, b1, b2, b3, b4, b5, b6, b7, b8, b9, b10, b11, b12⟩ := hB'
  go_wp2_with fail
  clear b0 b1 b2 b3 b4 b5 b6 b7 b8 b9 b10 b11 b12
  refine (ref64 _ _ _ _ sq _ (by omega) hL1).mono ?_
  rintro e w2 ⟨a2, c2, rfl, ho, hb⟩
  have hL2 := Lies.owned ho
  have hq2 := hq1.trans (hb.mono hq1.size)
  have hB := rq_later hB hb (Nat.le_refl _)
  clear ho hb hL1 hq1
  have hB' := hB
  obtain ⟨b0, b1, b2, b3, b4, b5, b6, b7, b8, b9, b10, b11, b12⟩ := hB'
  go_wp2_with fail
  clear b0 b1 b2 b3 b4 b5 b6 b7 b8 b9 b10 b11 b12
  refine (ref64 _ _ _ _ ak _ (by omega) hL2).mono ?_
  rintro e w3 ⟨a3, c3, rfl, ho, hb⟩
  have hL3 := Lies.owned ho
  have hq3 := hq2.trans (hb.mono hq2.size)
  have hB := rq_later hB hb (Nat.le_refl _)
  clear ho hb hL2 hq2
  have hB' := hB
  obtain ⟨b0, b1, b2, b3, b4, b5, b6, b7, b8, b9, b10, b11, b12⟩ := hB'
  go_wp2_with fail
  clear b0 b1 b2 b3 b4 b5 b6 b7 b8 b9 b10 b11 b12
  refine (ref64 _ _ _ _ ep _ (by omega) hL3).mono ?_
  rintro e w4 ⟨a4, c4, rfl, ho, hb⟩
  have hL4 := Lies.owned ho
  have hq4 := hq3.trans (hb.mono hq3.size)
  have hB := rq_later hB hb (Nat.le_refl _)
  clear ho hb hL3 hq3
  have hB' := hB
  obtain ⟨b0, b1, b2, b3, b4, b5, b6, b7, b8, b9, b10, b11, b12⟩ := hB'
  go_wp2_with fail
  clear b0 b1 b2 b3 b4 b5 b6 b7 b8 b9 b10 b11 b12
  refine (ref32 _ _ _ _ 9 _ (by omega) hL4).mono ?_
  rintro e w5 ⟨a5, c5, rfl, ho, hb⟩
  have hL5 := Lies.owned ho
  have hq5 := hq4.trans (hb.mono hq4.size)
  have hB := rq_later hB hb (Nat.le_refl _)
  clear ho hb hL4 hq4
  have hB' := hB
  obtain ⟨b0, b1, b2, b3, b4, b5, b6, b7, b8, b9, b10, b11, b12⟩ := hB'
  go_wp2_with fail
  refine (rhas_is (s := ⟨#[105, 110, 106, 109]⟩) rfl _).mono ?_
  rintro e wn ⟨rfl, hwn⟩
  subst wn
  clear b0 b1 b2 b3 b4 b5 b6 b7 b8 b9 b10 b11 b12
  have hB' := hB
  obtain ⟨b0, b1, b2, b3, b4, b5, b6, b7, b8, b9, b10, b11, b12⟩ := hB'
  go_wp2_with (go_at_call 68; refine (rin_any _ _ _ (by decide)).mono ?_; rintro e wn ⟨rfl, hwn⟩; subst wn; first | rw [dlp] | rw [dli] | rw [dlo] | rw [dll] | rw [dln] | rw [dlj] | rw [dlm] | rw [dld])
  clear b0 b1 b2 b3 b4 b5 b6 b7 b8 b9 b10 b11 b12
  refine (ref64 _ _ _ _ id _ (by omega) hL5).mono ?_
  rintro e w6 ⟨a6, c6, rfl, ho, hb⟩
  have hL6 := Lies.owned ho
  have hq6 := hq5.trans (hb.mono hq5.size)
  have hB := rq_later hB hb (Nat.le_refl _)
  clear ho hb hL5 hq5
  have hB' := hB
  obtain ⟨b0, b1, b2, b3, b4, b5, b6, b7, b8, b9, b10, b11, b12⟩ := hB'
  go_wp2_with (go_at_call 68; refine (rin_any _ _ _ (by decide)).mono ?_; rintro e wn ⟨rfl, hwn⟩; subst wn; first | rw [dlp] | rw [dli] | rw [dlo] | rw [dll] | rw [dln] | rw [dlj] | rw [dlm] | rw [dld])
  clear b0 b1 b2 b3 b4 b5 b6 b7 b8 b9 b10 b11 b12
  refine (refText _ _ _ _ name _ (by omega) hL6).mono ?_
  rintro e w7 ⟨a7, c7, rfl, ho, hb⟩
  have hL7 := Lies.owned ho
  have hq7 := hq6.trans (hb.mono hq6.size)
  have hB := rq_later hB hb (Nat.le_refl _)
  clear ho hb hL6 hq6
  have hB' := hB
  obtain ⟨b0, b1, b2, b3, b4, b5, b6, b7, b8, b9, b10, b11, b12⟩ := hB'
  go_wp2_with (go_at_call 68; refine (rin_any _ _ _ (by decide)).mono ?_; rintro e wn ⟨rfl, hwn⟩; subst wn; first | rw [dlp] | rw [dli] | rw [dlo] | rw [dll] | rw [dln] | rw [dlj] | rw [dlm] | rw [dld])
  clear b0 b1 b2 b3 b4 b5 b6 b7 b8 b9 b10 b11 b12
  refine (ref64 _ _ _ _ id2 _ (by omega) hL7).mono ?_
  rintro e w8 ⟨a8, c8, rfl, ho, hb⟩
  have hL8 := Lies.owned ho
  have hq8 := hq7.trans (hb.mono hq7.size)
  have hB := rq_later hB hb (Nat.le_refl _)
  clear ho hb hL7 hq7
  have hB' := hB
  obtain ⟨b0, b1, b2, b3, b4, b5, b6, b7, b8, b9, b10, b11, b12⟩ := hB'
  go_wp2_with (go_at_call 68; refine (rin_any _ _ _ (by decide)).mono ?_; rintro e wn ⟨rfl, hwn⟩; subst wn; first | rw [dlp] | rw [dli] | rw [dlo] | rw [dll] | rw [dln] | rw [dlj] | rw [dlm] | rw [dld])
  clear b0 b1 b2 b3 b4 b5 b6 b7 b8 b9 b10 b11 b12
  refine (refText _ _ _ _ name2 _ (by omega) hL8).mono ?_
  rintro e w9 ⟨a9, c9, rfl, ho, hb⟩
  have hL9 := Lies.owned ho
  have hq9 := hq8.trans (hb.mono hq8.size)
  have hB := rq_later hB hb (Nat.le_refl _)
  clear ho hb hL8 hq8
  have hB' := hB
  obtain ⟨b0, b1, b2, b3, b4, b5, b6, b7, b8, b9, b10, b11, b12⟩ := hB'
  go_wp2_with (go_at_call 68; refine (rin_any _ _ _ (by decide)).mono ?_; rintro e wn ⟨rfl, hwn⟩; subst wn; first | rw [dlp] | rw [dli] | rw [dlo] | rw [dll] | rw [dln] | rw [dlj] | rw [dlm] | rw [dld])
  go_ret
  refine ⟨a9, _, c9, rfl, ?_, by omega, hq9⟩
  have h := hL9
  simpa [putAll, putV, rqHead, rqAny, pick, hasRq, txB] using h

set_option maxHeartbeats 4000000 in
theorem rbytes_10 (cl sq ak ep id id2 off len : Int) (path name name2 : ByteArray) (data : List Int) (ao : Option Addr) (n c : Nat) (w : World) (hp2 : name.size ≤ 100000) :
    Calls Tryz.prog 52 #[rqV ⟨cl, sq, ak, ep, 10, id, id2, off, len, path, name, name2, data⟩ ao n c] w fun e w' => ∃ ao' n' c', e = .returned (.slice ao' n' c') ∧ Lies w' ao' n' c' (nums ⟨#[65, 78, 81, 49]⟩ ++ putAll (rqHead ⟨cl, sq, ak, ep, 10, id, id2, off, len, path, name, name2, data⟩) ++ putAll (pick (hasRq 10) (rqAny ⟨cl, sq, ak, ep, 10, id, id2, off, len, path, name, name2, data⟩))) ∧ n' ≤ 1000000 ∧ Below w.heap.size w w' := by
  have hcc := Go.Joins.run_convert_bytes_const_at (P := Tryz.prog) (w.alloc (.cells #[.int .i64 cl, .int .i64 sq, .int .i64 ak, .int .i64 ep, .int .i64 10, .int .i64 id, .int .i64 id2, .int .i64 off, .int .i64 len, .string path, .string name, .string name2, .slice ao n c] 24)) 22 5 #[.int .u8 65, .int .u8 78, .int .u8 81, .int .u8 49] 4 4 (w.heap.size + 1) (by simp) Tryz.underlying22 Tryz.underlying5
  have hB := RqBox.new w ⟨cl, sq, ak, ep, 10, id, id2, off, len, path, name, name2, data⟩ ao n c
  have hb0 := newBox (w.alloc (.cells #[.int .i64 cl, .int .i64 sq, .int .i64 ak, .int .i64 ep, .int .i64 10, .int .i64 id, .int .i64 id2, .int .i64 off, .int .i64 len, .string path, .string name, .string name2, .slice ao n c] 24)) (.cells #[.int .u8 65, .int .u8 78, .int .u8 81, .int .u8 49] 5 (4, 5))
  have hL0 : Lies ((w.alloc (.cells #[.int .i64 cl, .int .i64 sq, .int .i64 ak, .int .i64 ep, .int .i64 10, .int .i64 id, .int .i64 id2, .int .i64 off, .int .i64 len, .string path, .string name, .string name2, .slice ao n c] 24)).alloc (.cells #[.int .u8 65, .int .u8 78, .int .u8 81, .int .u8 49] 5 (4, 5))) (some ⟨w.heap.size + 1, 0, none⟩) 4 4 (nums ⟨#[65, 78, 81, 49]⟩) :=
    lies_mark (w.alloc (.cells #[.int .i64 cl, .int .i64 sq, .int .i64 ak, .int .i64 ep, .int .i64 10, .int .i64 id, .int .i64 id2, .int .i64 off, .int .i64 len, .string path, .string name, .string name2, .slice ao n c] 24)) [65, 78, 81, 49] 4 rfl _ rfl (4, 5) (w.heap.size + 1) (by simp)
  have hB := rq_later hB hb0 (Nat.le_refl _)
  have hq0 : Below w.heap.size w ((w.alloc (.cells #[.int .i64 cl, .int .i64 sq, .int .i64 ak, .int .i64 ep, .int .i64 10, .int .i64 id, .int .i64 id2, .int .i64 off, .int .i64 len, .string path, .string name, .string name2, .slice ao n c] 24)).alloc (.cells #[.int .u8 65, .int .u8 78, .int .u8 81, .int .u8 49] 5 (4, 5))) := (newBox w _).trans (hb0.mono (by simp))
  have hd1 := padk_le path.size
  have hd2 := padk_le name.size
  have hd3 := padk_le name2.size
  have hd4 := padk_le n
  clear hb0
  have dlp : decide ((112 : Int) ∈ nums ⟨#[105, 108, 110]⟩) = false := by decide
  have dli : decide ((105 : Int) ∈ nums ⟨#[105, 108, 110]⟩) = true := by decide
  have dlo : decide ((111 : Int) ∈ nums ⟨#[105, 108, 110]⟩) = false := by decide
  have dll : decide ((108 : Int) ∈ nums ⟨#[105, 108, 110]⟩) = true := by decide
  have dln : decide ((110 : Int) ∈ nums ⟨#[105, 108, 110]⟩) = true := by decide
  have dlj : decide ((106 : Int) ∈ nums ⟨#[105, 108, 110]⟩) = false := by decide
  have dlm : decide ((109 : Int) ∈ nums ⟨#[105, 108, 110]⟩) = false := by decide
  have dld : decide ((100 : Int) ∈ nums ⟨#[105, 108, 110]⟩) = false := by decide
  go_enter Tryz.func52, Tryz.ntmps52
  go_wp2_with fail
  generalize (w.alloc (.cells #[.int .i64 cl, .int .i64 sq, .int .i64 ak, .int .i64 ep, .int .i64 10, .int .i64 id, .int .i64 id2, .int .i64 off, .int .i64 len, .string path, .string name, .string name2, .slice ao n c] 24)).alloc (.cells #[.int .u8 65, .int .u8 78, .int .u8 81, .int .u8 49] 5 (4, 5)) = wA at *
  refine (ref32 _ _ _ _ cl _ (by omega) hL0).mono ?_
  rintro e w1 ⟨a1, c1, rfl, ho, hb⟩
  have hL1 := Lies.owned ho
  have hq1 := hq0.trans (hb.mono hq0.size)
  have hB := rq_later hB hb (Nat.le_refl _)
  clear ho hb hL0 hq0
  have hB' := hB
  obtain ⟨b0, b1, b2, b3, b4, b5, b6, b7, b8, b9, b10, b11, b12⟩ := hB'
  go_wp2_with fail
  clear b0 b1 b2 b3 b4 b5 b6 b7 b8 b9 b10 b11 b12
  refine (ref64 _ _ _ _ sq _ (by omega) hL1).mono ?_
  rintro e w2 ⟨a2, c2, rfl, ho, hb⟩
  have hL2 := Lies.owned ho
  have hq2 := hq1.trans (hb.mono hq1.size)
  have hB := rq_later hB hb (Nat.le_refl _)
  clear ho hb hL1 hq1
  have hB' := hB
  obtain ⟨b0, b1, b2, b3, b4, b5, b6, b7, b8, b9, b10, b11, b12⟩ := hB'
  go_wp2_with fail
  clear b0 b1 b2 b3 b4 b5 b6 b7 b8 b9 b10 b11 b12
  refine (ref64 _ _ _ _ ak _ (by omega) hL2).mono ?_
  rintro e w3 ⟨a3, c3, rfl, ho, hb⟩
  have hL3 := Lies.owned ho
  have hq3 := hq2.trans (hb.mono hq2.size)
  have hB := rq_later hB hb (Nat.le_refl _)
  clear ho hb hL2 hq2
  have hB' := hB
  obtain ⟨b0, b1, b2, b3, b4, b5, b6, b7, b8, b9, b10, b11, b12⟩ := hB'
  go_wp2_with fail
  clear b0 b1 b2 b3 b4 b5 b6 b7 b8 b9 b10 b11 b12
  refine (ref64 _ _ _ _ ep _ (by omega) hL3).mono ?_
  rintro e w4 ⟨a4, c4, rfl, ho, hb⟩
  have hL4 := Lies.owned ho
  have hq4 := hq3.trans (hb.mono hq3.size)
  have hB := rq_later hB hb (Nat.le_refl _)
  clear ho hb hL3 hq3
  have hB' := hB
  obtain ⟨b0, b1, b2, b3, b4, b5, b6, b7, b8, b9, b10, b11, b12⟩ := hB'
  go_wp2_with fail
  clear b0 b1 b2 b3 b4 b5 b6 b7 b8 b9 b10 b11 b12
  refine (ref32 _ _ _ _ 10 _ (by omega) hL4).mono ?_
  rintro e w5 ⟨a5, c5, rfl, ho, hb⟩
  have hL5 := Lies.owned ho
  have hq5 := hq4.trans (hb.mono hq4.size)
  have hB := rq_later hB hb (Nat.le_refl _)
  clear ho hb hL4 hq4
  have hB' := hB
  obtain ⟨b0, b1, b2, b3, b4, b5, b6, b7, b8, b9, b10, b11, b12⟩ := hB'
  go_wp2_with fail
  refine (rhas_is (s := ⟨#[105, 108, 110]⟩) rfl _).mono ?_
  rintro e wn ⟨rfl, hwn⟩
  subst wn
  clear b0 b1 b2 b3 b4 b5 b6 b7 b8 b9 b10 b11 b12
  have hB' := hB
  obtain ⟨b0, b1, b2, b3, b4, b5, b6, b7, b8, b9, b10, b11, b12⟩ := hB'
  go_wp2_with (go_at_call 68; refine (rin_any _ _ _ (by decide)).mono ?_; rintro e wn ⟨rfl, hwn⟩; subst wn; first | rw [dlp] | rw [dli] | rw [dlo] | rw [dll] | rw [dln] | rw [dlj] | rw [dlm] | rw [dld])
  clear b0 b1 b2 b3 b4 b5 b6 b7 b8 b9 b10 b11 b12
  refine (ref64 _ _ _ _ id _ (by omega) hL5).mono ?_
  rintro e w6 ⟨a6, c6, rfl, ho, hb⟩
  have hL6 := Lies.owned ho
  have hq6 := hq5.trans (hb.mono hq5.size)
  have hB := rq_later hB hb (Nat.le_refl _)
  clear ho hb hL5 hq5
  have hB' := hB
  obtain ⟨b0, b1, b2, b3, b4, b5, b6, b7, b8, b9, b10, b11, b12⟩ := hB'
  go_wp2_with (go_at_call 68; refine (rin_any _ _ _ (by decide)).mono ?_; rintro e wn ⟨rfl, hwn⟩; subst wn; first | rw [dlp] | rw [dli] | rw [dlo] | rw [dll] | rw [dln] | rw [dlj] | rw [dlm] | rw [dld])
  clear b0 b1 b2 b3 b4 b5 b6 b7 b8 b9 b10 b11 b12
  refine (ref32 _ _ _ _ len _ (by omega) hL6).mono ?_
  rintro e w7 ⟨a7, c7, rfl, ho, hb⟩
  have hL7 := Lies.owned ho
  have hq7 := hq6.trans (hb.mono hq6.size)
  have hB := rq_later hB hb (Nat.le_refl _)
  clear ho hb hL6 hq6
  have hB' := hB
  obtain ⟨b0, b1, b2, b3, b4, b5, b6, b7, b8, b9, b10, b11, b12⟩ := hB'
  go_wp2_with (go_at_call 68; refine (rin_any _ _ _ (by decide)).mono ?_; rintro e wn ⟨rfl, hwn⟩; subst wn; first | rw [dlp] | rw [dli] | rw [dlo] | rw [dll] | rw [dln] | rw [dlj] | rw [dlm] | rw [dld])
  clear b0 b1 b2 b3 b4 b5 b6 b7 b8 b9 b10 b11 b12
  refine (refText _ _ _ _ name _ (by omega) hL7).mono ?_
  rintro e w8 ⟨a8, c8, rfl, ho, hb⟩
  have hL8 := Lies.owned ho
  have hq8 := hq7.trans (hb.mono hq7.size)
  have hB := rq_later hB hb (Nat.le_refl _)
  clear ho hb hL7 hq7
  have hB' := hB
  obtain ⟨b0, b1, b2, b3, b4, b5, b6, b7, b8, b9, b10, b11, b12⟩ := hB'
  go_wp2_with (go_at_call 68; refine (rin_any _ _ _ (by decide)).mono ?_; rintro e wn ⟨rfl, hwn⟩; subst wn; first | rw [dlp] | rw [dli] | rw [dlo] | rw [dll] | rw [dln] | rw [dlj] | rw [dlm] | rw [dld])
  go_ret
  refine ⟨a8, _, c8, rfl, ?_, by omega, hq8⟩
  have h := hL8
  simpa [putAll, putV, rqHead, rqAny, pick, hasRq, txB] using h
end Go.Proofs.YtdkcplndplhblaaGreatDoor

/- annexref4.EncodeRequest, of any request. -/
namespace Go.Proofs.YtdkcplndplhblaaGreatDoor
open Go.RowKit
set_option maxRecDepth 100000

theorem rbytesRq_any (r : Req) (ao : Option Addr) (n c : Nat) (w : World) (hD : Lies w ao n c r.data) (h : rqE r = 0) :
    Calls Tryz.prog 52 #[rqV r ao n c] w fun e w' => ∃ ao' n' c', e = .returned (.slice ao' n' c') ∧ Lies w' ao' n' c' (nums ⟨#[65, 78, 81, 49]⟩ ++ putAll (rqHead r) ++ putAll (pick (hasRq r.op) (rqAny r))) ∧ n' ≤ 1000000 ∧ Below w.heap.size w w' := by
  have hop : inB r.op 1 10 = true := by
    refine rqHead_op ?_
    unfold rqE at h
    by_cases h1 : rqHeadE r = 0
    · exact h1
    · rw [if_neg h1] at h; exact h
  have hsm := judge_small (rqE_zero h)
  clear h
  obtain ⟨cl, sq, ak, ep, op, id, id2, off, len, path, name, name2, data⟩ := r
  have h := inB_true hop
  simp only at h hD hsm ⊢
  have hc : op = 1 ∨ op = 2 ∨ op = 3 ∨ op = 4 ∨ op = 5 ∨ op = 6 ∨ op = 7 ∨ op = 8 ∨ op = 9 ∨ op = 10 := by omega
  clear h hop
  have h9 : (9 : Int) ∈ hasRq op → path.size ≤ 1000 := fun q => hsm (9, .path path) (by simp [pick, rqAny, q])
  have h10 : (10 : Int) ∈ hasRq op → name.size ≤ 1000 := fun q => hsm (10, .name name) (by simp [pick, rqAny, q])
  have h12 : (12 : Int) ∈ hasRq op → name2.size ≤ 1000 := fun q => hsm (12, .name name2) (by simp [pick, rqAny, q])
  have h14 : (14 : Int) ∈ hasRq op → data.length ≤ 2000 := fun q => hsm (14, .content data) (by simp [pick, rqAny, q])
  clear hsm
  have hl := hD.hlen
  rcases hc with rfl | rfl | rfl | rfl | rfl | rfl | rfl | rfl | rfl | rfl
  · exact rbytes_1 cl sq ak ep id id2 off len path name name2 data ao n c w (by have := h9 (by decide); omega)
  · exact rbytes_2 cl sq ak ep id id2 off len path name name2 data ao n c w
  · exact rbytes_3 cl sq ak ep id id2 off len path name name2 data ao n c w
  · exact rbytes_4 cl sq ak ep id id2 off len path name name2 data ao n c w hD (by have := h14 (by decide); omega)
  · exact rbytes_5 cl sq ak ep id id2 off len path name name2 data ao n c w (by have := h10 (by decide); omega)
  · exact rbytes_6 cl sq ak ep id id2 off len path name name2 data ao n c w (by have := h10 (by decide); omega)
  · exact rbytes_7 cl sq ak ep id id2 off len path name name2 data ao n c w (by have := h10 (by decide); omega)
  · exact rbytes_8 cl sq ak ep id id2 off len path name name2 data ao n c w (by have := h10 (by decide); omega)
  · exact rbytes_9 cl sq ak ep id id2 off len path name name2 data ao n c w (by have := h10 (by decide); omega) (by have := h12 (by decide); omega)
  · exact rbytes_10 cl sq ak ep id id2 off len path name name2 data ao n c w (by have := h10 (by decide); omega)

set_option maxHeartbeats 1000000 in
theorem rencRq_any (r : Req) (ao : Option Addr) (n c : Nat) (w : World) (hD : Lies w ao n c r.data) (hp : r.path.size ≤ 1048576) (hby : Bys r.data) :
    Calls Tryz.prog 19 #[rqV r ao n c] w fun e w' => ∃ go k l, e = .returned (.tuple #[.slice go k l, .int .i64 (rqE r)]) ∧ Below w.heap.size w w' ∧ (rqE r = 0 → Lies w' go k l (rqB r)) ∧ (rqE r ≠ 0 → k = 0 ∧ go = none ∧ l = 0) := by
  have hB0 := RqBox.new w r ao n c
  have hb0 := newBox w (.cells #[.int .i64 r.client, .int .i64 r.seq, .int .i64 r.ack, .int .i64 r.epoch, .int .i64 r.op, .int .i64 r.id, .int .i64 r.id2, .int .i64 r.off, .int .i64 r.len, .string r.path, .string r.name, .string r.name2, .slice ao n c] 24)
  by_cases h0 : rqE r = 0
  · have HX : Hid (∀ X, X = nums ⟨#[65, 78, 81, 49]⟩ ++ putAll (rqHead r) ++ putAll (pick (hasRq r.op) (rqAny r)) → closeB X = rqB r ∧ X.length ≤ 2000 ∧ Bys X) := by
      intro X hX
      obtain ⟨X', hX', _, _, hXb⟩ := rqB_is h0 hby
      have hlen := (rq_back h0).2.2
      have e1 : rqB r = closeB X := by subst hX; rfl
      have e2 : X' = X := by
        have := hX'.symm.trans e1
        unfold closeB at this
        exact (List.append_inj' this (by simp [be_length])).1
      refine ⟨e1.symm, ?_, e2 ▸ hXb⟩
      rw [e1] at hlen
      simp [closeB, be_length] at hlen
      omega
    go_enter Tryz.func19, Tryz.ntmps19
    go_wp2_with fail
    refine (rcheckRq_any r ao n c _ hD.hlen hp).mono ?_
    rintro e w1 ⟨rfl, hb1⟩
    rw [h0]
    have hB1 := RqBox.later hB0 hb1 (Nat.le_refl _)
    have hq1 : Below w.heap.size w w1 := hb0.trans (hb1.mono (by simp))
    clear hB0 hb1 hb0
    obtain ⟨b0, b1, b2, b3, b4, b5, b6, b7, b8, b9, b10, b11, b12⟩ := hB1
    go_wp2_with fail
    clear b0 b1 b2 b3 b4 b5 b6 b7 b8 b9 b10 b11 b12
    refine (rbytesRq_any r ao n c _ (hD.below hq1 (Nat.le_refl _)) h0).mono ?_
    rintro e w2 ⟨a2, n2, c2, rfl, hL2, hn2, hb2⟩
    have hq2 := hq1.trans (hb2.mono hq1.size)
    have hy := HX.out _ rfl
    have hn3 : n2 ≤ 2000 := by rw [← hL2.hlen]; exact hy.2.1
    go_wp2_with fail
    refine (closed_any _ n2 _ _ _ hn3 hL2 hy.2.2).mono ?_
    rintro e w3 ⟨a3, n3, c3, rfl, hL3, hb3⟩
    have hq3 := hq2.trans (hb3.mono hq2.size)
    rw [hy.1] at hL3
    have HY : Hid (rqE r = 0) := h0
    clear hy hL2 hn3 HX h0
    go_wp2
    go_ret2
    exact ⟨a3, n3, c3, by rw [HY.out]; rfl, hq3, fun _ => hL3, fun q => absurd HY.out q⟩
  · have h1 : (rqE r != 0) = true := by simpa using h0
    go_enter Tryz.func19, Tryz.ntmps19
    go_wp2_with fail
    refine (rcheckRq_any r ao n c _ hD.hlen hp).mono ?_
    rintro e w1 ⟨rfl, hb1⟩
    have hq1 : Below w.heap.size w w1 := hb0.trans (hb1.mono (by simp))
    have HY : Hid (¬ rqE r = 0) := h0
    clear h0
    go_wp2
    go_ret2
    exact ⟨none, 0, 0, rfl, hq1, fun q => absurd q HY.out, fun _ => ⟨rfl, rfl, rfl⟩⟩
end Go.Proofs.YtdkcplndplhblaaGreatDoor
