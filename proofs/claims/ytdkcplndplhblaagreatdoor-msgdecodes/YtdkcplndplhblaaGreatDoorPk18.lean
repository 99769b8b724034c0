/- annexref4.fields: as the program's own judgement of the body says. -/
import Derived.Test.YtdkcplndplhblaaGreatDoorPk17
namespace Go.Proofs.YtdkcplndplhblaaGreatDoor
open Go.RowKit
set_option maxRecDepth 100000

set_option maxHeartbeats 4000000 in
theorem rfields_1 (cl sq ak ep id id2 off len : Int) (path name name2 : ByteArray) (data : List Int) (ao : Option Addr) (n c : Nat) (w : World) (hn : data.length = n) (hp : path.size ≤ 1048576) :
    Calls Tryz.prog 41 #[rqV ⟨cl, sq, ak, ep, 1, id, id2, off, len, path, name, name2, data⟩ ao n c] w fun e w' => e = .returned (.int .i64 (judgeE 1 (hasRq 1) (rqAny ⟨cl, sq, ak, ep, 1, id, id2, off, len, path, name, name2, data⟩))) ∧ Below w.heap.size w w' := by
  have hB0 := RqBox.new w ⟨cl, sq, ak, ep, 1, id, id2, off, len, path, name, name2, data⟩ ao n c
  have hb0 := newBox w (.cells #[.int .i64 cl, .int .i64 sq, .int .i64 ak, .int .i64 ep, .int .i64 1, .int .i64 id, .int .i64 id2, .int .i64 off, .int .i64 len, .string path, .string name, .string name2, .slice ao n c] 24)
  have dlp : decide ((112 : Int) ∈ nums ⟨#[112]⟩) = true := by decide
  have dli : decide ((105 : Int) ∈ nums ⟨#[112]⟩) = false := by decide
  have dlo : decide ((111 : Int) ∈ nums ⟨#[112]⟩) = false := by decide
  have dll : decide ((108 : Int) ∈ nums ⟨#[112]⟩) = false := by decide
  have dln : decide ((110 : Int) ∈ nums ⟨#[112]⟩) = false := by decide
  have dlj : decide ((106 : Int) ∈ nums ⟨#[112]⟩) = false := by decide
  have dlm : decide ((109 : Int) ∈ nums ⟨#[112]⟩) = false := by decide
  have dld : decide ((100 : Int) ∈ nums ⟨#[112]⟩) = false := by decide
  go_enter Tryz.func41, Tryz.ntmps41
  go_wp2_with fail
  refine (rhas_is (s := ⟨#[112]⟩) rfl _).mono ?_
  rintro e w1 ⟨rfl, hw1⟩
  subst w1
  go_wp2_with fail
  refine (N3.rsplit_any path _ hp).mono ?_
  rintro e w1 ⟨so, sn, sc, rfl, _, hb1⟩
  have hB1 := RqBox.later hB0 hb1 (Nat.le_refl _)
  have hq1 : Below w.heap.size w w1 := hb0.trans (hb1.mono (by simp))
  obtain ⟨b0, b1, b2, b3, b4, b5, b6, b7, b8, b9, b10, b11, b12⟩ := hB1
  clear hB0 hb1 hb0
  go_wp2_with (first
    | (go_at_call 68; refine (rin_any _ _ _ (by decide)).mono ?_; rintro e w2 ⟨rfl, hw2⟩; subst w2; simp only [dlp, dli, dlo, dll, dln, dlj, dlm, dld])
    | (go_at_call 84; refine (rwithin_any _ _ _ _).mono ?_; rintro e w2 ⟨rfl, hw2⟩; subst w2)
    | (go_at_call 86; refine (rname_any _ _).mono ?_; rintro e w2 ⟨rfl, hw2⟩; subst w2))
  all_goals go_ret
  all_goals refine ⟨?_, hq1⟩
  all_goals clear b0 b1 b2 b3 b4 b5 b6 b7 b8 b9 b10 b11 b12 hq1 dlp dli dlo dll dln dlj dlm dld
  all_goals simp_all [judgeE, hasRq, rqAny, fieldB, mayB, zeroB, empty_list]

set_option maxHeartbeats 4000000 in
theorem rfields_2 (cl sq ak ep id id2 off len : Int) (path name name2 : ByteArray) (data : List Int) (ao : Option Addr) (n c : Nat) (w : World) (hn : data.length = n) (hp : path.size ≤ 1048576) :
    Calls Tryz.prog 41 #[rqV ⟨cl, sq, ak, ep, 2, id, id2, off, len, path, name, name2, data⟩ ao n c] w fun e w' => e = .returned (.int .i64 (judgeE 2 (hasRq 2) (rqAny ⟨cl, sq, ak, ep, 2, id, id2, off, len, path, name, name2, data⟩))) ∧ Below w.heap.size w w' := by
  have hB0 := RqBox.new w ⟨cl, sq, ak, ep, 2, id, id2, off, len, path, name, name2, data⟩ ao n c
  have hb0 := newBox w (.cells #[.int .i64 cl, .int .i64 sq, .int .i64 ak, .int .i64 ep, .int .i64 2, .int .i64 id, .int .i64 id2, .int .i64 off, .int .i64 len, .string path, .string name, .string name2, .slice ao n c] 24)
  have dlp : decide ((112 : Int) ∈ nums ⟨#[105]⟩) = false := by decide
  have dli : decide ((105 : Int) ∈ nums ⟨#[105]⟩) = true := by decide
  have dlo : decide ((111 : Int) ∈ nums ⟨#[105]⟩) = false := by decide
  have dll : decide ((108 : Int) ∈ nums ⟨#[105]⟩) = false := by decide
  have dln : decide ((110 : Int) ∈ nums ⟨#[105]⟩) = false := by decide
  have dlj : decide ((106 : Int) ∈ nums ⟨#[105]⟩) = false := by decide
  have dlm : decide ((109 : Int) ∈ nums ⟨#[105]⟩) = false := by decide
  have dld : decide ((100 : Int) ∈ nums ⟨#[105]⟩) = false := by decide
  go_enter Tryz.func41, Tryz.ntmps41
  go_wp2_with fail
  refine (rhas_is (s := ⟨#[105]⟩) rfl _).mono ?_
  rintro e w1 ⟨rfl, hw1⟩
  subst w1
  go_wp2_with fail
  refine (N3.rsplit_any path _ hp).mono ?_
  rintro e w1 ⟨so, sn, sc, rfl, _, hb1⟩
  have hB1 := RqBox.later hB0 hb1 (Nat.le_refl _)
  have hq1 : Below w.heap.size w w1 := hb0.trans (hb1.mono (by simp))
  obtain ⟨b0, b1, b2, b3, b4, b5, b6, b7, b8, b9, b10, b11, b12⟩ := hB1
  clear hB0 hb1 hb0
  go_wp2_with (first
    | (go_at_call 68; refine (rin_any _ _ _ (by decide)).mono ?_; rintro e w2 ⟨rfl, hw2⟩; subst w2; simp only [dlp, dli, dlo, dll, dln, dlj, dlm, dld])
    | (go_at_call 84; refine (rwithin_any _ _ _ _).mono ?_; rintro e w2 ⟨rfl, hw2⟩; subst w2)
    | (go_at_call 86; refine (rname_any _ _).mono ?_; rintro e w2 ⟨rfl, hw2⟩; subst w2))
  all_goals go_ret
  all_goals refine ⟨?_, hq1⟩
  all_goals clear b0 b1 b2 b3 b4 b5 b6 b7 b8 b9 b10 b11 b12 hq1 dlp dli dlo dll dln dlj dlm dld
  all_goals simp_all [judgeE, hasRq, rqAny, fieldB, mayB, zeroB, empty_list]

set_option maxHeartbeats 4000000 in
theorem rfields_3 (cl sq ak ep id id2 off len : Int) (path name name2 : ByteArray) (data : List Int) (ao : Option Addr) (n c : Nat) (w : World) (hn : data.length = n) (hp : path.size ≤ 1048576) :
    Calls Tryz.prog 41 #[rqV ⟨cl, sq, ak, ep, 3, id, id2, off, len, path, name, name2, data⟩ ao n c] w fun e w' => e = .returned (.int .i64 (judgeE 3 (hasRq 3) (rqAny ⟨cl, sq, ak, ep, 3, id, id2, off, len, path, name, name2, data⟩))) ∧ Below w.heap.size w w' := by
  have hB0 := RqBox.new w ⟨cl, sq, ak, ep, 3, id, id2, off, len, path, name, name2, data⟩ ao n c
  have hb0 := newBox w (.cells #[.int .i64 cl, .int .i64 sq, .int .i64 ak, .int .i64 ep, .int .i64 3, .int .i64 id, .int .i64 id2, .int .i64 off, .int .i64 len, .string path, .string name, .string name2, .slice ao n c] 24)
  have dlp : decide ((112 : Int) ∈ nums ⟨#[105, 111, 108]⟩) = false := by decide
  have dli : decide ((105 : Int) ∈ nums ⟨#[105, 111, 108]⟩) = true := by decide
  have dlo : decide ((111 : Int) ∈ nums ⟨#[105, 111, 108]⟩) = true := by decide
  have dll : decide ((108 : Int) ∈ nums ⟨#[105, 111, 108]⟩) = true := by decide
  have dln : decide ((110 : Int) ∈ nums ⟨#[105, 111, 108]⟩) = false := by decide
  have dlj : decide ((106 : Int) ∈ nums ⟨#[105, 111, 108]⟩) = false := by decide
  have dlm : decide ((109 : Int) ∈ nums ⟨#[105, 111, 108]⟩) = false := by decide
  have dld : decide ((100 : Int) ∈ nums ⟨#[105, 111, 108]⟩) = false := by decide
  go_enter Tryz.func41, Tryz.ntmps41
  go_wp2_with fail
  refine (rhas_is (s := ⟨#[105, 111, 108]⟩) rfl _).mono ?_
  rintro e w1 ⟨rfl, hw1⟩
  subst w1
  go_wp2_with fail
  refine (N3.rsplit_any path _ hp).mono ?_
  rintro e w1 ⟨so, sn, sc, rfl, _, hb1⟩
  have hB1 := RqBox.later hB0 hb1 (Nat.le_refl _)
  have hq1 : Below w.heap.size w w1 := hb0.trans (hb1.mono (by simp))
  obtain ⟨b0, b1, b2, b3, b4, b5, b6, b7, b8, b9, b10, b11, b12⟩ := hB1
  clear hB0 hb1 hb0
  go_wp2_with (first
    | (go_at_call 68; refine (rin_any _ _ _ (by decide)).mono ?_; rintro e w2 ⟨rfl, hw2⟩; subst w2; simp only [dlp, dli, dlo, dll, dln, dlj, dlm, dld])
    | (go_at_call 84; refine (rwithin_any _ _ _ _).mono ?_; rintro e w2 ⟨rfl, hw2⟩; subst w2)
    | (go_at_call 86; refine (rname_any _ _).mono ?_; rintro e w2 ⟨rfl, hw2⟩; subst w2))
  all_goals go_ret
  all_goals refine ⟨?_, hq1⟩
  all_goals clear b0 b1 b2 b3 b4 b5 b6 b7 b8 b9 b10 b11 b12 hq1 dlp dli dlo dll dln dlj dlm dld
  all_goals simp_all [judgeE, hasRq, rqAny, fieldB, mayB, zeroB, empty_list, mostLen]

set_option maxHeartbeats 4000000 in
theorem rfields_4 (cl sq ak ep id id2 off len : Int) (path name name2 : ByteArray) (data : List Int) (ao : Option Addr) (n c : Nat) (w : World) (hn : data.length = n) (hp : path.size ≤ 1048576) :
    Calls Tryz.prog 41 #[rqV ⟨cl, sq, ak, ep, 4, id, id2, off, len, path, name, name2, data⟩ ao n c] w fun e w' => e = .returned (.int .i64 (judgeE 4 (hasRq 4) (rqAny ⟨cl, sq, ak, ep, 4, id, id2, off, len, path, name, name2, data⟩))) ∧ Below w.heap.size w w' := by
  have hB0 := RqBox.new w ⟨cl, sq, ak, ep, 4, id, id2, off, len, path, name, name2, data⟩ ao n c
  have hb0 := newBox w (.cells #[.int .i64 cl, .int .i64 sq, .int .i64 ak, .int .i64 ep, .int .i64 4, .int .i64 id, .int .i64 id2, .int .i64 off, .int .i64 len, .string path, .string name, .string name2, .slice ao n c] 24)
  have dlp : decide ((112 : Int) ∈ nums ⟨#[105, 111, 100]⟩) = false := by decide
  have dli : decide ((105 : Int) ∈ nums ⟨#[105, 111, 100]⟩) = true := by decide
  have dlo : decide ((111 : Int) ∈ nums ⟨#[105, 111, 100]⟩) = true := by decide
  have dll : decide ((108 : Int) ∈ nums ⟨#[105, 111, 100]⟩) = false := by decide
  have dln : decide ((110 : Int) ∈ nums ⟨#[105, 111, 100]⟩) = false := by decide
  have dlj : decide ((106 : Int) ∈ nums ⟨#[105, 111, 100]⟩) = false := by decide
  have dlm : decide ((109 : Int) ∈ nums ⟨#[105, 111, 100]⟩) = false := by decide
  have dld : decide ((100 : Int) ∈ nums ⟨#[105, 111, 100]⟩) = true := by decide
  go_enter Tryz.func41, Tryz.ntmps41
  go_wp2_with fail
  refine (rhas_is (s := ⟨#[105, 111, 100]⟩) rfl _).mono ?_
  rintro e w1 ⟨rfl, hw1⟩
  subst w1
  go_wp2_with fail
  refine (N3.rsplit_any path _ hp).mono ?_
  rintro e w1 ⟨so, sn, sc, rfl, _, hb1⟩
  have hB1 := RqBox.later hB0 hb1 (Nat.le_refl _)
  have hq1 : Below w.heap.size w w1 := hb0.trans (hb1.mono (by simp))
  obtain ⟨b0, b1, b2, b3, b4, b5, b6, b7, b8, b9, b10, b11, b12⟩ := hB1
  clear hB0 hb1 hb0
  go_wp2_with (first
    | (go_at_call 68; refine (rin_any _ _ _ (by decide)).mono ?_; rintro e w2 ⟨rfl, hw2⟩; subst w2; simp only [dlp, dli, dlo, dll, dln, dlj, dlm, dld])
    | (go_at_call 84; refine (rwithin_any _ _ _ _).mono ?_; rintro e w2 ⟨rfl, hw2⟩; subst w2)
    | (go_at_call 86; refine (rname_any _ _).mono ?_; rintro e w2 ⟨rfl, hw2⟩; subst w2))
  all_goals go_ret
  all_goals refine ⟨?_, hq1⟩
  all_goals clear b0 b1 b2 b3 b4 b5 b6 b7 b8 b9 b10 b11 b12 hq1 dlp dli dlo dll dln dlj dlm dld
  all_goals simp_all [judgeE, hasRq, rqAny, fieldB, mayB, zeroB, empty_list, inB_len]

set_option maxHeartbeats 4000000 in
theorem rfields_5 (cl sq ak ep id id2 off len : Int) (path name name2 : ByteArray) (data : List Int) (ao : Option Addr) (n c : Nat) (w : World) (hn : data.length = n) (hp : path.size ≤ 1048576) :
    Calls Tryz.prog 41 #[rqV ⟨cl, sq, ak, ep, 5, id, id2, off, len, path, name, name2, data⟩ ao n c] w fun e w' => e = .returned (.int .i64 (judgeE 5 (hasRq 5) (rqAny ⟨cl, sq, ak, ep, 5, id, id2, off, len, path, name, name2, data⟩))) ∧ Below w.heap.size w w' := by
  have hB0 := RqBox.new w ⟨cl, sq, ak, ep, 5, id, id2, off, len, path, name, name2, data⟩ ao n c
  have hb0 := newBox w (.cells #[.int .i64 cl, .int .i64 sq, .int .i64 ak, .int .i64 ep, .int .i64 5, .int .i64 id, .int .i64 id2, .int .i64 off, .int .i64 len, .string path, .string name, .string name2, .slice ao n c] 24)
  have dlp : decide ((112 : Int) ∈ nums ⟨#[105, 110]⟩) = false := by decide
  have dli : decide ((105 : Int) ∈ nums ⟨#[105, 110]⟩) = true := by decide
  have dlo : decide ((111 : Int) ∈ nums ⟨#[105, 110]⟩) = false := by decide
  have dll : decide ((108 : Int) ∈ nums ⟨#[105, 110]⟩) = false := by decide
  have dln : decide ((110 : Int) ∈ nums ⟨#[105, 110]⟩) = true := by decide
  have dlj : decide ((106 : Int) ∈ nums ⟨#[105, 110]⟩) = false := by decide
  have dlm : decide ((109 : Int) ∈ nums ⟨#[105, 110]⟩) = false := by decide
  have dld : decide ((100 : Int) ∈ nums ⟨#[105, 110]⟩) = false := by decide
  go_enter Tryz.func41, Tryz.ntmps41
  go_wp2_with fail
  refine (rhas_is (s := ⟨#[105, 110]⟩) rfl _).mono ?_
  rintro e w1 ⟨rfl, hw1⟩
  subst w1
  go_wp2_with fail
  refine (N3.rsplit_any path _ hp).mono ?_
  rintro e w1 ⟨so, sn, sc, rfl, _, hb1⟩
  have hB1 := RqBox.later hB0 hb1 (Nat.le_refl _)
  have hq1 : Below w.heap.size w w1 := hb0.trans (hb1.mono (by simp))
  obtain ⟨b0, b1, b2, b3, b4, b5, b6, b7, b8, b9, b10, b11, b12⟩ := hB1
  clear hB0 hb1 hb0
  go_wp2_with (first
    | (go_at_call 68; refine (rin_any _ _ _ (by decide)).mono ?_; rintro e w2 ⟨rfl, hw2⟩; subst w2; simp only [dlp, dli, dlo, dll, dln, dlj, dlm, dld])
    | (go_at_call 84; refine (rwithin_any _ _ _ _).mono ?_; rintro e w2 ⟨rfl, hw2⟩; subst w2)
    | (go_at_call 86; refine (rname_any _ _).mono ?_; rintro e w2 ⟨rfl, hw2⟩; subst w2))
  all_goals go_ret
  all_goals refine ⟨?_, hq1⟩
  all_goals clear b0 b1 b2 b3 b4 b5 b6 b7 b8 b9 b10 b11 b12 hq1 dlp dli dlo dll dln dlj dlm dld
  all_goals simp_all [judgeE, hasRq, rqAny, fieldB, mayB, zeroB, empty_list]
end Go.Proofs.YtdkcplndplhblaaGreatDoor
