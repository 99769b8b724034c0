/- annexref4.fields: as the program's own judgement of the body says. -/
import Derived.Test.YtdkcplndplhblaaGreatDoorPk17
namespace Go.Proofs.YtdkcplndplhblaaGreatDoor
open Go.RowKit
set_option maxRecDepth 100000

set_option maxHeartbeats 4000000 in
theorem rfields_6 (cl sq ak ep id id2 off len : Int) (path name name2 : ByteArray) (data : List Int) (ao : Option Addr) (n c : Nat) (w : World) (hn : data.length = n) (hp : path.size ≤ 1048576) :
    Calls Tryz.prog 41 #[rqV ⟨cl, sq, ak, ep, 6, id, id2, off, len, path, name, name2, data⟩ ao n c] w fun e w' => e = .returned (.int .i64 (judgeE 6 (hasRq 6) (rqAny ⟨cl, sq, ak, ep, 6, id, id2, off, len, path, name, name2, data⟩))) ∧ Below w.heap.size w w' := by
  have hB0 := RqBox.new w ⟨cl, sq, ak, ep, 6, id, id2, off, len, path, name, name2, data⟩ ao n c
  have hb0 := newBox w (.cells #[.int .i64 cl, .int .i64 sq, .int .i64 ak, .int .i64 ep, .int .i64 6, .int .i64 id, .int .i64 id2, .int .i64 off, .int .i64 len, .string path, .string name, .string name2, .slice ao n c] 24)
  have dlp : decide ((112 : Int) ∈ nums ⟨#[105, 110]⟩) = false := by decide
  have dli : decide ((105 : Int) ∈ nums ⟨#[105, 110]⟩) = true := by decide
  have dlo : decide ((111 : Int) ∈ nums ⟨#[105, 110]⟩) = false := by decide
  have dll : decide ((108 : Int) ∈ nums ⟨#[105, 110]⟩) = false := by decide
  have dln : decide ((110 : Int) ∈ nums ⟨#[105, 110]⟩) = true := by decide
  have dlj : decide ((106 : Int) ∈ nums ⟨#[105, 110]⟩) = false := by decide
  have dlm : decide ((109 : Int) ∈ nums ⟨#[105, 110]⟩) = false := by decide
  have dld : decide ((100 : Int) ∈ nums ⟨#[105, 110]⟩) = false := by decide
  go_enter Tryz.func41, Tryz.ntmps41
  go_wp2_with fail
  refine (rhas_is (s := ⟨#[105, 110]⟩) rfl _).mono ?_
  rintro e w1 ⟨rfl, hw1⟩
  subst w1
  go_wp2_with fail
  refine (N3.rsplit_any path _ hp).mono ?_
  rintro e w1 ⟨so, sn, sc, rfl, _, hb1⟩
  have hB1 := RqBox.later hB0 hb1 (Nat.le_refl _)
  have hq1 : Below w.heap.size w w1 := hb0.trans (hb1.mono (by simp))
  obtain ⟨b0, b1, b2, b3, b4, b5, b6, b7, b8, b9, b10, b11, b12⟩ := hB1
  clear hB0 hb1 hb0
  go_wp2_with (first
    | (go_at_call 68; refine (rin_any _ _ _ (by decide)).mono ?_; rintro e w2 ⟨rfl, hw2⟩; subst w2; simp only [dlp, dli, dlo, dll, dln, dlj, dlm, dld])
    | (go_at_call 84; refine (rwithin_any _ _ _ _).mono ?_; rintro e w2 ⟨rfl, hw2⟩; subst w2)
    | (go_at_call 86; refine (rname_any _ _).mono ?_; rintro e w2 ⟨rfl, hw2⟩; subst w2))
  all_goals go_ret
  all_goals refine ⟨?_, hq1⟩
  all_goals clear b0 b1 b2 b3 b4 b5 b6 b7 b8 b9 b10 b11 b12 hq1 dlp dli dlo dll dln dlj dlm dld
  all_goals simp_all [judgeE, hasRq, rqAny, fieldB, mayB, zeroB, empty_list]

set_option maxHeartbeats 4000000 in
theorem rfields_7 (cl sq ak ep id id2 off len : Int) (path name name2 : ByteArray) (data : List Int) (ao : Option Addr) (n c : Nat) (w : World) (hn : data.length = n) (hp : path.size ≤ 1048576) :
    Calls Tryz.prog 41 #[rqV ⟨cl, sq, ak, ep, 7, id, id2, off, len, path, name, name2, data⟩ ao n c] w fun e w' => e = .returned (.int .i64 (judgeE 7 (hasRq 7) (rqAny ⟨cl, sq, ak, ep, 7, id, id2, off, len, path, name, name2, data⟩))) ∧ Below w.heap.size w w' := by
  have hB0 := RqBox.new w ⟨cl, sq, ak, ep, 7, id, id2, off, len, path, name, name2, data⟩ ao n c
  have hb0 := newBox w (.cells #[.int .i64 cl, .int .i64 sq, .int .i64 ak, .int .i64 ep, .int .i64 7, .int .i64 id, .int .i64 id2, .int .i64 off, .int .i64 len, .string path, .string name, .string name2, .slice ao n c] 24)
  have dlp : decide ((112 : Int) ∈ nums ⟨#[105, 110]⟩) = false := by decide
  have dli : decide ((105 : Int) ∈ nums ⟨#[105, 110]⟩) = true := by decide
  have dlo : decide ((111 : Int) ∈ nums ⟨#[105, 110]⟩) = false := by decide
  have dll : decide ((108 : Int) ∈ nums ⟨#[105, 110]⟩) = false := by decide
  have dln : decide ((110 : Int) ∈ nums ⟨#[105, 110]⟩) = true := by decide
  have dlj : decide ((106 : Int) ∈ nums ⟨#[105, 110]⟩) = false := by decide
  have dlm : decide ((109 : Int) ∈ nums ⟨#[105, 110]⟩) = false := by decide
  have dld : decide ((100 : Int) ∈ nums ⟨#[105, 110]⟩) = false := by decide
  go_enter Tryz.func41, Tryz.ntmps41
  go_wp2_with fail
  refine (rhas_is (s := ⟨#[105, 110]⟩) rfl _).mono ?_
  rintro e w1 ⟨rfl, hw1⟩
  subst w1
  go_wp2_with fail
  refine (N3.rsplit_any path _ hp).mono ?_
  rintro e w1 ⟨so, sn, sc, rfl, _, hb1⟩
  have hB1 := RqBox.later hB0 hb1 (Nat.le_refl _)
  have hq1 : Below w.heap.size w w1 := hb0.trans (hb1.mono (by simp))
  obtain ⟨b0, b1, b2, b3, b4, b5, b6, b7, b8, b9, b10, b11, b12⟩ := hB1
  clear hB0 hb1 hb0
  go_wp2_with (first
    | (go_at_call 68; refine (rin_any _ _ _ (by decide)).mono ?_; rintro e w2 ⟨rfl, hw2⟩; subst w2; simp only [dlp, dli, dlo, dll, dln, dlj, dlm, dld])
    | (go_at_call 84; refine (rwithin_any _ _ _ _).mono ?_; rintro e w2 ⟨rfl, hw2⟩; subst w2)
    | (go_at_call 86; refine (rname_any _ _).mono ?_; rintro e w2 ⟨rfl, hw2⟩; subst w2))
  all_goals go_ret
  all_goals refine ⟨?_, hq1⟩
  all_goals clear b0 b1 b2 b3 b4 b5 b6 b7 b8 b9 b10 b11 b12 hq1 dlp dli dlo dll dln dlj dlm dld
  all_goals simp_all [judgeE, hasRq, rqAny, fieldB, mayB, zeroB, empty_list]

set_option maxHeartbeats 4000000 in
theorem rfields_8 (cl sq ak ep id id2 off len : Int) (path name name2 : ByteArray) (data : List Int) (ao : Option Addr) (n c : Nat) (w : World) (hn : data.length = n) (hp : path.size ≤ 1048576) :
    Calls Tryz.prog 41 #[rqV ⟨cl, sq, ak, ep, 8, id, id2, off, len, path, name, name2, data⟩ ao n c] w fun e w' => e = .returned (.int .i64 (judgeE 8 (hasRq 8) (rqAny ⟨cl, sq, ak, ep, 8, id, id2, off, len, path, name, name2, data⟩))) ∧ Below w.heap.size w w' := by
  have hB0 := RqBox.new w ⟨cl, sq, ak, ep, 8, id, id2, off, len, path, name, name2, data⟩ ao n c
  have hb0 := newBox w (.cells #[.int .i64 cl, .int .i64 sq, .int .i64 ak, .int .i64 ep, .int .i64 8, .int .i64 id, .int .i64 id2, .int .i64 off, .int .i64 len, .string path, .string name, .string name2, .slice ao n c] 24)
  have dlp : decide ((112 : Int) ∈ nums ⟨#[105, 110]⟩) = false := by decide
  have dli : decide ((105 : Int) ∈ nums ⟨#[105, 110]⟩) = true := by decide
  have dlo : decide ((111 : Int) ∈ nums ⟨#[105, 110]⟩) = false := by decide
  have dll : decide ((108 : Int) ∈ nums ⟨#[105, 110]⟩) = false := by decide
  have dln : decide ((110 : Int) ∈ nums ⟨#[105, 110]⟩) = true := by decide
  have dlj : decide ((106 : Int) ∈ nums ⟨#[105, 110]⟩) = false := by decide
  have dlm : decide ((109 : Int) ∈ nums ⟨#[105, 110]⟩) = false := by decide
  have dld : decide ((100 : Int) ∈ nums ⟨#[105, 110]⟩) = false := by decide
  go_enter Tryz.func41, Tryz.ntmps41
  go_wp2_with fail
  refine (rhas_is (s := ⟨#[105, 110]⟩) rfl _).mono ?_
  rintro e w1 ⟨rfl, hw1⟩
  subst w1
  go_wp2_with fail
  refine (N3.rsplit_any path _ hp).mono ?_
  rintro e w1 ⟨so, sn, sc, rfl, _, hb1⟩
  have hB1 := RqBox.later hB0 hb1 (Nat.le_refl _)
  have hq1 : Below w.heap.size w w1 := hb0.trans (hb1.mono (by simp))
  obtain ⟨b0, b1, b2, b3, b4, b5, b6, b7, b8, b9, b10, b11, b12⟩ := hB1
  clear hB0 hb1 hb0
  go_wp2_with (first
    | (go_at_call 68; refine (rin_any _ _ _ (by decide)).mono ?_; rintro e w2 ⟨rfl, hw2⟩; subst w2; simp only [dlp, dli, dlo, dll, dln, dlj, dlm, dld])
    | (go_at_call 84; refine (rwithin_any _ _ _ _).mono ?_; rintro e w2 ⟨rfl, hw2⟩; subst w2)
    | (go_at_call 86; refine (rname_any _ _).mono ?_; rintro e w2 ⟨rfl, hw2⟩; subst w2))
  all_goals go_ret
  all_goals refine ⟨?_, hq1⟩
  all_goals clear b0 b1 b2 b3 b4 b5 b6 b7 b8 b9 b10 b11 b12 hq1 dlp dli dlo dll dln dlj dlm dld
  all_goals simp_all [judgeE, hasRq, rqAny, fieldB, mayB, zeroB, empty_list]

set_option maxHeartbeats 4000000 in
theorem rfields_9 (cl sq ak ep id id2 off len : Int) (path name name2 : ByteArray) (data : List Int) (ao : Option Addr) (n c : Nat) (w : World) (hn : data.length = n) (hp : path.size ≤ 1048576) :
    Calls Tryz.prog 41 #[rqV ⟨cl, sq, ak, ep, 9, id, id2, off, len, path, name, name2, data⟩ ao n c] w fun e w' => e = .returned (.int .i64 (judgeE 9 (hasRq 9) (rqAny ⟨cl, sq, ak, ep, 9, id, id2, off, len, path, name, name2, data⟩))) ∧ Below w.heap.size w w' := by
  have hB0 := RqBox.new w ⟨cl, sq, ak, ep, 9, id, id2, off, len, path, name, name2, data⟩ ao n c
  have hb0 := newBox w (.cells #[.int .i64 cl, .int .i64 sq, .int .i64 ak, .int .i64 ep, .int .i64 9, .int .i64 id, .int .i64 id2, .int .i64 off, .int .i64 len, .string path, .string name, .string name2, .slice ao n c] 24)
  have dlp : decide ((112 : Int) ∈ nums ⟨#[105, 110, 106, 109]⟩) = false := by decide
  have dli : decide ((105 : Int) ∈ nums ⟨#[105, 110, 106, 109]⟩) = true := by decide
  have dlo : decide ((111 : Int) ∈ nums ⟨#[105, 110, 106, 109]⟩) = false := by decide
  have dll : decide ((108 : Int) ∈ nums ⟨#[105, 110, 106, 109]⟩) = false := by decide
  have dln : decide ((110 : Int) ∈ nums ⟨#[105, 110, 106, 109]⟩) = true := by decide
  have dlj : decide ((106 : Int) ∈ nums ⟨#[105, 110, 106, 109]⟩) = true := by decide
  have dlm : decide ((109 : Int) ∈ nums ⟨#[105, 110, 106, 109]⟩) = true := by decide
  have dld : decide ((100 : Int) ∈ nums ⟨#[105, 110, 106, 109]⟩) = false := by decide
  go_enter Tryz.func41, Tryz.ntmps41
  go_wp2_with fail
  refine (rhas_is (s := ⟨#[105, 110, 106, 109]⟩) rfl _).mono ?_
  rintro e w1 ⟨rfl, hw1⟩
  subst w1
  go_wp2_with fail
  refine (N3.rsplit_any path _ hp).mono ?_
  rintro e w1 ⟨so, sn, sc, rfl, _, hb1⟩
  have hB1 := RqBox.later hB0 hb1 (Nat.le_refl _)
  have hq1 : Below w.heap.size w w1 := hb0.trans (hb1.mono (by simp))
  obtain ⟨b0, b1, b2, b3, b4, b5, b6, b7, b8, b9, b10, b11, b12⟩ := hB1
  clear hB0 hb1 hb0
  go_wp2_with (first
    | (go_at_call 68; refine (rin_any _ _ _ (by decide)).mono ?_; rintro e w2 ⟨rfl, hw2⟩; subst w2; simp only [dlp, dli, dlo, dll, dln, dlj, dlm, dld])
    | (go_at_call 84; refine (rwithin_any _ _ _ _).mono ?_; rintro e w2 ⟨rfl, hw2⟩; subst w2)
    | (go_at_call 86; refine (rname_any _ _).mono ?_; rintro e w2 ⟨rfl, hw2⟩; subst w2))
  all_goals go_ret
  all_goals refine ⟨?_, hq1⟩
  all_goals clear b0 b1 b2 b3 b4 b5 b6 b7 b8 b9 b10 b11 b12 hq1 dlp dli dlo dll dln dlj dlm dld
  all_goals simp_all [judgeE, hasRq, rqAny, fieldB, mayB, zeroB, empty_list]

set_option maxHeartbeats 4000000 in
theorem rfields_10 (cl sq ak ep id id2 off len : Int) (path name name2 : ByteArray) (data : List Int) (ao : Option Addr) (n c : Nat) (w : World) (hn : data.length = n) (hp : path.size ≤ 1048576) :
    Calls Tryz.prog 41 #[rqV ⟨cl, sq, ak, ep, 10, id, id2, off, len, path, name, name2, data⟩ ao n c] w fun e w' => e = .returned (.int .i64 (judgeE 10 (hasRq 10) (rqAny ⟨cl, sq, ak, ep, 10, id, id2, off, len, path, name, name2, data⟩))) ∧ Below w.heap.size w w' := by
  have hB0 := RqBox.new w ⟨cl, sq, ak, ep, 10, id, id2, off, len, path, name, name2, data⟩ ao n c
  have hb0 := newBox w (.cells #[.int .i64 cl, .int .i64 sq, .int .i64 ak, .int .i64 ep, .int .i64 10, .int .i64 id, .int .i64 id2, .int .i64 off, .int .i64 len, .string path, .string name, .string name2, .slice ao n c] 24)
  have dlp : decide ((112 : Int) ∈ nums ⟨#[105, 108, 110]⟩) = false := by decide
  have dli : decide ((105 : Int) ∈ nums ⟨#[105, 108, 110]⟩) = true := by decide
  have dlo : decide ((111 : Int) ∈ nums ⟨#[105, 108, 110]⟩) = false := by decide
  have dll : decide ((108 : Int) ∈ nums ⟨#[105, 108, 110]⟩) = true := by decide
  have dln : decide ((110 : Int) ∈ nums ⟨#[105, 108, 110]⟩) = true := by decide
  have dlj : decide ((106 : Int) ∈ nums ⟨#[105, 108, 110]⟩) = false := by decide
  have dlm : decide ((109 : Int) ∈ nums ⟨#[105, 108, 110]⟩) = false := by decide
  have dld : decide ((100 : Int) ∈ nums ⟨#[105, 108, 110]⟩) = false := by decide
  go_enter Tryz.func41, Tryz.ntmps41
  go_wp2_with fail
  refine (rhas_is (s := ⟨#[105, 108, 110]⟩) rfl _).mono ?_
  rintro e w1 ⟨rfl, hw1⟩
  subst w1
  go_wp2_with fail
  refine (N3.rsplit_any path _ hp).mono ?_
  rintro e w1 ⟨so, sn, sc, rfl, _, hb1⟩
  have hB1 := RqBox.later hB0 hb1 (Nat.le_refl _)
  have hq1 : Below w.heap.size w w1 := hb0.trans (hb1.mono (by simp))
  obtain ⟨b0, b1, b2, b3, b4, b5, b6, b7, b8, b9, b10, b11, b12⟩ := hB1
  clear hB0 hb1 hb0
  go_wp2_with (first
    | (go_at_call 68; refine (rin_any _ _ _ (by decide)).mono ?_; rintro e w2 ⟨rfl, hw2⟩; subst w2; simp only [dlp, dli, dlo, dll, dln, dlj, dlm, dld])
    | (go_at_call 84; refine (rwithin_any _ _ _ _).mono ?_; rintro e w2 ⟨rfl, hw2⟩; subst w2)
    | (go_at_call 86; refine (rname_any _ _).mono ?_; rintro e w2 ⟨rfl, hw2⟩; subst w2))
  all_goals go_ret
  all_goals refine ⟨?_, hq1⟩
  all_goals clear b0 b1 b2 b3 b4 b5 b6 b7 b8 b9 b10 b11 b12 hq1 dlp dli dlo dll dln dlj dlm dld
  all_goals simp_all [judgeE, hasRq, rqAny, fieldB, mayB, zeroB, empty_list, mostLen]
end Go.Proofs.YtdkcplndplhblaaGreatDoor
