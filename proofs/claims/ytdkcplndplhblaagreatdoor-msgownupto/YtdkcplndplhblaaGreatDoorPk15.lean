/- The document's own datagrams of the two messages. -/
import Derived.Test.YtdkcplndplhblaaGreatDoorPk14
import Derived.Lib.SmallJoins
namespace Go.Proofs.YtdkcplndplhblaaGreatDoor
open Go.RowKit
set_option maxRecDepth 100000

set_option maxHeartbeats 1000000 in
theorem rhead_plain (w : World) : Calls Tryz.prog 40 #[rqV plR none 0 0] w fun e w' => e = .returned (.int .i64 0) ∧ Below w.heap.size w w' := by
  have i1 : inB 1 0 7 = true := by decide
  have i2 : inB 5 1 4611686018427387904 = true := by decide
  have i3 : inB 4 0 4 = true := by decide
  have i4 : inB 2 0 4611686018427387904 = true := by decide
  have i5 : inB 2 1 10 = true := by decide
  unfold plR
  go_enter Tryz.func40, Tryz.ntmps40
  go_wp2_with (go_at_call 84; refine (rwithin_any _ _ _ _).mono ?_; rintro e w1 ⟨rfl, hw1⟩; subst w1; simp only [i1, i2, i3, i4, i5])
  go_ret
  exact ⟨rfl, newBox _ _⟩
set_option maxHeartbeats 2000000 in
theorem rfields_plain (w : World) : Calls Tryz.prog 41 #[rqV plR none 0 0] w fun e w' => e = .returned (.int .i64 0) ∧ Below w.heap.size w w' := by
  have i1 : inB 256 1 562949953421311 = true := by decide
  have hE : N3.splitE (N3.bs ⟨#[]⟩) = 32 := by decide
  have dlp : decide ((112 : Int) ∈ nums ⟨#[105]⟩) = false := by decide
  have dli : decide ((105 : Int) ∈ nums ⟨#[105]⟩) = true := by decide
  have dlo : decide ((111 : Int) ∈ nums ⟨#[105]⟩) = false := by decide
  have dll : decide ((108 : Int) ∈ nums ⟨#[105]⟩) = false := by decide
  have dln : decide ((110 : Int) ∈ nums ⟨#[105]⟩) = false := by decide
  have dlj : decide ((106 : Int) ∈ nums ⟨#[105]⟩) = false := by decide
  have dlm : decide ((109 : Int) ∈ nums ⟨#[105]⟩) = false := by decide
  have dld : decide ((100 : Int) ∈ nums ⟨#[105]⟩) = false := by decide
  unfold plR
  go_enter Tryz.func41, Tryz.ntmps41
  go_wp2_with fail
  refine (rhas_two _).mono ?_
  rintro e w1 ⟨rfl, hw1⟩
  subst w1
  go_wp2_with fail
  refine (N3.rsplit_any ⟨#[]⟩ _ (by decide)).mono ?_
  rintro e w1 ⟨so, sn, sc, rfl, _, hb1⟩
  rw [hE]
  have hB0 := RqBox.new w plR none 0 0
  have hB1 := RqBox.later hB0 hb1 (Nat.le_refl _)
  have hq1 : Below w.heap.size w w1 := (newBox w _).trans (hb1.mono (by simp))
  obtain ⟨b0, b1, b2, b3, b4, b5, b6, b7, b8, b9, b10, b11, b12⟩ := hB1
  simp only [plR] at b0 b1 b2 b3 b4 b5 b6 b7 b8 b9 b10 b11 b12
  clear hB0 hb1
  go_wp2_with (first
    | (go_at_call 68; refine (rin_any _ _ _ (by decide)).mono ?_; rintro e w2 ⟨rfl, hw2⟩; subst w2; simp only [dlp, dli, dlo, dll, dln, dlj, dlm, dld])
    | (go_at_call 84; refine (rwithin_any _ _ _ _).mono ?_; rintro e w2 ⟨rfl, hw2⟩; subst w2; simp only [i1]))
  go_ret
  exact ⟨rfl, hq1⟩
set_option maxHeartbeats 1000000 in
theorem rcheck_plain (w : World) : Calls Tryz.prog 10 #[rqV plR none 0 0] w fun e w' => e = .returned (.int .i64 0) ∧ Below w.heap.size w w' := by
  have hB0 := RqBox.new w plR none 0 0
  go_enter Tryz.func10, Tryz.ntmps10
  go_wp2_with fail
  refine (rhead_plain _).mono ?_
  rintro e w1 ⟨rfl, hb1⟩
  have hB1 := RqBox.later hB0 hb1 (Nat.le_refl _)
  have hq1 : Below w.heap.size w w1 := (newBox w _).trans (hb1.mono (by simp))
  obtain ⟨b0, b1, b2, b3, b4, b5, b6, b7, b8, b9, b10, b11, b12⟩ := hB1
  clear hB0 hb1
  go_wp2_with fail
  refine (rfields_plain _).mono ?_
  rintro e w2 ⟨rfl, hb2⟩
  go_wp2
  go_ret
  exact ⟨rfl, hq1.trans (hb2.mono hq1.size)⟩

theorem lies_new (w : World) (l : List Int) (n : Nat) (hl : l.length = n) (C : Array Value) (hC : C = (l.map (Value.int .u8)).toArray) : Lies (w.alloc (.cells C 5)) (some ⟨w.heap.size, 0, none⟩) n n l := by
  subst hC
  refine ⟨hl, Nat.le_refl _, (fun h => by cases h), fun ad had t u hu => ?_⟩
  obtain rfl := Option.some.inj had
  rw [Addr.add_lit, Nat.zero_add, World.cell?_alloc_at _ _ _ _ rfl]
  simpa using hu
theorem lies_mark (w : World) (l : List Int) (n : Nat) (hl : l.length = n) (C : Array Value) (hC : C = (l.map (Value.int .u8)).toArray) (fr : Nat × Nat) (g : Nat) (hg : g = w.heap.size) : Lies (w.alloc (.cells C 5 fr)) (some ⟨g, 0, none⟩) n n l := by
  subst hC
  refine ⟨hl, Nat.le_refl _, (fun h => by cases h), fun ad had t u hu => ?_⟩
  obtain rfl := Option.some.inj had
  rw [Addr.add_lit, Nat.zero_add, Go.Joins.cell_alloc_mark_at _ _ _ _ _ _ hg]
  simpa using hu
/-- The bytes of the plain request. -/
def plB : List Int := nums ⟨#[65, 78, 81, 49]⟩ ++ be (IntKind.u64.wrap 1) 4 ++ be (IntKind.u64.wrap 5) 8 ++ be (IntKind.u64.wrap 4) 8 ++ be (IntKind.u64.wrap 2) 8 ++ be (IntKind.u64.wrap 2) 4 ++ be (IntKind.u64.wrap 256) 8
set_option maxHeartbeats 4000000 in
theorem rbytes_plain (w : World) : Calls Tryz.prog 52 #[rqV plR none 0 0] w fun e w' => ∃ ao n c, e = .returned (.slice ao n c) ∧ Lies w' ao n c plB ∧ Below w.heap.size w w' := by
  have hcc := Go.Joins.run_convert_bytes_const_at (P := Tryz.prog) (w.alloc (.cells #[.int .i64 plR.client, .int .i64 plR.seq, .int .i64 plR.ack, .int .i64 plR.epoch, .int .i64 plR.op, .int .i64 plR.id, .int .i64 plR.id2, .int .i64 plR.off, .int .i64 plR.len, .string plR.path, .string plR.name, .string plR.name2, .slice none 0 0] 24)) 22 5 #[.int .u8 65, .int .u8 78, .int .u8 81, .int .u8 49] 4 4 (w.heap.size + 1) (by simp) Tryz.underlying22 Tryz.underlying5
  have hB := RqBox.new w plR none 0 0
  have hb0 := newBox (w.alloc (.cells #[.int .i64 plR.client, .int .i64 plR.seq, .int .i64 plR.ack, .int .i64 plR.epoch, .int .i64 plR.op, .int .i64 plR.id, .int .i64 plR.id2, .int .i64 plR.off, .int .i64 plR.len, .string plR.path, .string plR.name, .string plR.name2, .slice none 0 0] 24)) (.cells #[.int .u8 65, .int .u8 78, .int .u8 81, .int .u8 49] 5 (4, 5))
  have hL0 : Lies ((w.alloc (.cells #[.int .i64 plR.client, .int .i64 plR.seq, .int .i64 plR.ack, .int .i64 plR.epoch, .int .i64 plR.op, .int .i64 plR.id, .int .i64 plR.id2, .int .i64 plR.off, .int .i64 plR.len, .string plR.path, .string plR.name, .string plR.name2, .slice none 0 0] 24)).alloc (.cells #[.int .u8 65, .int .u8 78, .int .u8 81, .int .u8 49] 5 (4, 5))) (some ⟨w.heap.size + 1, 0, none⟩) 4 4 (nums ⟨#[65, 78, 81, 49]⟩) := by
    exact lies_mark (w.alloc (.cells #[.int .i64 plR.client, .int .i64 plR.seq, .int .i64 plR.ack, .int .i64 plR.epoch, .int .i64 plR.op, .int .i64 plR.id, .int .i64 plR.id2, .int .i64 plR.off, .int .i64 plR.len, .string plR.path, .string plR.name, .string plR.name2, .slice none 0 0] 24)) [65, 78, 81, 49] 4 rfl _ rfl (4, 5) (w.heap.size + 1) (by simp)
  have hB := RqBox.later hB hb0 (Nat.le_refl _)
  have hq : Below w.heap.size w ((w.alloc (.cells #[.int .i64 plR.client, .int .i64 plR.seq, .int .i64 plR.ack, .int .i64 plR.epoch, .int .i64 plR.op, .int .i64 plR.id, .int .i64 plR.id2, .int .i64 plR.off, .int .i64 plR.len, .string plR.path, .string plR.name, .string plR.name2, .slice none 0 0] 24)).alloc (.cells #[.int .u8 65, .int .u8 78, .int .u8 81, .int .u8 49] 5 (4, 5))) := (newBox w _).trans (hb0.mono (by simp))
  clear hb0
  have dli : decide ((105 : Int) ∈ nums ⟨#[105]⟩) = true := by decide
  have dlo : decide ((111 : Int) ∈ nums ⟨#[105]⟩) = false := by decide
  have dll : decide ((108 : Int) ∈ nums ⟨#[105]⟩) = false := by decide
  have dlp : decide ((112 : Int) ∈ nums ⟨#[105]⟩) = false := by decide
  have dln : decide ((110 : Int) ∈ nums ⟨#[105]⟩) = false := by decide
  have dlj : decide ((106 : Int) ∈ nums ⟨#[105]⟩) = false := by decide
  have dlm : decide ((109 : Int) ∈ nums ⟨#[105]⟩) = false := by decide
  have dld : decide ((100 : Int) ∈ nums ⟨#[105]⟩) = false := by decide
  go_enter Tryz.func52, Tryz.ntmps52
  go_wp2_with fail
  generalize (w.alloc (.cells #[.int .i64 plR.client, .int .i64 plR.seq, .int .i64 plR.ack, .int .i64 plR.epoch, .int .i64 plR.op, .int .i64 plR.id, .int .i64 plR.id2, .int .i64 plR.off, .int .i64 plR.len, .string plR.path, .string plR.name, .string plR.name2, .slice none 0 0] 24)).alloc (.cells #[.int .u8 65, .int .u8 78, .int .u8 81, .int .u8 49] 5 (4, 5)) = wA at *
  simp only [plR] at hB
  obtain ⟨b0, b1, b2, b3, b4, b5, b6, b7, b8, b9, b10, b11, b12⟩ := hB
  refine (ref32 _ 4 _ _ 1 _ (by omega) hL0).mono ?_
  rintro e w1 ⟨a1, c1, rfl, ho1, hb1⟩
  have hL1 := Lies.owned ho1
  have hq1 := hq.trans (hb1.mono hq.size)
  have b0 := cell_later hb1 b0 (Nat.le_refl _)
  have b1 := cell_later hb1 b1 (Nat.le_refl _)
  have b2 := cell_later hb1 b2 (Nat.le_refl _)
  have b3 := cell_later hb1 b3 (Nat.le_refl _)
  have b4 := cell_later hb1 b4 (Nat.le_refl _)
  have b5 := cell_later hb1 b5 (Nat.le_refl _)
  have b6 := cell_later hb1 b6 (Nat.le_refl _)
  have b7 := cell_later hb1 b7 (Nat.le_refl _)
  have b8 := cell_later hb1 b8 (Nat.le_refl _)
  have b9 := cell_later hb1 b9 (Nat.le_refl _)
  have b10 := cell_later hb1 b10 (Nat.le_refl _)
  have b11 := cell_later hb1 b11 (Nat.le_refl _)
  have b12 := cell_later hb1 b12 (Nat.le_refl _)
  clear ho1 hb1
  go_wp2_with fail
  refine (ref64 _ 8 _ _ 5 _ (by omega) hL1).mono ?_
  rintro e w2 ⟨a2, c2, rfl, ho2, hb2⟩
  have hL2 := Lies.owned ho2
  have hq2 := hq1.trans (hb2.mono hq1.size)
  have b0 := cell_later hb2 b0 (Nat.le_refl _)
  have b1 := cell_later hb2 b1 (Nat.le_refl _)
  have b2 := cell_later hb2 b2 (Nat.le_refl _)
  have b3 := cell_later hb2 b3 (Nat.le_refl _)
  have b4 := cell_later hb2 b4 (Nat.le_refl _)
  have b5 := cell_later hb2 b5 (Nat.le_refl _)
  have b6 := cell_later hb2 b6 (Nat.le_refl _)
  have b7 := cell_later hb2 b7 (Nat.le_refl _)
  have b8 := cell_later hb2 b8 (Nat.le_refl _)
  have b9 := cell_later hb2 b9 (Nat.le_refl _)
  have b10 := cell_later hb2 b10 (Nat.le_refl _)
  have b11 := cell_later hb2 b11 (Nat.le_refl _)
  have b12 := cell_later hb2 b12 (Nat.le_refl _)
  clear ho2 hb2
  go_wp2_with fail
  refine (ref64 _ 16 _ _ 4 _ (by omega) hL2).mono ?_
  rintro e w3 ⟨a3, c3, rfl, ho3, hb3⟩
  have hL3 := Lies.owned ho3
  have hq3 := hq2.trans (hb3.mono hq2.size)
  have b0 := cell_later hb3 b0 (Nat.le_refl _)
  have b1 := cell_later hb3 b1 (Nat.le_refl _)
  have b2 := cell_later hb3 b2 (Nat.le_refl _)
  have b3 := cell_later hb3 b3 (Nat.le_refl _)
  have b4 := cell_later hb3 b4 (Nat.le_refl _)
  have b5 := cell_later hb3 b5 (Nat.le_refl _)
  have b6 := cell_later hb3 b6 (Nat.le_refl _)
  have b7 := cell_later hb3 b7 (Nat.le_refl _)
  have b8 := cell_later hb3 b8 (Nat.le_refl _)
  have b9 := cell_later hb3 b9 (Nat.le_refl _)
  have b10 := cell_later hb3 b10 (Nat.le_refl _)
  have b11 := cell_later hb3 b11 (Nat.le_refl _)
  have b12 := cell_later hb3 b12 (Nat.le_refl _)
  clear ho3 hb3
  go_wp2_with fail
  refine (ref64 _ 24 _ _ 2 _ (by omega) hL3).mono ?_
  rintro e w4 ⟨a4, c4, rfl, ho4, hb4⟩
  have hL4 := Lies.owned ho4
  have hq4 := hq3.trans (hb4.mono hq3.size)
  have b0 := cell_later hb4 b0 (Nat.le_refl _)
  have b1 := cell_later hb4 b1 (Nat.le_refl _)
  have b2 := cell_later hb4 b2 (Nat.le_refl _)
  have b3 := cell_later hb4 b3 (Nat.le_refl _)
  have b4 := cell_later hb4 b4 (Nat.le_refl _)
  have b5 := cell_later hb4 b5 (Nat.le_refl _)
  have b6 := cell_later hb4 b6 (Nat.le_refl _)
  have b7 := cell_later hb4 b7 (Nat.le_refl _)
  have b8 := cell_later hb4 b8 (Nat.le_refl _)
  have b9 := cell_later hb4 b9 (Nat.le_refl _)
  have b10 := cell_later hb4 b10 (Nat.le_refl _)
  have b11 := cell_later hb4 b11 (Nat.le_refl _)
  have b12 := cell_later hb4 b12 (Nat.le_refl _)
  clear ho4 hb4
  go_wp2_with fail
  refine (ref32 _ 32 _ _ 2 _ (by omega) hL4).mono ?_
  rintro e w5 ⟨a5, c5, rfl, ho5, hb5⟩
  have hL5 := Lies.owned ho5
  have hq5 := hq4.trans (hb5.mono hq4.size)
  have b0 := cell_later hb5 b0 (Nat.le_refl _)
  have b1 := cell_later hb5 b1 (Nat.le_refl _)
  have b2 := cell_later hb5 b2 (Nat.le_refl _)
  have b3 := cell_later hb5 b3 (Nat.le_refl _)
  have b4 := cell_later hb5 b4 (Nat.le_refl _)
  have b5 := cell_later hb5 b5 (Nat.le_refl _)
  have b6 := cell_later hb5 b6 (Nat.le_refl _)
  have b7 := cell_later hb5 b7 (Nat.le_refl _)
  have b8 := cell_later hb5 b8 (Nat.le_refl _)
  have b9 := cell_later hb5 b9 (Nat.le_refl _)
  have b10 := cell_later hb5 b10 (Nat.le_refl _)
  have b11 := cell_later hb5 b11 (Nat.le_refl _)
  have b12 := cell_later hb5 b12 (Nat.le_refl _)
  clear ho5 hb5
  go_wp2_with fail
  refine (rhas_two _).mono ?_
  rintro e w6 ⟨rfl, hw6⟩
  subst w6
  go_wp2_with fail
  refine (rin_any _ _ _ (by decide)).mono ?_
  rintro e w6 ⟨rfl, hw6⟩
  subst w6
  simp only [dli]
  go_wp2_with fail
  refine (ref64 _ 36 _ _ 256 _ (by omega) hL5).mono ?_
  rintro e w6 ⟨a6, c6, rfl, ho6, hb6⟩
  have hL6 := Lies.owned ho6
  have hq6 := hq5.trans (hb6.mono hq5.size)
  have b0 := cell_later hb6 b0 (Nat.le_refl _)
  have b1 := cell_later hb6 b1 (Nat.le_refl _)
  have b2 := cell_later hb6 b2 (Nat.le_refl _)
  have b3 := cell_later hb6 b3 (Nat.le_refl _)
  have b4 := cell_later hb6 b4 (Nat.le_refl _)
  have b5 := cell_later hb6 b5 (Nat.le_refl _)
  have b6 := cell_later hb6 b6 (Nat.le_refl _)
  have b7 := cell_later hb6 b7 (Nat.le_refl _)
  have b8 := cell_later hb6 b8 (Nat.le_refl _)
  have b9 := cell_later hb6 b9 (Nat.le_refl _)
  have b10 := cell_later hb6 b10 (Nat.le_refl _)
  have b11 := cell_later hb6 b11 (Nat.le_refl _)
  have b12 := cell_later hb6 b12 (Nat.le_refl _)
  clear ho6 hb6
  go_wp2_with (go_at_call 68; refine (rin_any _ _ _ (by decide)).mono ?_; rintro e w2 ⟨rfl, hw2⟩; subst w2; simp only [dlo, dll, dlp, dln, dlj, dlm, dld])
  go_ret
  exact ⟨a6, _, c6, rfl, hL6, hq6⟩
end Go.Proofs.YtdkcplndplhblaaGreatDoor

/- The document's own datagrams of the two messages: the rest. -/
namespace Go.Proofs.YtdkcplndplhblaaGreatDoor
open Go.RowKit
set_option maxRecDepth 100000

set_option maxHeartbeats 1000000 in
theorem closed_any (ao : Option Addr) (n c : Nat) (X : List Int) (w : World) (hn : n ≤ 2000) (hL : Lies w ao n c X) (hby : Bys X) :
    Calls Tryz.prog 51 #[.slice ao n c] w fun e w' => ∃ a m k, e = .returned (.slice a m k) ∧ Lies w' a m k (closeB X) ∧ Below w.heap.size w w' := by
  have hsm := sumOf_bd X
  have hP := refSum ao n c X (sumOf X) w hsm.1 hsm.2 (by omega) hL
  go_enter Tryz.func51, Tryz.ntmps51
  go_wp2_with fail
  refine (S2.rsum_any _ _ _ X _ (by omega) hL hby).mono ?_
  rintro e w1 ⟨rfl, hw1⟩
  subst w1
  go_wp2_with fail
  refine hP.mono ?_
  rintro e w2 ⟨a2, c2, rfl, ho2, hb2⟩
  have hL2 := Lies.owned ho2
  clear hP ho2
  go_wp2
  go_ret
  exact ⟨a2, _, c2, rfl, hL2, hb2⟩
theorem plB_bys : Bys plB := (((((nums_bys _).app (be_bys _ _)).app (be_bys _ _)).app (be_bys _ _)).app (be_bys _ _)).app (be_bys _ _) |>.app (be_bys _ _)
set_option maxHeartbeats 1000000 in
theorem rencRequest_plain (w : World) : Calls Tryz.prog 19 #[rqV plR none 0 0] w fun e w' => ∃ a m k, e = .returned (.tuple #[.slice a m k, .int .i64 0]) ∧ Lies w' a m k (closeB plB) ∧ Below w.heap.size w w' := by
  have hB0 := RqBox.new w plR none 0 0
  go_enter Tryz.func19, Tryz.ntmps19
  go_wp2_with fail
  refine (rcheck_plain _).mono ?_
  rintro e w1 ⟨rfl, hb1⟩
  have hB1 := RqBox.later hB0 hb1 (Nat.le_refl _)
  have hq1 : Below w.heap.size w w1 := (newBox w _).trans (hb1.mono (by simp))
  obtain ⟨b0, b1, b2, b3, b4, b5, b6, b7, b8, b9, b10, b11, b12⟩ := hB1
  clear hB0 hb1
  go_wp2_with fail
  refine (rbytes_plain _).mono ?_
  rintro e w2 ⟨a2, n2, c2, rfl, hL2, hb2⟩
  have hq2 := hq1.trans (hb2.mono hq1.size)
  have hn2 : n2 ≤ 2000 := by have h44 : plB.length = 44 := by decide
                             have := hL2.hlen; omega
  clear b0 b1 b2 b3 b4 b5 b6 b7 b8 b9 b10 b11 b12 hb2
  go_wp2_with fail
  refine (closed_any a2 n2 c2 plB _ hn2 hL2 plB_bys).mono ?_
  rintro e w3 ⟨a3, n3, c3, rfl, hL3, hb3⟩
  have hq3 := hq2.trans (hb3.mono hq2.size)
  go_wp2
  go_ret2
  exact ⟨a3, n3, c3, rfl, hL3, hq3⟩

set_option maxHeartbeats 1000000 in
theorem rstatus_121 (w : World) : Calls Tryz.prog 90 #[.int .i64 121] w fun e w' => e = .returned (.bool true) ∧ w' = w := by
  go_enter Tryz.func90, Tryz.ntmps90
  go_wp2
  go_ret
  exact ⟨rfl, rfl⟩
set_option maxHeartbeats 1000000 in
theorem ranswer_ref (w : World) : Calls Tryz.prog 45 #[rpV rfR none 0 0 none 0 0] w fun e w' => e = .returned (.int .i64 0) ∧ Below w.heap.size w w' := by
  have i1 : inB 1 0 7 = true := by decide
  have i2 : inB 5 1 4611686018427387904 = true := by decide
  have i3 : inB 2 1 4611686018427387904 = true := by decide
  have i5 : inB 6 1 10 = true := by decide
  unfold rfR
  go_enter Tryz.func45, Tryz.ntmps45
  go_wp2_with (first
    | (go_at_call 76; refine (rnum_id _ _).mono ?_; rintro e w1 ⟨rfl, hw1⟩; subst w1)
    | (go_at_call 84; refine (rwithin_any _ _ _ _).mono ?_; rintro e w1 ⟨rfl, hw1⟩; subst w1; simp only [i1, i2, i3, i5])
    | (go_at_call 90; refine (rstatus_121 _).mono ?_; rintro e w1 ⟨rfl, hw1⟩; subst w1))
  go_ret
  exact ⟨rfl, newBox _ _⟩
set_option maxHeartbeats 1000000 in
theorem rgives_ref (w : World) : Calls Tryz.prog 73 #[rpV rfR none 0 0 none 0 0] w fun e w' => e = .returned (.string ⟨#[]⟩) ∧ Below w.heap.size w w' := by
  unfold rfR
  go_enter Tryz.func73, Tryz.ntmps73
  go_wp2_with (go_at_call 76; refine (rnum_id _ _).mono ?_; rintro e w1 ⟨rfl, hw1⟩; subst w1)
  go_ret
  exact ⟨rfl, newBox _ _⟩
set_option maxHeartbeats 1000000 in
theorem sameAttr_any (i k z c i' k' z' c' : Int) (w : World) : Calls Tryz.prog 75 #[.agg #[.int .i64 i, .int .i64 k, .int .i64 z, .int .i64 c], .agg #[.int .i64 i', .int .i64 k', .int .i64 z', .int .i64 c']] w fun e w' => e = .returned (.bool (decide (i = i' ∧ k = k' ∧ z = z' ∧ c = c'))) ∧ Below w.heap.size w w' := by
  by_cases h1 : i = i'
  · subst h1
    by_cases h2 : k = k'
    · subst h2
      by_cases h3 : z = z'
      · subst h3
        go_enter Tryz.func75, Tryz.ntmps75
        go_wp2
        go_ret
        exact ⟨by simp; rfl, box2 _ _ _⟩
      · go_enter Tryz.func75, Tryz.ntmps75
        go_wp2
        go_ret
        exact ⟨by simp [h3], box2 _ _ _⟩
    · go_enter Tryz.func75, Tryz.ntmps75
      go_wp2
      go_ret
      exact ⟨by simp [h2], box2 _ _ _⟩
  · go_enter Tryz.func75, Tryz.ntmps75
    go_wp2
    go_ret
    exact ⟨by simp [h1], box2 _ _ _⟩
set_option maxHeartbeats 2000000 in
theorem rbrought_ref (w : World) : Calls Tryz.prog 46 #[rpV rfR none 0 0 none 0 0] w fun e w' => e = .returned (.int .i64 0) ∧ Below w.heap.size w w' := by
  have dla : decide ((97 : Int) ∈ nums ⟨#[]⟩) = false := by decide
  have dld : decide ((100 : Int) ∈ nums ⟨#[]⟩) = false := by decide
  have dlt : decide ((116 : Int) ∈ nums ⟨#[]⟩) = false := by decide
  have hB0 := RpBox.new w rfR none 0 0 none 0 0
  go_enter Tryz.func46, Tryz.ntmps46
  go_wp2_with fail
  refine (rgives_ref _).mono ?_
  rintro e w1 ⟨rfl, hb1⟩
  have hB1 := RpBox.later hB0 hb1 (Nat.le_refl _)
  have hq1 : Below w.heap.size w w1 := (newBox w _).trans (hb1.mono (by simp))
  simp only [rfR] at hB1
  obtain ⟨b0, b1, b2, b3, b4, b5, b6, b7, b8, b9, b10, b11⟩ := hB1
  clear hB0 hb1
  go_wp2_with fail
  refine (sameAttr_any 0 0 0 0 0 0 0 0 _).mono ?_
  rintro e w2 ⟨rfl, hb2⟩
  rw [show decide ((0 : Int) = 0 ∧ (0 : Int) = 0 ∧ (0 : Int) = 0 ∧ (0 : Int) = 0) = true from by decide]
  have hq2 := hq1.trans (hb2.mono hq1.size)
  have b0 := cell_later hb2 b0 (Nat.le_refl _)
  have b1 := cell_later hb2 b1 (Nat.le_refl _)
  have b2 := cell_later hb2 b2 (Nat.le_refl _)
  have b3 := cell_later hb2 b3 (Nat.le_refl _)
  have b4 := cell_later hb2 b4 (Nat.le_refl _)
  have b5 := cell_later hb2 b5 (Nat.le_refl _)
  have b6 := cell_later hb2 b6 (Nat.le_refl _)
  have b7 := cell_later hb2 b7 (Nat.le_refl _)
  have b8 := cell_later hb2 b8 (Nat.le_refl _)
  have b9 := cell_later hb2 b9 (Nat.le_refl _)
  have b10 := cell_later hb2 b10 (Nat.le_refl _)
  have b11 := cell_later hb2 b11 (Nat.le_refl _)
  clear hb2
  go_wp2_with (go_at_call 68; refine (rin_any _ _ _ (by decide)).mono ?_; rintro e w3 ⟨rfl, hw3⟩; subst w3; simp only [dla, dld, dlt])
  go_ret
  exact ⟨rfl, hq2⟩
set_option maxHeartbeats 1000000 in
theorem rcheckReply_ref (w : World) : Calls Tryz.prog 16 #[rpV rfR none 0 0 none 0 0] w fun e w' => e = .returned (.int .i64 0) ∧ Below w.heap.size w w' := by
  have hB0 := RpBox.new w rfR none 0 0 none 0 0
  go_enter Tryz.func16, Tryz.ntmps16
  go_wp2_with fail
  refine (ranswer_ref _).mono ?_
  rintro e w1 ⟨rfl, hb1⟩
  have hB1 := RpBox.later hB0 hb1 (Nat.le_refl _)
  have hq1 : Below w.heap.size w w1 := (newBox w _).trans (hb1.mono (by simp))
  obtain ⟨b0, b1, b2, b3, b4, b5, b6, b7, b8, b9, b10, b11⟩ := hB1
  clear hB0 hb1
  go_wp2_with fail
  refine (rbrought_ref _).mono ?_
  rintro e w2 ⟨rfl, hb2⟩
  go_wp2
  go_ret
  exact ⟨rfl, hq1.trans (hb2.mono hq1.size)⟩
/-- The bytes of the refusal. -/
def rfB : List Int := nums ⟨#[65, 78, 82, 49]⟩ ++ be (IntKind.u64.wrap 1) 4 ++ be (IntKind.u64.wrap 5) 8 ++ be (IntKind.u64.wrap 2) 8 ++ be (IntKind.u64.wrap 6) 4 ++ be (IntKind.u64.wrap 121) 4
set_option maxHeartbeats 4000000 in
theorem rbytes_ref (w : World) : Calls Tryz.prog 55 #[rpV rfR none 0 0 none 0 0] w fun e w' => ∃ ao n c, e = .returned (.slice ao n c) ∧ Lies w' ao n c rfB ∧ Below w.heap.size w w' := by
  have hcc := Go.Joins.run_convert_bytes_const_at (P := Tryz.prog) (w.alloc (.cells #[.int .i64 rfR.client, .int .i64 rfR.seq, .int .i64 rfR.epoch, .int .i64 rfR.op, .int .i64 rfR.status, .int .i64 rfR.ai, .int .i64 rfR.ak, .int .i64 rfR.az, .int .i64 rfR.ac, .slice none 0 0, .slice none 0 0, .bool rfR.more] 30)) 22 5 #[.int .u8 65, .int .u8 78, .int .u8 82, .int .u8 49] 4 4 (w.heap.size + 1) (by simp) Tryz.underlying22 Tryz.underlying5
  have hB := RpBox.new w rfR none 0 0 none 0 0
  have hb0 := newBox (w.alloc (.cells #[.int .i64 rfR.client, .int .i64 rfR.seq, .int .i64 rfR.epoch, .int .i64 rfR.op, .int .i64 rfR.status, .int .i64 rfR.ai, .int .i64 rfR.ak, .int .i64 rfR.az, .int .i64 rfR.ac, .slice none 0 0, .slice none 0 0, .bool rfR.more] 30)) (.cells #[.int .u8 65, .int .u8 78, .int .u8 82, .int .u8 49] 5 (4, 5))
  have hL0 : Lies ((w.alloc (.cells #[.int .i64 rfR.client, .int .i64 rfR.seq, .int .i64 rfR.epoch, .int .i64 rfR.op, .int .i64 rfR.status, .int .i64 rfR.ai, .int .i64 rfR.ak, .int .i64 rfR.az, .int .i64 rfR.ac, .slice none 0 0, .slice none 0 0, .bool rfR.more] 30)).alloc (.cells #[.int .u8 65, .int .u8 78, .int .u8 82, .int .u8 49] 5 (4, 5))) (some ⟨w.heap.size + 1, 0, none⟩) 4 4 (nums ⟨#[65, 78, 82, 49]⟩) := by
    exact lies_mark (w.alloc (.cells #[.int .i64 rfR.client, .int .i64 rfR.seq, .int .i64 rfR.epoch, .int .i64 rfR.op, .int .i64 rfR.status, .int .i64 rfR.ai, .int .i64 rfR.ak, .int .i64 rfR.az, .int .i64 rfR.ac, .slice none 0 0, .slice none 0 0, .bool rfR.more] 30)) [65, 78, 82, 49] 4 rfl _ rfl (4, 5) (w.heap.size + 1) (by simp)
  have hB := RpBox.later hB hb0 (Nat.le_refl _)
  have hq : Below w.heap.size w ((w.alloc (.cells #[.int .i64 rfR.client, .int .i64 rfR.seq, .int .i64 rfR.epoch, .int .i64 rfR.op, .int .i64 rfR.status, .int .i64 rfR.ai, .int .i64 rfR.ak, .int .i64 rfR.az, .int .i64 rfR.ac, .slice none 0 0, .slice none 0 0, .bool rfR.more] 30)).alloc (.cells #[.int .u8 65, .int .u8 78, .int .u8 82, .int .u8 49] 5 (4, 5))) := (newBox w _).trans (hb0.mono (by simp))
  clear hb0
  have dla : decide ((97 : Int) ∈ nums ⟨#[]⟩) = false := by decide
  have dld : decide ((100 : Int) ∈ nums ⟨#[]⟩) = false := by decide
  have dlt : decide ((116 : Int) ∈ nums ⟨#[]⟩) = false := by decide
  go_enter Tryz.func55, Tryz.ntmps55
  go_wp2_with fail
  generalize (w.alloc (.cells #[.int .i64 rfR.client, .int .i64 rfR.seq, .int .i64 rfR.epoch, .int .i64 rfR.op, .int .i64 rfR.status, .int .i64 rfR.ai, .int .i64 rfR.ak, .int .i64 rfR.az, .int .i64 rfR.ac, .slice none 0 0, .slice none 0 0, .bool rfR.more] 30)).alloc (.cells #[.int .u8 65, .int .u8 78, .int .u8 82, .int .u8 49] 5 (4, 5)) = wA at *
  simp only [rfR] at hB
  obtain ⟨b0, b1, b2, b3, b4, b5, b6, b7, b8, b9, b10, b11⟩ := hB
  refine (ref32 _ 4 _ _ 1 _ (by omega) hL0).mono ?_
  rintro e w1 ⟨a1, c1, rfl, ho1, hb1⟩
  have hL1 := Lies.owned ho1
  have hq1 := hq.trans (hb1.mono hq.size)
  have b0 := cell_later hb1 b0 (Nat.le_refl _)
  have b1 := cell_later hb1 b1 (Nat.le_refl _)
  have b2 := cell_later hb1 b2 (Nat.le_refl _)
  have b3 := cell_later hb1 b3 (Nat.le_refl _)
  have b4 := cell_later hb1 b4 (Nat.le_refl _)
  have b5 := cell_later hb1 b5 (Nat.le_refl _)
  have b6 := cell_later hb1 b6 (Nat.le_refl _)
  have b7 := cell_later hb1 b7 (Nat.le_refl _)
  have b8 := cell_later hb1 b8 (Nat.le_refl _)
  have b9 := cell_later hb1 b9 (Nat.le_refl _)
  have b10 := cell_later hb1 b10 (Nat.le_refl _)
  have b11 := cell_later hb1 b11 (Nat.le_refl _)
  clear ho1 hb1
  go_wp2_with fail
  refine (ref64 _ 8 _ _ 5 _ (by omega) hL1).mono ?_
  rintro e w2 ⟨a2, c2, rfl, ho2, hb2⟩
  have hL2 := Lies.owned ho2
  have hq2 := hq1.trans (hb2.mono hq1.size)
  have b0 := cell_later hb2 b0 (Nat.le_refl _)
  have b1 := cell_later hb2 b1 (Nat.le_refl _)
  have b2 := cell_later hb2 b2 (Nat.le_refl _)
  have b3 := cell_later hb2 b3 (Nat.le_refl _)
  have b4 := cell_later hb2 b4 (Nat.le_refl _)
  have b5 := cell_later hb2 b5 (Nat.le_refl _)
  have b6 := cell_later hb2 b6 (Nat.le_refl _)
  have b7 := cell_later hb2 b7 (Nat.le_refl _)
  have b8 := cell_later hb2 b8 (Nat.le_refl _)
  have b9 := cell_later hb2 b9 (Nat.le_refl _)
  have b10 := cell_later hb2 b10 (Nat.le_refl _)
  have b11 := cell_later hb2 b11 (Nat.le_refl _)
  clear ho2 hb2
  go_wp2_with fail
  refine (ref64 _ 16 _ _ 2 _ (by omega) hL2).mono ?_
  rintro e w3 ⟨a3, c3, rfl, ho3, hb3⟩
  have hL3 := Lies.owned ho3
  have hq3 := hq2.trans (hb3.mono hq2.size)
  have b0 := cell_later hb3 b0 (Nat.le_refl _)
  have b1 := cell_later hb3 b1 (Nat.le_refl _)
  have b2 := cell_later hb3 b2 (Nat.le_refl _)
  have b3 := cell_later hb3 b3 (Nat.le_refl _)
  have b4 := cell_later hb3 b4 (Nat.le_refl _)
  have b5 := cell_later hb3 b5 (Nat.le_refl _)
  have b6 := cell_later hb3 b6 (Nat.le_refl _)
  have b7 := cell_later hb3 b7 (Nat.le_refl _)
  have b8 := cell_later hb3 b8 (Nat.le_refl _)
  have b9 := cell_later hb3 b9 (Nat.le_refl _)
  have b10 := cell_later hb3 b10 (Nat.le_refl _)
  have b11 := cell_later hb3 b11 (Nat.le_refl _)
  clear ho3 hb3
  go_wp2_with fail
  refine (ref32 _ 24 _ _ 6 _ (by omega) hL3).mono ?_
  rintro e w4 ⟨a4, c4, rfl, ho4, hb4⟩
  have hL4 := Lies.owned ho4
  have hq4 := hq3.trans (hb4.mono hq3.size)
  have b0 := cell_later hb4 b0 (Nat.le_refl _)
  have b1 := cell_later hb4 b1 (Nat.le_refl _)
  have b2 := cell_later hb4 b2 (Nat.le_refl _)
  have b3 := cell_later hb4 b3 (Nat.le_refl _)
  have b4 := cell_later hb4 b4 (Nat.le_refl _)
  have b5 := cell_later hb4 b5 (Nat.le_refl _)
  have b6 := cell_later hb4 b6 (Nat.le_refl _)
  have b7 := cell_later hb4 b7 (Nat.le_refl _)
  have b8 := cell_later hb4 b8 (Nat.le_refl _)
  have b9 := cell_later hb4 b9 (Nat.le_refl _)
  have b10 := cell_later hb4 b10 (Nat.le_refl _)
  have b11 := cell_later hb4 b11 (Nat.le_refl _)
  clear ho4 hb4
  go_wp2_with fail
  refine (rnum_id _ _).mono ?_
  rintro e w9 ⟨rfl, hw9⟩
  subst w9
  go_wp2_with fail
  refine (ref32 _ 28 _ _ 121 _ (by omega) hL4).mono ?_
  rintro e w5 ⟨a5, c5, rfl, ho5, hb5⟩
  have hL5 := Lies.owned ho5
  have hq5 := hq4.trans (hb5.mono hq4.size)
  have b0 := cell_later hb5 b0 (Nat.le_refl _)
  have b1 := cell_later hb5 b1 (Nat.le_refl _)
  have b2 := cell_later hb5 b2 (Nat.le_refl _)
  have b3 := cell_later hb5 b3 (Nat.le_refl _)
  have b4 := cell_later hb5 b4 (Nat.le_refl _)
  have b5 := cell_later hb5 b5 (Nat.le_refl _)
  have b6 := cell_later hb5 b6 (Nat.le_refl _)
  have b7 := cell_later hb5 b7 (Nat.le_refl _)
  have b8 := cell_later hb5 b8 (Nat.le_refl _)
  have b9 := cell_later hb5 b9 (Nat.le_refl _)
  have b10 := cell_later hb5 b10 (Nat.le_refl _)
  have b11 := cell_later hb5 b11 (Nat.le_refl _)
  clear ho5 hb5
  go_wp2_with fail
  refine (rgives_ref _).mono ?_
  rintro e w6 ⟨rfl, hb6⟩
  have hL6 := hL5.below hb6 (Nat.le_refl _)
  have hq6 := hq5.trans (hb6.mono hq5.size)
  clear hb6 b0 b1 b2 b3 b4 b5 b6 b7 b8 b9 b10 b11
  go_wp2_with (go_at_call 68; refine (rin_any _ _ _ (by decide)).mono ?_; rintro e w7 ⟨rfl, hw7⟩; subst w7; simp only [dla, dld, dlt])
  go_ret
  exact ⟨a5, _, c5, rfl, hL6, hq6⟩
theorem rfB_bys : Bys rfB := ((((nums_bys _).app (be_bys _ _)).app (be_bys _ _)).app (be_bys _ _)).app (be_bys _ _) |>.app (be_bys _ _)
set_option maxHeartbeats 1000000 in
theorem rencReply_ref (w : World) : Calls Tryz.prog 21 #[rpV rfR none 0 0 none 0 0] w fun e w' => ∃ a m k, e = .returned (.tuple #[.slice a m k, .int .i64 0]) ∧ Lies w' a m k (closeB rfB) ∧ Below w.heap.size w w' := by
  have hB0 := RpBox.new w rfR none 0 0 none 0 0
  go_enter Tryz.func21, Tryz.ntmps21
  go_wp2_with fail
  refine (rcheckReply_ref _).mono ?_
  rintro e w1 ⟨rfl, hb1⟩
  have hB1 := RpBox.later hB0 hb1 (Nat.le_refl _)
  have hq1 : Below w.heap.size w w1 := (newBox w _).trans (hb1.mono (by simp))
  obtain ⟨b0, b1, b2, b3, b4, b5, b6, b7, b8, b9, b10, b11⟩ := hB1
  clear hB0 hb1
  go_wp2_with fail
  refine (rbytes_ref _).mono ?_
  rintro e w2 ⟨a2, n2, c2, rfl, hL2, hb2⟩
  have hq2 := hq1.trans (hb2.mono hq1.size)
  have hn2 : n2 ≤ 2000 := by have h32 : rfB.length = 32 := by decide
                             have := hL2.hlen; omega
  clear b0 b1 b2 b3 b4 b5 b6 b7 b8 b9 b10 b11 hb2
  go_wp2_with fail
  refine (closed_any a2 n2 c2 rfB _ hn2 hL2 rfB_bys).mono ?_
  rintro e w3 ⟨a3, n3, c3, rfl, hL3, hb3⟩
  have hq3 := hq2.trans (hb3.mono hq2.size)
  go_wp2
  go_ret2
  exact ⟨a3, n3, c3, rfl, hL3, hq3⟩
end Go.Proofs.YtdkcplndplhblaaGreatDoor
