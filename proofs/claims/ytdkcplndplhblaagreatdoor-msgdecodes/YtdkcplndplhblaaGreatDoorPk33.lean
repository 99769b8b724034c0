/- annexref4.DecodeRequest: where opened or the header has an error; all operations. -/
import Derived.Test.YtdkcplndplhblaaGreatDoorPk29
import Derived.Test.YtdkcplndplhblaaGreatDoorPk30
import Derived.Test.YtdkcplndplhblaaGreatDoorPk31
import Derived.Test.YtdkcplndplhblaaGreatDoorPk32
import Derived.Test.YtdkcplndplhblaaGreatDoorPk28
import Derived.Test.YtdkcplndplhblaaGreatDoorPk22
import Derived.Test.YtdkcplndplhblaaGreatDoorPk12
namespace Go.Proofs.YtdkcplndplhblaaGreatDoor
open Go.RowKit
set_option maxRecDepth 100000

set_option maxHeartbeats 4000000 in
theorem rdecRq_open (ao : Option Addr) (m c : Nat) (bs : List Int) (w : World) (hL : Lies w ao m c bs) (hm : m ≤ 200000000000000) (hby : Bys bs) (E : Int) (hE : openE [65, 78, 81, 49] m bs = E) (hop : E ≠ 0) :
    Calls Tryz.prog 28 #[.slice ao m c] w fun e w' => e = .returned (.tuple #[rqV rq0 none 0 0, .int .i64 E]) ∧ Below w.heap.size w w' := by
  have hZ : QS0 w (((w.alloc (.cells #[.int .i64 0, .int .i64 0, .int .i64 0, .int .i64 0, .int .i64 0, .int .i64 0, .int .i64 0, .int .i64 0, .int .i64 0, .string ⟨#[]⟩, .string ⟨#[]⟩, .string ⟨#[]⟩, .slice none 0 0] 24)).alloc (.cells #[.int .i64 0, .int .i64 0, .int .i64 0, .int .i64 0, .int .i64 0, .int .i64 0, .int .i64 0, .int .i64 0, .int .i64 0, .string ⟨#[]⟩, .string ⟨#[]⟩, .string ⟨#[]⟩, .slice none 0 0] 24)).alloc (.cells #[.int .i64 0, .int .i64 0, .int .i64 0, .int .i64 0, .int .i64 0, .int .i64 0, .int .i64 0, .int .i64 0, .int .i64 0, .string ⟨#[]⟩, .string ⟨#[]⟩, .string ⟨#[]⟩, .slice none 0 0] 24)) := qs0 w
  go_enter Tryz.func28, Tryz.ntmps28
  go_wp2_with fail
  generalize ((w.alloc (.cells #[.int .i64 0, .int .i64 0, .int .i64 0, .int .i64 0, .int .i64 0, .int .i64 0, .int .i64 0, .int .i64 0, .int .i64 0, .string ⟨#[]⟩, .string ⟨#[]⟩, .string ⟨#[]⟩, .slice none 0 0] 24)).alloc (.cells #[.int .i64 0, .int .i64 0, .int .i64 0, .int .i64 0, .int .i64 0, .int .i64 0, .int .i64 0, .int .i64 0, .int .i64 0, .string ⟨#[]⟩, .string ⟨#[]⟩, .string ⟨#[]⟩, .slice none 0 0] 24)).alloc (.cells #[.int .i64 0, .int .i64 0, .int .i64 0, .int .i64 0, .int .i64 0, .int .i64 0, .int .i64 0, .int .i64 0, .int .i64 0, .string ⟨#[]⟩, .string ⟨#[]⟩, .string ⟨#[]⟩, .slice none 0 0] 24) = w3 at *
  refine (ropened_any ⟨#[65, 78, 81, 49]⟩ ao m c bs _ rfl (hL.below hZ.B (Nat.le_refl _)) hm hby).mono ?_
  have hE' : openE (nums ⟨#[65, 78, 81, 49]⟩) m bs = E := hE
  rintro e wo (⟨_, rfl, hbo⟩ | ⟨h0, _⟩)
  case inr => exact absurd (hE'.symm.trans h0) hop
  rw [hE']
  have hS : QE w rq0 none 0 0 wo := ⟨RqB.below hZ.res hbo, RqB.below hZ.non hbo, RqB.below hZ.r hbo, hZ.B.trans (hbo.mono hZ.B.size)⟩
  clear hZ hbo hL hE hE'
  have hcb : (E != 0) = true := by simpa using hop
  have hfin := setRq_is rq0 none 0 0 hS.res
  have hB := hS.B.grown (setRq_grown wo w.heap.size rq0 none 0 0) hS.B.size (fun k hk => by cases hk; exact Nat.le_refl _)
  obtain ⟨⟨b0, b1, b2, b3, b4, b5, b6, b7, b8, b9, b10, b11, b12⟩, bf⟩ := hS.res.c
  obtain ⟨⟨d0, d1, d2, d3, d4, d5, d6, d7, d8, d9, d10, d11, d12⟩, df⟩ := hS.non.c
  go_wp2
  refine bodyPost_ret (RqB.res rfl _ rfl hfin) rfl ?_
  exact ⟨rfl, hB⟩

set_option maxHeartbeats 8000000 in
theorem rdecRq_head (ao : Option Addr) (m c : Nat) (bs : List Int) (w : World) (hL : Lies w ao m c bs) (hm : m ≤ 200000000000000) (hby : Bys bs) (hop : openE [65, 78, 81, 49] m bs = 0) (k : Nat) (cs : List Int) (hk : k = m - 12) (hcs : cs = (bs.drop 4).take (m - 12)) (V1 V2 V3 V4 V5 : Int × Nat × Int) (h1 : rdNum 4 k cs 0 0 4294967295 = V1) (h2 : rdNum 8 k cs V1.2.1 V1.2.2 9223372036854775807 = V2) (h3 : rdNum 8 k cs V2.2.1 V2.2.2 9223372036854775807 = V3) (h4 : rdNum 8 k cs V3.2.1 V3.2.2 9223372036854775807 = V4) (h5 : rdNum 4 k cs V4.2.1 V4.2.2 4294967295 = V5) (hbad : V5.2.2 ≠ 0 ∨ rqHeadE (⟨V1.1, V2.1, V3.1, V4.1, V5.1, 0, 0, 0, 0, ⟨#[]⟩, ⟨#[]⟩, ⟨#[]⟩, []⟩ : Req) ≠ 0) :
    Calls Tryz.prog 28 #[.slice ao m c] w fun e w' => RqOut w k cs e w' := by
  have T1 : rqH k cs = ([(0, .small V1.1), (1, .great V2.1), (2, .great V3.1), (3, .great V4.1), (4, .small V5.1)], V5.2) := by
    simp only [rqH, rqHead, takeL, takeV, h1, h2, h3, h4, h5]
  have T2 : rq1 k cs = (⟨V1.1, V2.1, V3.1, V4.1, V5.1, 0, 0, 0, 0, ⟨#[]⟩, ⟨#[]⟩, ⟨#[]⟩, []⟩ : Req) := by unfold rq1; rw [T1]; rfl
  have HT : Hid (rqTE k cs = (if ¬ V5.2.2 = 0 then V5.2.2 else if ¬ rqHeadE (⟨V1.1, V2.1, V3.1, V4.1, V5.1, 0, 0, 0, 0, ⟨#[]⟩, ⟨#[]⟩, ⟨#[]⟩, []⟩ : Req) = 0 then rqHeadE (⟨V1.1, V2.1, V3.1, V4.1, V5.1, 0, 0, 0, 0, ⟨#[]⟩, ⟨#[]⟩, ⟨#[]⟩, []⟩ : Req) else if ¬ lastE k cs (rqG (⟨V1.1, V2.1, V3.1, V4.1, V5.1, 0, 0, 0, 0, ⟨#[]⟩, ⟨#[]⟩, ⟨#[]⟩, []⟩ : Req)) V5.2 = 0 then lastE k cs (rqG (⟨V1.1, V2.1, V3.1, V4.1, V5.1, 0, 0, 0, 0, ⟨#[]⟩, ⟨#[]⟩, ⟨#[]⟩, []⟩ : Req)) V5.2 else rqJE (rq2 k cs))) := by
    show _ = _
    unfold rqTE
    rw [T2, T1]
  clear T1 T2
  have HX : Hid (V5.2.2 ≠ 0 ∨ rqHeadE (⟨V1.1, V2.1, V3.1, V4.1, V5.1, 0, 0, 0, 0, ⟨#[]⟩, ⟨#[]⟩, ⟨#[]⟩, []⟩ : Req) ≠ 0) := hbad
  have H1 : Hid _ := h1
  have H2 : Hid _ := h2
  have H3 : Hid _ := h3
  have H4 : Hid _ := h4
  have H5 : Hid _ := h5
  clear h1 h2 h3 h4 h5 hbad
  have hZ : QS0 w (((w.alloc (.cells #[.int .i64 0, .int .i64 0, .int .i64 0, .int .i64 0, .int .i64 0, .int .i64 0, .int .i64 0, .int .i64 0, .int .i64 0, .string ⟨#[]⟩, .string ⟨#[]⟩, .string ⟨#[]⟩, .slice none 0 0] 24)).alloc (.cells #[.int .i64 0, .int .i64 0, .int .i64 0, .int .i64 0, .int .i64 0, .int .i64 0, .int .i64 0, .int .i64 0, .int .i64 0, .string ⟨#[]⟩, .string ⟨#[]⟩, .string ⟨#[]⟩, .slice none 0 0] 24)).alloc (.cells #[.int .i64 0, .int .i64 0, .int .i64 0, .int .i64 0, .int .i64 0, .int .i64 0, .int .i64 0, .int .i64 0, .int .i64 0, .string ⟨#[]⟩, .string ⟨#[]⟩, .string ⟨#[]⟩, .slice none 0 0] 24)) := qs0 w
  have hm2 := openE_le hop hL.hlen
  go_enter Tryz.func28, Tryz.ntmps28
  go_wp2_with fail
  generalize ((w.alloc (.cells #[.int .i64 0, .int .i64 0, .int .i64 0, .int .i64 0, .int .i64 0, .int .i64 0, .int .i64 0, .int .i64 0, .int .i64 0, .string ⟨#[]⟩, .string ⟨#[]⟩, .string ⟨#[]⟩, .slice none 0 0] 24)).alloc (.cells #[.int .i64 0, .int .i64 0, .int .i64 0, .int .i64 0, .int .i64 0, .int .i64 0, .int .i64 0, .int .i64 0, .int .i64 0, .string ⟨#[]⟩, .string ⟨#[]⟩, .string ⟨#[]⟩, .slice none 0 0] 24)).alloc (.cells #[.int .i64 0, .int .i64 0, .int .i64 0, .int .i64 0, .int .i64 0, .int .i64 0, .int .i64 0, .int .i64 0, .int .i64 0, .string ⟨#[]⟩, .string ⟨#[]⟩, .string ⟨#[]⟩, .slice none 0 0] 24) = w3 at *
  refine (ropened_any ⟨#[65, 78, 81, 49]⟩ ao m c bs _ rfl (hL.below hZ.B (Nat.le_refl _)) hm hby).mono ?_
  rintro e wo (⟨hno, _⟩ | ⟨_, rb, ar, cr, rfl, hR, hrb, har, hbo⟩)
  · exact absurd hop hno
  have hS : QS w rb ar cr k cs (0, 0) rq0 none 0 0 wo := hZ.open hR hrb har hbo hk hcs hby hm2
  clear hZ hR hrb har hbo hop hL
  go_wp2_with fail
  refine (v_u32 hS.dr H1.out).mono ?_
  rintro e w11 ⟨rfl, hd, hg⟩
  have hS := hS.read hd hg
  clear hd hg
  obtain ⟨⟨b0, b1, b2, b3, b4, b5, b6, b7, b8, b9, b10, b11, b12⟩, bf⟩ := hS.r.c
  have hS := hS.put (s' := ⟨V1.1, 0, 0, 0, 0, 0, 0, 0, 0, ⟨#[]⟩, ⟨#[]⟩, ⟨#[]⟩, []⟩) (do2 := none) (dn2 := 0) (dc2 := 0) (j := 0) (u := .int .i64 V1.1) (by rw [RqB, heap_setCell_same _ _ _ _ _ _ hS.r]; rfl)
  go_wp2_with fail
  clear b0 b1 b2 b3 b4 b5 b6 b7 b8 b9 b10 b11 b12 bf
  refine (v_u64 hS.dr H2.out).mono ?_
  rintro e w12 ⟨rfl, hd, hg⟩
  have hS := hS.read hd hg
  clear hd hg
  obtain ⟨⟨b0, b1, b2, b3, b4, b5, b6, b7, b8, b9, b10, b11, b12⟩, bf⟩ := hS.r.c
  have hS := hS.put (s' := ⟨V1.1, V2.1, 0, 0, 0, 0, 0, 0, 0, ⟨#[]⟩, ⟨#[]⟩, ⟨#[]⟩, []⟩) (do2 := none) (dn2 := 0) (dc2 := 0) (j := 1) (u := .int .i64 V2.1) (by rw [RqB, heap_setCell_same _ _ _ _ _ _ hS.r]; rfl)
  go_wp2_with fail
  clear b0 b1 b2 b3 b4 b5 b6 b7 b8 b9 b10 b11 b12 bf
  refine (v_u64 hS.dr H3.out).mono ?_
  rintro e w13 ⟨rfl, hd, hg⟩
  have hS := hS.read hd hg
  clear hd hg
  obtain ⟨⟨b0, b1, b2, b3, b4, b5, b6, b7, b8, b9, b10, b11, b12⟩, bf⟩ := hS.r.c
  have hS := hS.put (s' := ⟨V1.1, V2.1, V3.1, 0, 0, 0, 0, 0, 0, ⟨#[]⟩, ⟨#[]⟩, ⟨#[]⟩, []⟩) (do2 := none) (dn2 := 0) (dc2 := 0) (j := 2) (u := .int .i64 V3.1) (by rw [RqB, heap_setCell_same _ _ _ _ _ _ hS.r]; rfl)
  go_wp2_with fail
  clear b0 b1 b2 b3 b4 b5 b6 b7 b8 b9 b10 b11 b12 bf
  refine (v_u64 hS.dr H4.out).mono ?_
  rintro e w14 ⟨rfl, hd, hg⟩
  have hS := hS.read hd hg
  clear hd hg
  obtain ⟨⟨b0, b1, b2, b3, b4, b5, b6, b7, b8, b9, b10, b11, b12⟩, bf⟩ := hS.r.c
  have hS := hS.put (s' := ⟨V1.1, V2.1, V3.1, V4.1, 0, 0, 0, 0, 0, ⟨#[]⟩, ⟨#[]⟩, ⟨#[]⟩, []⟩) (do2 := none) (dn2 := 0) (dc2 := 0) (j := 3) (u := .int .i64 V4.1) (by rw [RqB, heap_setCell_same _ _ _ _ _ _ hS.r]; rfl)
  go_wp2_with fail
  clear b0 b1 b2 b3 b4 b5 b6 b7 b8 b9 b10 b11 b12 bf
  refine (v_u32 hS.dr H5.out).mono ?_
  rintro e w15 ⟨rfl, hd, hg⟩
  have hS := hS.read hd hg
  clear hd hg
  obtain ⟨⟨b0, b1, b2, b3, b4, b5, b6, b7, b8, b9, b10, b11, b12⟩, bf⟩ := hS.r.c
  have hS := hS.put (s' := ⟨V1.1, V2.1, V3.1, V4.1, V5.1, 0, 0, 0, 0, ⟨#[]⟩, ⟨#[]⟩, ⟨#[]⟩, []⟩) (do2 := none) (dn2 := 0) (dc2 := 0) (j := 4) (u := .int .i64 V5.1) (by rw [RqB, heap_setCell_same _ _ _ _ _ _ hS.r]; rfl)
  go_wp2_with fail
  clear b0 b1 b2 b3 b4 b5 b6 b7 b8 b9 b10 b11 b12 bf
  refine (d_err hS.dr).mono ?_
  rintro e we ⟨rfl, hb⟩
  have hS := hS.below hb
  clear hb
  by_cases hv : V5.2.2 = 0
  case neg =>
    have hcb : (V5.2.2 != 0) = true := by simpa using hv
    have HN : Hid (¬ V5.2.2 = 0) := hv
    clear hv
    have hfin := setRq_is rq0 none 0 0 hS.res
    have hB := hS.B.grown (setRq_grown we w.heap.size rq0 none 0 0) hS.B.size (fun k hk => by cases hk; exact Nat.le_refl _)
    obtain ⟨⟨b0, b1, b2, b3, b4, b5, b6, b7, b8, b9, b10, b11, b12⟩, bf⟩ := hS.res.c
    obtain ⟨⟨d0, d1, d2, d3, d4, d5, d6, d7, d8, d9, d10, d11, d12⟩, df⟩ := hS.non.c
    go_wp2
    refine bodyPost_ret (RqB.res rfl _ rfl hfin) rfl ?_
    have hE : rqTE k cs = V5.2.2 := by rw [HT.out, if_pos HN.out]
    exact ⟨rq0, none, 0, 0, by rw [hE]; rfl, by rw [hE, if_neg HN.out], Lies.nil _, hB⟩
  have HV5 : Hid (V5.2.2 = 0) := hv
  rw [hv]
  clear hv
  obtain ⟨⟨b0, b1, b2, b3, b4, b5, b6, b7, b8, b9, b10, b11, b12⟩, bf⟩ := hS.r.c
  go_wp2_with fail
  clear b0 b1 b2 b3 b4 b5 b6 b7 b8 b9 b10 b11 b12 bf
  refine (rhead_any (⟨V1.1, V2.1, V3.1, V4.1, V5.1, 0, 0, 0, 0, ⟨#[]⟩, ⟨#[]⟩, ⟨#[]⟩, []⟩ : Req) none 0 0 _).mono ?_
  rintro e wf ⟨rfl, hb⟩
  have hS := hS.below hb
  clear hb
  obtain ⟨J, hJ⟩ : ∃ J, rqHeadE (⟨V1.1, V2.1, V3.1, V4.1, V5.1, 0, 0, 0, 0, ⟨#[]⟩, ⟨#[]⟩, ⟨#[]⟩, []⟩ : Req) = J := ⟨_, rfl⟩
  rw [hJ]
  have hj : J ≠ 0 := by
    rcases HX.out with h | h
    · exact absurd HV5.out h
    · rw [← hJ]; exact h
  have HJ : Hid (rqHeadE (⟨V1.1, V2.1, V3.1, V4.1, V5.1, 0, 0, 0, 0, ⟨#[]⟩, ⟨#[]⟩, ⟨#[]⟩, []⟩ : Req) = J ∧ ¬ J = 0) := ⟨hJ, hj⟩
  clear hJ
  have hcb : (J != 0) = true := by simpa using hj
  clear hj
  have hfin := setRq_is rq0 none 0 0 hS.res
  have hB := hS.B.grown (setRq_grown wf w.heap.size rq0 none 0 0) hS.B.size (fun k hk => by cases hk; exact Nat.le_refl _)
  obtain ⟨⟨b0, b1, b2, b3, b4, b5, b6, b7, b8, b9, b10, b11, b12⟩, bf⟩ := hS.res.c
  obtain ⟨⟨d0, d1, d2, d3, d4, d5, d6, d7, d8, d9, d10, d11, d12⟩, df⟩ := hS.non.c
  go_wp2
  refine bodyPost_ret (RqB.res rfl _ rfl hfin) rfl ?_
  have hE : rqTE k cs = J := by rw [HT.out, if_neg (by simpa using HV5.out), HJ.out.1, if_pos HJ.out.2]
  exact ⟨rq0, none, 0, 0, by rw [hE]; rfl, by rw [hE, if_neg HJ.out.2], Lies.nil _, hB⟩

theorem rdecRq_any (ao : Option Addr) (m c : Nat) (bs : List Int) (w : World) (hL : Lies w ao m c bs) (hm : m ≤ 200000000000000) (hby : Bys bs) :
    Calls Tryz.prog 28 #[.slice ao m c] w fun e w' => ∃ s bo n d, e = .returned (.tuple #[rqV s bo n d, .int .i64 (rqDE bs)]) ∧ s = rqD bs ∧ Lies w' bo n d s.data ∧ Below w.heap.size w w' := by
  have hl := hL.hlen
  by_cases hop : openE [65, 78, 81, 49] m bs = 0
  case neg =>
    have e1 : rqDE bs = openE [65, 78, 81, 49] m bs := by unfold rqDE; rw [hl, if_pos hop]
    refine (rdecRq_open ao m c bs w hL hm hby _ rfl hop).mono ?_
    rintro e w' ⟨rfl, hb⟩
    exact ⟨rq0, none, 0, 0, by rw [e1], by unfold rqD; rw [e1, if_neg hop], Lies.nil _, hb⟩
  have e1 : rqDE bs = rqTE (m - 12) ((bs.drop 4).take (m - 12)) := by unfold rqDE; rw [hl, if_neg (by simpa using hop)]
  have key : Calls Tryz.prog 28 #[.slice ao m c] w fun e w' => RqOut w (m - 12) ((bs.drop 4).take (m - 12)) e w' := by
    obtain ⟨k, hk⟩ : ∃ k, k = m - 12 := ⟨_, rfl⟩
    obtain ⟨cs, hcs⟩ : ∃ cs, cs = (bs.drop 4).take (m - 12) := ⟨_, rfl⟩
    rw [← hcs, ← hk]
    obtain ⟨V1, h1⟩ : ∃ V, rdNum 4 k cs 0 0 4294967295 = V := ⟨_, rfl⟩
    obtain ⟨V2, h2⟩ : ∃ V, rdNum 8 k cs V1.2.1 V1.2.2 9223372036854775807 = V := ⟨_, rfl⟩
    obtain ⟨V3, h3⟩ : ∃ V, rdNum 8 k cs V2.2.1 V2.2.2 9223372036854775807 = V := ⟨_, rfl⟩
    obtain ⟨V4, h4⟩ : ∃ V, rdNum 8 k cs V3.2.1 V3.2.2 9223372036854775807 = V := ⟨_, rfl⟩
    obtain ⟨V5, h5⟩ : ∃ V, rdNum 4 k cs V4.2.1 V4.2.2 4294967295 = V := ⟨_, rfl⟩
    by_cases hbad : V5.2.2 ≠ 0 ∨ rqHeadE (⟨V1.1, V2.1, V3.1, V4.1, V5.1, 0, 0, 0, 0, ⟨#[]⟩, ⟨#[]⟩, ⟨#[]⟩, []⟩ : Req) ≠ 0
    · exact rdecRq_head ao m c bs w hL hm hby hop k cs hk hcs V1 V2 V3 V4 V5 h1 h2 h3 h4 h5 hbad
    have hv : V5.2.2 = 0 := Classical.byContradiction fun h => hbad (.inl h)
    have hH : rqHeadE (⟨V1.1, V2.1, V3.1, V4.1, V5.1, 0, 0, 0, 0, ⟨#[]⟩, ⟨#[]⟩, ⟨#[]⟩, []⟩ : Req) = 0 := Classical.byContradiction fun h => hbad (.inr h)
    clear hbad
    obtain ⟨op, p5, q5⟩ := V5
    simp only at hv hH
    subst hv
    have ho := inB_true (rqHead_op hH)
    simp only at ho
    have hc : op = 1 ∨ op = 2 ∨ op = 3 ∨ op = 4 ∨ op = 5 ∨ op = 6 ∨ op = 7 ∨ op = 8 ∨ op = 9 ∨ op = 10 := by omega
    rcases hc with rfl | rfl | rfl | rfl | rfl | rfl | rfl | rfl | rfl | rfl
    · exact rdecRq_1 ao m c bs w hL hm hby hop k cs hk hcs V1 V2 V3 V4 p5 _ h1 h2 h3 h4 h5 hH rfl
    · exact rdecRq_2 ao m c bs w hL hm hby hop k cs hk hcs V1 V2 V3 V4 p5 _ h1 h2 h3 h4 h5 hH rfl
    · exact rdecRq_3 ao m c bs w hL hm hby hop k cs hk hcs V1 V2 V3 V4 p5 _ _ _ h1 h2 h3 h4 h5 hH rfl rfl rfl
    · exact rdecRq_4 ao m c bs w hL hm hby hop k cs hk hcs V1 V2 V3 V4 p5 _ _ _ h1 h2 h3 h4 h5 hH rfl rfl rfl
    · exact rdecRq_5 ao m c bs w hL hm hby hop k cs hk hcs V1 V2 V3 V4 p5 _ _ h1 h2 h3 h4 h5 hH rfl rfl
    · exact rdecRq_6 ao m c bs w hL hm hby hop k cs hk hcs V1 V2 V3 V4 p5 _ _ h1 h2 h3 h4 h5 hH rfl rfl
    · exact rdecRq_7 ao m c bs w hL hm hby hop k cs hk hcs V1 V2 V3 V4 p5 _ _ h1 h2 h3 h4 h5 hH rfl rfl
    · exact rdecRq_8 ao m c bs w hL hm hby hop k cs hk hcs V1 V2 V3 V4 p5 _ _ h1 h2 h3 h4 h5 hH rfl rfl
    · exact rdecRq_9 ao m c bs w hL hm hby hop k cs hk hcs V1 V2 V3 V4 p5 _ _ _ _ h1 h2 h3 h4 h5 hH rfl rfl rfl rfl
    · exact rdecRq_10 ao m c bs w hL hm hby hop k cs hk hcs V1 V2 V3 V4 p5 _ _ _ h1 h2 h3 h4 h5 hH rfl rfl rfl
  refine key.mono ?_
  rintro e w' ⟨s, bo, n, d, rfl, hs, hl2, hb⟩
  refine ⟨s, bo, n, d, by rw [e1], ?_, hl2, hb⟩
  rw [hs]
  unfold rqD
  rw [e1, hl]
end Go.Proofs.YtdkcplndplhblaaGreatDoor

/- The document's reader and a reply that is read by it. -/
namespace Go.Proofs.YtdkcplndplhblaaGreatDoor
open Go.RowKit
set_option maxRecDepth 100000

/-- What DecodeReply leaves behind opened. -/
def RpOut (w : World) (k : Nat) (cs : List Int) (e : Ending) (w' : World) : Prop :=
  ∃ s bo n d lo ln lc, e = .returned (.tuple #[rpV s bo n d lo ln lc, .int .i64 (rpTE k cs)]) ∧ s = (if rpTE k cs = 0 then rp2 k cs else rp0) ∧ Lies w' bo n d s.data ∧ CLies w' lo ln lc 3 (entCells s.list) ∧ s.list.length = ln ∧ Below w.heap.size w w'
/-- What lies there while a reply is read. -/
structure PS (w : World) (rb : Nat) (ao : Option Addr) (cap n : Nat) (bs : List Int) (st : Nat × Int) (s : Rep) (do' : Option Addr) (dn dc : Nat) (lo : Option Addr) (ln lc : Nat) (wr : World) : Prop where
  res : RpB wr w.heap.size rp0 none 0 0 none 0 0
  non : RpB wr (w.heap.size + 1) rp0 none 0 0 none 0 0
  r : RpB wr (w.heap.size + 2) s do' dn dc lo ln lc
  dr : DR wr rb ao cap n bs st
  hrb : w.heap.size + 3 ≤ rb
  har : ∀ ad, ao = some ad → w.heap.size + 3 ≤ ad.block
  B : Below w.heap.size w wr
theorem PS.read {w : World} {rb : Nat} {ao : Option Addr} {cap n : Nat} {bs : List Int} {st st' : Nat × Int} {s : Rep} {do' : Option Addr} {dn dc : Nat} {lo : Option Addr} {ln lc : Nat} {wr w' : World} (h : PS w rb ao cap n bs st s do' dn dc lo ln lc wr) (hd : DR w' rb ao cap n bs st') (hg : wr.grownBy w' (some rb)) : PS w rb ao cap n bs st' s do' dn dc lo ln lc w' :=
  ⟨RpB.row h.res hg (by have := h.hrb; omega), RpB.row h.non hg (by have := h.hrb; omega), RpB.row h.r hg (by have := h.hrb; omega), hd, h.hrb, h.har, h.B.grown hg h.B.size (fun k hk => by cases hk; have := h.hrb; omega)⟩
theorem PS.below {w : World} {rb : Nat} {ao : Option Addr} {cap n : Nat} {bs : List Int} {st : Nat × Int} {s : Rep} {do' : Option Addr} {dn dc : Nat} {lo : Option Addr} {ln lc : Nat} {wr w' : World} (h : PS w rb ao cap n bs st s do' dn dc lo ln lc wr) (hb : Below wr.heap.size wr w') : PS w rb ao cap n bs st s do' dn dc lo ln lc w' :=
  ⟨RpB.below h.res hb, RpB.below h.non hb, RpB.below h.r hb, h.dr.below hb, h.hrb, h.har, h.B.trans (hb.mono h.B.size)⟩
theorem PS.put {w : World} {rb : Nat} {ao : Option Addr} {cap n : Nat} {bs : List Int} {st : Nat × Int} {s s' : Rep} {do' do2 : Option Addr} {dn dc dn2 dc2 : Nat} {lo lo2 : Option Addr} {ln lc ln2 lc2 j : Nat} {u : Value} {wr : World} (h : PS w rb ao cap n bs st s do' dn dc lo ln lc wr) (hs : RpB (wr.setCell ⟨w.heap.size + 2, j, none⟩ u) (w.heap.size + 2) s' do2 dn2 dc2 lo2 ln2 lc2) : PS w rb ao cap n bs st s' do2 dn2 dc2 lo2 ln2 lc2 (wr.setCell ⟨w.heap.size + 2, j, none⟩ u) :=
  ⟨RpB.row h.res (grown_setCell _ _ _ _) (by omega), RpB.row h.non (grown_setCell _ _ _ _) (by omega), hs, h.dr.set (by have := h.hrb; omega) (fun ad had => by have := h.har ad had; omega), h.hrb, h.har, h.B.grown (grown_setCell _ _ _ _) h.B.size (fun k hk => by cases hk; omega)⟩
/-- The three boxes of DecodeReply. -/
structure PS0 (w : World) (wr : World) : Prop where
  res : RpB wr w.heap.size rp0 none 0 0 none 0 0
  non : RpB wr (w.heap.size + 1) rp0 none 0 0 none 0 0
  r : RpB wr (w.heap.size + 2) rp0 none 0 0 none 0 0
  sz : w.heap.size + 3 ≤ wr.heap.size
  B : Below w.heap.size w wr
theorem ps0 (w : World) : PS0 w (((w.alloc (.cells #[.int .i64 0, .int .i64 0, .int .i64 0, .int .i64 0, .int .i64 0, .int .i64 0, .int .i64 0, .int .i64 0, .int .i64 0, .slice none 0 0, .slice none 0 0, .bool false] 30)).alloc (.cells #[.int .i64 0, .int .i64 0, .int .i64 0, .int .i64 0, .int .i64 0, .int .i64 0, .int .i64 0, .int .i64 0, .int .i64 0, .slice none 0 0, .slice none 0 0, .bool false] 30)).alloc (.cells #[.int .i64 0, .int .i64 0, .int .i64 0, .int .i64 0, .int .i64 0, .int .i64 0, .int .i64 0, .int .i64 0, .int .i64 0, .slice none 0 0, .slice none 0 0, .bool false] 30)) := by
  have e1 : (w.alloc (.cells #[.int .i64 0, .int .i64 0, .int .i64 0, .int .i64 0, .int .i64 0, .int .i64 0, .int .i64 0, .int .i64 0, .int .i64 0, .slice none 0 0, .slice none 0 0, .bool false] 30)).heap.size = w.heap.size + 1 := by simp
  have e2 : ((w.alloc (.cells #[.int .i64 0, .int .i64 0, .int .i64 0, .int .i64 0, .int .i64 0, .int .i64 0, .int .i64 0, .int .i64 0, .int .i64 0, .slice none 0 0, .slice none 0 0, .bool false] 30)).alloc (.cells #[.int .i64 0, .int .i64 0, .int .i64 0, .int .i64 0, .int .i64 0, .int .i64 0, .int .i64 0, .int .i64 0, .int .i64 0, .slice none 0 0, .slice none 0 0, .bool false] 30)).heap.size = w.heap.size + 2 := by simp
  have a2 := heap_alloc_new (w.alloc (.cells #[.int .i64 0, .int .i64 0, .int .i64 0, .int .i64 0, .int .i64 0, .int .i64 0, .int .i64 0, .int .i64 0, .int .i64 0, .slice none 0 0, .slice none 0 0, .bool false] 30)) (.cells #[.int .i64 0, .int .i64 0, .int .i64 0, .int .i64 0, .int .i64 0, .int .i64 0, .int .i64 0, .int .i64 0, .int .i64 0, .slice none 0 0, .slice none 0 0, .bool false] 30)
  have a3 := heap_alloc_new ((w.alloc (.cells #[.int .i64 0, .int .i64 0, .int .i64 0, .int .i64 0, .int .i64 0, .int .i64 0, .int .i64 0, .int .i64 0, .int .i64 0, .slice none 0 0, .slice none 0 0, .bool false] 30)).alloc (.cells #[.int .i64 0, .int .i64 0, .int .i64 0, .int .i64 0, .int .i64 0, .int .i64 0, .int .i64 0, .int .i64 0, .int .i64 0, .slice none 0 0, .slice none 0 0, .bool false] 30)) (.cells #[.int .i64 0, .int .i64 0, .int .i64 0, .int .i64 0, .int .i64 0, .int .i64 0, .int .i64 0, .int .i64 0, .int .i64 0, .slice none 0 0, .slice none 0 0, .bool false] 30)
  rw [e1] at a2
  rw [e2] at a3
  refine ⟨?_, ?_, a3, by simp, (box2 w (.cells #[.int .i64 0, .int .i64 0, .int .i64 0, .int .i64 0, .int .i64 0, .int .i64 0, .int .i64 0, .int .i64 0, .int .i64 0, .slice none 0 0, .slice none 0 0, .bool false] 30) (.cells #[.int .i64 0, .int .i64 0, .int .i64 0, .int .i64 0, .int .i64 0, .int .i64 0, .int .i64 0, .int .i64 0, .int .i64 0, .slice none 0 0, .slice none 0 0, .bool false] 30)).alloc (box2 w (.cells #[.int .i64 0, .int .i64 0, .int .i64 0, .int .i64 0, .int .i64 0, .int .i64 0, .int .i64 0, .int .i64 0, .int .i64 0, .slice none 0 0, .slice none 0 0, .bool false] 30) (.cells #[.int .i64 0, .int .i64 0, .int .i64 0, .int .i64 0, .int .i64 0, .int .i64 0, .int .i64 0, .int .i64 0, .int .i64 0, .slice none 0 0, .slice none 0 0, .bool false] 30)).size _⟩
  · rw [RpB, Below.heap_alloc _ _ _ (by simp; omega), Below.heap_alloc _ _ _ (by simp)]; exact heap_alloc_new _ _
  · rw [RpB, Below.heap_alloc _ _ _ (by simp)]; exact a2
theorem PS0.open {w w3 wo : World} {rb : Nat} {ar : Option Addr} {cr k m : Nat} {cs bs : List Int} (h : PS0 w w3) (hR : RdD wo rb ar (m - 12) cr 0 0 ((bs.drop 4).take (m - 12))) (hrb : w3.heap.size ≤ rb) (har : ∀ ad, ar = some ad → w3.heap.size ≤ ad.block) (hb : Below w3.heap.size w3 wo) (hk : k = m - 12) (hcs : cs = (bs.drop 4).take (m - 12)) (hby : Bys bs) (hm : m ≤ 1400) : PS w rb ar cr k cs (0, 0) rp0 none 0 0 none 0 0 wo := by
  have hs := h.sz
  subst hk hcs
  exact ⟨RpB.below h.res hb, RpB.below h.non hb, RpB.below h.r hb, ⟨hR, by omega, by omega, take_bys (drop_bys hby 4) _⟩, by omega, fun ad had => by have := har ad had; omega, h.B.trans (hb.mono h.B.size)⟩
/-- Behind Close the reader is not looked at any more. -/
structure PE (w : World) (s : Rep) (do' : Option Addr) (dn dc : Nat) (lo : Option Addr) (ln lc : Nat) (wr : World) : Prop where
  res : RpB wr w.heap.size rp0 none 0 0 none 0 0
  non : RpB wr (w.heap.size + 1) rp0 none 0 0 none 0 0
  r : RpB wr (w.heap.size + 2) s do' dn dc lo ln lc
  B : Below w.heap.size w wr
theorem PS.shut {w : World} {rb : Nat} {ao : Option Addr} {cap n : Nat} {bs : List Int} {st : Nat × Int} {s : Rep} {do' : Option Addr} {dn dc : Nat} {lo : Option Addr} {ln lc : Nat} {wr w' : World} (h : PS w rb ao cap n bs st s do' dn dc lo ln lc wr) (hg : wr.grownBy w' (some rb)) : PE w s do' dn dc lo ln lc w' :=
  ⟨RpB.row h.res hg (by have := h.hrb; omega), RpB.row h.non hg (by have := h.hrb; omega), RpB.row h.r hg (by have := h.hrb; omega), h.B.grown hg h.B.size (fun k hk => by cases hk; have := h.hrb; omega)⟩
theorem PE.below {w : World} {s : Rep} {do' : Option Addr} {dn dc : Nat} {lo : Option Addr} {ln lc : Nat} {wr w' : World} (h : PE w s do' dn dc lo ln lc wr) (hb : Below wr.heap.size wr w') : PE w s do' dn dc lo ln lc w' :=
  ⟨RpB.below h.res hb, RpB.below h.non hb, RpB.below h.r hb, h.B.trans (hb.mono h.B.size)⟩
theorem rp_cells (s : Rep) (ao : Option Addr) (n c : Nat) (lo : Option Addr) (ln lc : Nat) (o : Nat) (v : Int) : (#[.int .i64 s.client, .int .i64 s.seq, .int .i64 s.epoch, .int .i64 s.op, .int .i64 s.status, .int .i64 s.ai, .int .i64 s.ak, .int .i64 s.az, .int .i64 s.ac, .slice ao n c, .slice lo ln lc, .bool s.more] : Array Value)[o]? ≠ some (.int .u8 v) := by
  intro h
  match o, h with
  | 0, h => simp at h
  | 1, h => simp at h
  | 2, h => simp at h
  | 3, h => simp at h
  | 4, h => simp at h
  | 5, h => simp at h
  | 6, h => simp at h
  | 7, h => simp at h
  | 8, h => simp at h
  | 9, h => simp at h
  | 10, h => simp at h
  | 11, h => simp at h
  | o + 12, h => simp at h
theorem Lies.rp {w : World} {ao bo : Option Addr} {k c q n d j : Nat} {lo : Option Addr} {ln lc : Nat} {zs : List Int} {s : Rep} {u : Value} (h : Lies w ao k c zs) (hq : RpB w q s bo n d lo ln lc) : Lies (w.setCell ⟨q, j, none⟩ u) ao k c zs := h.past hq (rp_cells s bo n d lo ln lc) (grown_setCell _ _ _ _)
theorem Lies.rps {w : World} {ao bo co : Option Addr} {k c q n d n2 d2 : Nat} {lo lo2 : Option Addr} {ln lc ln2 lc2 : Nat} {zs : List Int} {s r : Rep} (h : Lies w ao k c zs) (hq : RpB w q s bo n d lo ln lc) : Lies (setRp w q r co n2 d2 lo2 ln2 lc2) ao k c zs := h.past hq (rp_cells s bo n d lo ln lc) (setRp_grown _ _ _ _ _ _ _ _ _)
end Go.Proofs.YtdkcplndplhblaaGreatDoor

/- What is read of a reply. -/
namespace Go.Proofs.YtdkcplndplhblaaGreatDoor
open Go.RowKit
set_option maxRecDepth 100000

theorem rpT_e (k : Nat) (cs : List Int) (V1 V2 V3 V4 : Int × Nat × Int) (st : Int) (p5 : Nat)  (h1 : rdNum 4 k cs 0 0 4294967295 = V1) (h2 : rdNum 8 k cs V1.2.1 V1.2.2 9223372036854775807 = V2) (h3 : rdNum 8 k cs V2.2.1 V2.2.2 9223372036854775807 = V3) (h4 : rdNum 4 k cs V3.2.1 V3.2.2 4294967295 = V4) (h5 : rdNum 4 k cs V4.2.1 V4.2.2 4294967295 = (st, p5, 0)) (hH : rpHeadE (⟨V1.1, V2.1, V3.1, V4.1, st, 0, 0, 0, 0, [], [], false⟩ : Rep) = 0) (hh : hasRp V4.1 st = [])  :
    rpTE k cs = (if ¬ rdClose k p5 (0 : Int) = 0 then rdClose k p5 (0 : Int) else rpBodyE (⟨V1.1, V2.1, V3.1, V4.1, st, 0, 0, 0, 0, [], [], false⟩ : Rep)) ∧ rp2 k cs = (⟨V1.1, V2.1, V3.1, V4.1, st, 0, 0, 0, 0, [], [], false⟩ : Rep) := by
  have T1 : rpH k cs = ([(0, .small V1.1), (1, .great V2.1), (3, .great V3.1), (4, .small V4.1), (5, .small st)], (p5, 0)) := by
    simp only [rpH, rpHead, takeL, takeV, h1, h2, h3, h4, h5]
  have T2 : rp1 k cs = (⟨V1.1, V2.1, V3.1, V4.1, st, 0, 0, 0, 0, [], [], false⟩ : Rep) := by unfold rp1; rw [T1]; rfl
  have TG : rpG (⟨V1.1, V2.1, V3.1, V4.1, st, 0, 0, 0, 0, [], [], false⟩ : Rep) = [] := by unfold rpG; simp only [hh]; rfl
  have T3 : takeL k cs (rpG (⟨V1.1, V2.1, V3.1, V4.1, st, 0, 0, 0, 0, [], [], false⟩ : Rep)) (p5, 0) = ([], (p5, 0)) := by
    rw [TG]; simp only [takeL]
  have T4 : rp2 k cs = (⟨V1.1, V2.1, V3.1, V4.1, st, 0, 0, 0, 0, [], [], false⟩ : Rep) := by unfold rp2; rw [T2, T1, T3]; rfl
  have T5 : takeLE k cs (rpG (⟨V1.1, V2.1, V3.1, V4.1, st, 0, 0, 0, 0, [], [], false⟩ : Rep)) (p5, 0) = 0 := by rw [TG]; simp [takeLE]
  refine ⟨?_, T4⟩
  unfold rpTE
  rw [T2, T1, T4]
  simp only [hH, lastE, T5, T3, rpJE]
  rfl

theorem rpT_a (k : Nat) (cs : List Int) (V1 V2 V3 V4 : Int × Nat × Int) (st : Int) (p5 : Nat) (X1 : Int × Nat × Int) (X2 : Int × Nat × Int) (X3 : Int × Nat × Int) (X4 : Int × Nat × Int) (h1 : rdNum 4 k cs 0 0 4294967295 = V1) (h2 : rdNum 8 k cs V1.2.1 V1.2.2 9223372036854775807 = V2) (h3 : rdNum 8 k cs V2.2.1 V2.2.2 9223372036854775807 = V3) (h4 : rdNum 4 k cs V3.2.1 V3.2.2 4294967295 = V4) (h5 : rdNum 4 k cs V4.2.1 V4.2.2 4294967295 = (st, p5, 0)) (hH : rpHeadE (⟨V1.1, V2.1, V3.1, V4.1, st, 0, 0, 0, 0, [], [], false⟩ : Rep) = 0) (hh : hasRp V4.1 st = [13]) (g1 : rdNum 8 k cs p5 (0 : Int) 9223372036854775807 = X1) (g2 : rdNum 4 k cs X1.2.1 X1.2.2 4294967295 = X2) (g3 : rdNum 4 k cs X2.2.1 X2.2.2 4294967295 = X3) (g4 : rdNum 8 k cs X3.2.1 X3.2.2 9223372036854775807 = X4) :
    rpTE k cs = (if ¬ rdClose k X4.2.1 X4.2.2 = 0 then rdClose k X4.2.1 X4.2.2 else rpBodyE (⟨V1.1, V2.1, V3.1, V4.1, st, X1.1, X2.1, X3.1, X4.1, [], [], false⟩ : Rep)) ∧ rp2 k cs = (⟨V1.1, V2.1, V3.1, V4.1, st, X1.1, X2.1, X3.1, X4.1, [], [], false⟩ : Rep) := by
  have T1 : rpH k cs = ([(0, .small V1.1), (1, .great V2.1), (3, .great V3.1), (4, .small V4.1), (5, .small st)], (p5, 0)) := by
    simp only [rpH, rpHead, takeL, takeV, h1, h2, h3, h4, h5]
  have T2 : rp1 k cs = (⟨V1.1, V2.1, V3.1, V4.1, st, 0, 0, 0, 0, [], [], false⟩ : Rep) := by unfold rp1; rw [T1]; rfl
  have TG : rpG (⟨V1.1, V2.1, V3.1, V4.1, st, 0, 0, 0, 0, [], [], false⟩ : Rep) = [(13, .attr 0 0 0 0)] := by unfold rpG; simp only [hh]; rfl
  have T3 : takeL k cs (rpG (⟨V1.1, V2.1, V3.1, V4.1, st, 0, 0, 0, 0, [], [], false⟩ : Rep)) (p5, 0) = ([(13, .attr X1.1 X2.1 X3.1 X4.1)], X4.2) := by
    rw [TG]; simp only [takeL, takeV, g1, g2, g3, g4]
  have T4 : rp2 k cs = (⟨V1.1, V2.1, V3.1, V4.1, st, X1.1, X2.1, X3.1, X4.1, [], [], false⟩ : Rep) := by unfold rp2; rw [T2, T1, T3]; rfl
  have T5 : takeLE k cs (rpG (⟨V1.1, V2.1, V3.1, V4.1, st, 0, 0, 0, 0, [], [], false⟩ : Rep)) (p5, 0) = 0 := by rw [TG]; simp [takeLE, takeE]
  refine ⟨?_, T4⟩
  unfold rpTE
  rw [T2, T1, T4]
  simp only [hH, lastE, T5, T3, rpJE]
  rfl

theorem rpT_d (k : Nat) (cs : List Int) (V1 V2 V3 V4 : Int × Nat × Int) (st : Int) (p5 : Nat) (X1 : Int × Nat × Int) (X2 : Int × Nat × Int) (X3 : Int × Nat × Int) (X4 : Int × Nat × Int) (X5 : List Int × Nat × Int) (h1 : rdNum 4 k cs 0 0 4294967295 = V1) (h2 : rdNum 8 k cs V1.2.1 V1.2.2 9223372036854775807 = V2) (h3 : rdNum 8 k cs V2.2.1 V2.2.2 9223372036854775807 = V3) (h4 : rdNum 4 k cs V3.2.1 V3.2.2 4294967295 = V4) (h5 : rdNum 4 k cs V4.2.1 V4.2.2 4294967295 = (st, p5, 0)) (hH : rpHeadE (⟨V1.1, V2.1, V3.1, V4.1, st, 0, 0, 0, 0, [], [], false⟩ : Rep) = 0) (hh : hasRp V4.1 st = [13, 14]) (g1 : rdNum 8 k cs p5 (0 : Int) 9223372036854775807 = X1) (g2 : rdNum 4 k cs X1.2.1 X1.2.2 4294967295 = X2) (g3 : rdNum 4 k cs X2.2.1 X2.2.2 4294967295 = X3) (g4 : rdNum 8 k cs X3.2.1 X3.2.2 9223372036854775807 = X4) (g5 : rdText k cs X4.2.1 X4.2.2 1024 = X5) :
    rpTE k cs = (if ¬ rdClose k X5.2.1 X5.2.2 = 0 then rdClose k X5.2.1 X5.2.2 else rpBodyE (⟨V1.1, V2.1, V3.1, V4.1, st, X1.1, X2.1, X3.1, X4.1, X5.1, [], false⟩ : Rep)) ∧ rp2 k cs = (⟨V1.1, V2.1, V3.1, V4.1, st, X1.1, X2.1, X3.1, X4.1, X5.1, [], false⟩ : Rep) := by
  have T1 : rpH k cs = ([(0, .small V1.1), (1, .great V2.1), (3, .great V3.1), (4, .small V4.1), (5, .small st)], (p5, 0)) := by
    simp only [rpH, rpHead, takeL, takeV, h1, h2, h3, h4, h5]
  have T2 : rp1 k cs = (⟨V1.1, V2.1, V3.1, V4.1, st, 0, 0, 0, 0, [], [], false⟩ : Rep) := by unfold rp1; rw [T1]; rfl
  have TG : rpG (⟨V1.1, V2.1, V3.1, V4.1, st, 0, 0, 0, 0, [], [], false⟩ : Rep) = [(13, .attr 0 0 0 0), (14, .content [])] := by unfold rpG; simp only [hh]; rfl
  have T3 : takeL k cs (rpG (⟨V1.1, V2.1, V3.1, V4.1, st, 0, 0, 0, 0, [], [], false⟩ : Rep)) (p5, 0) = ([(13, .attr X1.1 X2.1 X3.1 X4.1), (14, .content X5.1)], X5.2) := by
    rw [TG]; simp only [takeL, takeV, g1, g2, g3, g4, g5]
  have T4 : rp2 k cs = (⟨V1.1, V2.1, V3.1, V4.1, st, X1.1, X2.1, X3.1, X4.1, X5.1, [], false⟩ : Rep) := by unfold rp2; rw [T2, T1, T3]; rfl
  have T5 : takeLE k cs (rpG (⟨V1.1, V2.1, V3.1, V4.1, st, 0, 0, 0, 0, [], [], false⟩ : Rep)) (p5, 0) = 0 := by rw [TG]; simp [takeLE, takeE]
  refine ⟨?_, T4⟩
  unfold rpTE
  rw [T2, T1, T4]
  simp only [hH, lastE, T5, T3, rpJE]
  rfl

theorem rpT_t (k : Nat) (cs : List Int) (V1 V2 V3 V4 : Int × Nat × Int) (st : Int) (p5 : Nat) (N : Int × Nat × Int) (F : Bool × Nat × Int) (h1 : rdNum 4 k cs 0 0 4294967295 = V1) (h2 : rdNum 8 k cs V1.2.1 V1.2.2 9223372036854775807 = V2) (h3 : rdNum 8 k cs V2.2.1 V2.2.2 9223372036854775807 = V3) (h4 : rdNum 4 k cs V3.2.1 V3.2.2 4294967295 = V4) (h5 : rdNum 4 k cs V4.2.1 V4.2.2 4294967295 = (st, p5, 0)) (hH : rpHeadE (⟨V1.1, V2.1, V3.1, V4.1, st, 0, 0, 0, 0, [], [], false⟩ : Rep) = 0) (hh : hasRp V4.1 st = [15, 16]) (g1 : rdNum 4 k cs p5 0 4294967295 = N) (g2 : rdFlag k cs (rdEnts k cs N.1.toNat N.2).2.1 (rdEnts k cs N.1.toNat N.2).2.2 = F) :
    (16 < N.1 → rpTE k cs = 46) ∧ (¬ 16 < N.1 → rpTE k cs = (if ¬ rdClose k F.2.1 F.2.2 = 0 then rdClose k F.2.1 F.2.2 else rpBodyE (⟨V1.1, V2.1, V3.1, V4.1, st, 0, 0, 0, 0, [], (rdEnts k cs N.1.toNat N.2).1, F.1⟩ : Rep)) ∧ rp2 k cs = (⟨V1.1, V2.1, V3.1, V4.1, st, 0, 0, 0, 0, [], (rdEnts k cs N.1.toNat N.2).1, F.1⟩ : Rep)) := by
  have T1 : rpH k cs = ([(0, .small V1.1), (1, .great V2.1), (3, .great V3.1), (4, .small V4.1), (5, .small st)], (p5, 0)) := by
    simp only [rpH, rpHead, takeL, takeV, h1, h2, h3, h4, h5]
  have T2 : rp1 k cs = (⟨V1.1, V2.1, V3.1, V4.1, st, 0, 0, 0, 0, [], [], false⟩ : Rep) := by unfold rp1; rw [T1]; rfl
  have TG : rpG (⟨V1.1, V2.1, V3.1, V4.1, st, 0, 0, 0, 0, [], [], false⟩ : Rep) = [(15, .entries []), (16, .flag false)] := by unfold rpG; simp only [hh]; rfl
  have T3 : takeL k cs (rpG (⟨V1.1, V2.1, V3.1, V4.1, st, 0, 0, 0, 0, [], [], false⟩ : Rep)) (p5, 0) = ([(15, .entries (rdEnts k cs N.1.toNat N.2).1), (16, .flag F.1)], F.2) := by
    rw [TG]; simp only [takeL, takeV, g1, g2]
  have T4 : rp2 k cs = (⟨V1.1, V2.1, V3.1, V4.1, st, 0, 0, 0, 0, [], (rdEnts k cs N.1.toNat N.2).1, F.1⟩ : Rep) := by unfold rp2; rw [T2, T1, T3]; rfl
  have T5 : takeLE k cs (rpG (⟨V1.1, V2.1, V3.1, V4.1, st, 0, 0, 0, 0, [], [], false⟩ : Rep)) (p5, 0) = if 16 < N.1 then 46 else 0 := by
    rw [TG]; simp only [takeLE, takeE, g1]
    by_cases h : 16 < N.1
    · simp [h]
    · simp [h]
  refine ⟨fun h => ?_, fun h => ⟨?_, T4⟩⟩
  · unfold rpTE
    rw [T2, T1, T4]
    rw [if_pos h] at T5
    simp only [hH, lastE, T5]
    rfl
  · unfold rpTE
    rw [T2, T1, T4]
    rw [if_neg h] at T5
    simp only [hH, lastE, T5, T3, rpJE]
    rfl
end Go.Proofs.YtdkcplndplhblaaGreatDoor

/- annexref4.DecodeReply, where the letters are of one kind. -/
namespace Go.Proofs.YtdkcplndplhblaaGreatDoor
open Go.RowKit
set_option maxRecDepth 100000

set_option maxHeartbeats 8000000 in
theorem rdecRp_e (ao : Option Addr) (m c : Nat) (bs : List Int) (w : World) (hL : Lies w ao m c bs) (hm : m ≤ 200000000000000) (hby : Bys bs) (hop : openE [65, 78, 82, 49] m bs = 0) (k : Nat) (cs : List Int) (hk : k = m - 12) (hcs : cs = (bs.drop 4).take (m - 12)) (V1 V2 V3 V4 : Int × Nat × Int) (st : Int) (p5 : Nat)  (h1 : rdNum 4 k cs 0 0 4294967295 = V1) (h2 : rdNum 8 k cs V1.2.1 V1.2.2 9223372036854775807 = V2) (h3 : rdNum 8 k cs V2.2.1 V2.2.2 9223372036854775807 = V3) (h4 : rdNum 4 k cs V3.2.1 V3.2.2 4294967295 = V4) (h5 : rdNum 4 k cs V4.2.1 V4.2.2 4294967295 = (st, p5, 0)) (hH : rpHeadE (⟨V1.1, V2.1, V3.1, V4.1, st, 0, 0, 0, 0, [], [], false⟩ : Rep) = 0) (hgl : glets V4.1 st = ⟨#[]⟩) (hh : hasRp V4.1 st = [])  :
    Calls Tryz.prog 31 #[.slice ao m c] w fun e w' => RpOut w k cs e w' := by
  have hTT := rpT_e k cs V1 V2 V3 V4 st p5  h1 h2 h3 h4 h5 hH hh 
  have HT : Hid (rpTE k cs = (if ¬ rdClose k p5 (0 : Int) = 0 then rdClose k p5 (0 : Int) else rpBodyE (⟨V1.1, V2.1, V3.1, V4.1, st, 0, 0, 0, 0, [], [], false⟩ : Rep)) ∧ rp2 k cs = (⟨V1.1, V2.1, V3.1, V4.1, st, 0, 0, 0, 0, [], [], false⟩ : Rep)) := hTT
  have HH : Hid (rpHeadE (⟨V1.1, V2.1, V3.1, V4.1, st, 0, 0, 0, 0, [], [], false⟩ : Rep) = 0) := hH
  have HGL : Hid (glets V4.1 st = ⟨#[]⟩) := hgl
  have H1 : Hid _ := h1
  have H2 : Hid _ := h2
  have H3 : Hid _ := h3
  have H4 : Hid _ := h4
  have H5 : Hid _ := h5

  clear hTT hH hh hgl h1 h2 h3 h4 h5 
  have dla : decide ((97 : Int) ∈ nums ⟨#[]⟩) = false := by decide
  have dld : decide ((100 : Int) ∈ nums ⟨#[]⟩) = false := by decide
  have dlt : decide ((116 : Int) ∈ nums ⟨#[]⟩) = false := by decide
  have hZ : PS0 w (((w.alloc (.cells #[.int .i64 0, .int .i64 0, .int .i64 0, .int .i64 0, .int .i64 0, .int .i64 0, .int .i64 0, .int .i64 0, .int .i64 0, .slice none 0 0, .slice none 0 0, .bool false] 30)).alloc (.cells #[.int .i64 0, .int .i64 0, .int .i64 0, .int .i64 0, .int .i64 0, .int .i64 0, .int .i64 0, .int .i64 0, .int .i64 0, .slice none 0 0, .slice none 0 0, .bool false] 30)).alloc (.cells #[.int .i64 0, .int .i64 0, .int .i64 0, .int .i64 0, .int .i64 0, .int .i64 0, .int .i64 0, .int .i64 0, .int .i64 0, .slice none 0 0, .slice none 0 0, .bool false] 30)) := ps0 w
  have hm2 := openE_le hop hL.hlen
  go_enter Tryz.func31, Tryz.ntmps31
  go_wp2_with fail
  generalize ((w.alloc (.cells #[.int .i64 0, .int .i64 0, .int .i64 0, .int .i64 0, .int .i64 0, .int .i64 0, .int .i64 0, .int .i64 0, .int .i64 0, .slice none 0 0, .slice none 0 0, .bool false] 30)).alloc (.cells #[.int .i64 0, .int .i64 0, .int .i64 0, .int .i64 0, .int .i64 0, .int .i64 0, .int .i64 0, .int .i64 0, .int .i64 0, .slice none 0 0, .slice none 0 0, .bool false] 30)).alloc (.cells #[.int .i64 0, .int .i64 0, .int .i64 0, .int .i64 0, .int .i64 0, .int .i64 0, .int .i64 0, .int .i64 0, .int .i64 0, .slice none 0 0, .slice none 0 0, .bool false] 30) = w3 at *
  refine (ropened_any ⟨#[65, 78, 82, 49]⟩ ao m c bs _ rfl (hL.below hZ.B (Nat.le_refl _)) hm hby).mono ?_
  rintro e wo (⟨hno, _⟩ | ⟨_, rb, ar, cr, rfl, hR, hrb, har, hbo⟩)
  · exact absurd hop hno
  have hS : PS w rb ar cr k cs (0, 0) rp0 none 0 0 none 0 0 wo := hZ.open hR hrb har hbo hk hcs hby hm2
  clear hZ hR hrb har hbo hop hL
  go_wp2_with fail
  refine (v_u32 hS.dr H1.out).mono ?_
  rintro e w11 ⟨rfl, hd, hg⟩
  have hS := hS.read hd hg
  clear hd hg
  obtain ⟨⟨b0, b1, b2, b3, b4, b5, b6, b7, b8, b9, b10, b11⟩, bf⟩ := hS.r.c
  have hS := hS.put (s' := ⟨V1.1, 0, 0, 0, 0, 0, 0, 0, 0, [], [], false⟩) (do2 := none) (dn2 := 0) (dc2 := 0) (lo2 := none) (ln2 := 0) (lc2 := 0) (j := 0) (u := .int .i64 V1.1) (by rw [RpB, heap_setCell_same _ _ _ _ _ _ hS.r]; rfl)
  go_wp2_with fail
  clear b0 b1 b2 b3 b4 b5 b6 b7 b8 b9 b10 b11 bf
  refine (v_u64 hS.dr H2.out).mono ?_
  rintro e w12 ⟨rfl, hd, hg⟩
  have hS := hS.read hd hg
  clear hd hg
  obtain ⟨⟨b0, b1, b2, b3, b4, b5, b6, b7, b8, b9, b10, b11⟩, bf⟩ := hS.r.c
  have hS := hS.put (s' := ⟨V1.1, V2.1, 0, 0, 0, 0, 0, 0, 0, [], [], false⟩) (do2 := none) (dn2 := 0) (dc2 := 0) (lo2 := none) (ln2 := 0) (lc2 := 0) (j := 1) (u := .int .i64 V2.1) (by rw [RpB, heap_setCell_same _ _ _ _ _ _ hS.r]; rfl)
  go_wp2_with fail
  clear b0 b1 b2 b3 b4 b5 b6 b7 b8 b9 b10 b11 bf
  refine (v_u64 hS.dr H3.out).mono ?_
  rintro e w13 ⟨rfl, hd, hg⟩
  have hS := hS.read hd hg
  clear hd hg
  obtain ⟨⟨b0, b1, b2, b3, b4, b5, b6, b7, b8, b9, b10, b11⟩, bf⟩ := hS.r.c
  have hS := hS.put (s' := ⟨V1.1, V2.1, V3.1, 0, 0, 0, 0, 0, 0, [], [], false⟩) (do2 := none) (dn2 := 0) (dc2 := 0) (lo2 := none) (ln2 := 0) (lc2 := 0) (j := 2) (u := .int .i64 V3.1) (by rw [RpB, heap_setCell_same _ _ _ _ _ _ hS.r]; rfl)
  go_wp2_with fail
  clear b0 b1 b2 b3 b4 b5 b6 b7 b8 b9 b10 b11 bf
  refine (v_u32 hS.dr H4.out).mono ?_
  rintro e w14 ⟨rfl, hd, hg⟩
  have hS := hS.read hd hg
  clear hd hg
  obtain ⟨⟨b0, b1, b2, b3, b4, b5, b6, b7, b8, b9, b10, b11⟩, bf⟩ := hS.r.c
  have hS := hS.put (s' := ⟨V1.1, V2.1, V3.1, V4.1, 0, 0, 0, 0, 0, [], [], false⟩) (do2 := none) (dn2 := 0) (dc2 := 0) (lo2 := none) (ln2 := 0) (lc2 := 0) (j := 3) (u := .int .i64 V4.1) (by rw [RpB, heap_setCell_same _ _ _ _ _ _ hS.r]; rfl)
  go_wp2_with fail
  clear b0 b1 b2 b3 b4 b5 b6 b7 b8 b9 b10 b11 bf
  refine (v_u32 hS.dr H5.out).mono ?_
  rintro e w15 ⟨rfl, hd, hg⟩
  have hS := hS.read hd hg
  clear hd hg
  obtain ⟨⟨b0, b1, b2, b3, b4, b5, b6, b7, b8, b9, b10, b11⟩, bf⟩ := hS.r.c
  have hS := hS.put (s' := ⟨V1.1, V2.1, V3.1, V4.1, st, 0, 0, 0, 0, [], [], false⟩) (do2 := none) (dn2 := 0) (dc2 := 0) (lo2 := none) (ln2 := 0) (lc2 := 0) (j := 4) (u := .int .i64 st) (by rw [RpB, heap_setCell_same _ _ _ _ _ _ hS.r]; rfl)
  go_wp2_with fail
  clear b0 b1 b2 b3 b4 b5 b6 b7 b8 b9 b10 b11 bf
  refine (d_err hS.dr).mono ?_
  rintro e we ⟨rfl, hb⟩
  have hS := hS.below hb
  clear hb
  obtain ⟨⟨b0, b1, b2, b3, b4, b5, b6, b7, b8, b9, b10, b11⟩, bf⟩ := hS.r.c
  go_wp2_with fail
  clear b0 b1 b2 b3 b4 b5 b6 b7 b8 b9 b10 b11 bf
  refine (ranswer_any (⟨V1.1, V2.1, V3.1, V4.1, st, 0, 0, 0, 0, [], [], false⟩ : Rep) none 0 0 none 0 0 _).mono ?_
  rintro e wf ⟨rfl, hb⟩
  rw [HH.out]
  have hS := hS.below hb
  clear hb
  obtain ⟨⟨b0, b1, b2, b3, b4, b5, b6, b7, b8, b9, b10, b11⟩, bf⟩ := hS.r.c
  go_wp2_with fail
  clear b0 b1 b2 b3 b4 b5 b6 b7 b8 b9 b10 b11 bf
  refine (rgives_is HGL.out V1.1 V2.1 V3.1 0 0 0 0 none 0 0 none 0 0 false _).mono ?_
  rintro e wg ⟨rfl, hb⟩
  have hS := hS.below hb
  clear hb
  go_wp2_with (go_at_call 68; refine (rin_any _ _ _ (by decide)).mono ?_; rintro e wn ⟨rfl, hwn⟩; subst wn; first | rw [dla] | rw [dld] | rw [dlt])
  obtain ⟨CE, hCE⟩ : ∃ CE, rdClose k p5 (0 : Int) = CE := ⟨_, rfl⟩
  have HC : Hid (rdClose k p5 (0 : Int) = CE) := hCE
  clear hCE
  refine (v_close hS.dr HC.out).mono ?_
  rintro e wc ⟨rfl, hg⟩
  have hS := hS.shut hg
  clear hg
  by_cases hce : CE = 0
  case neg =>
    have hcb : (CE != 0) = true := by simpa using hce
    have hfin := setRp_is rp0 none 0 0 none 0 0 hS.res
    have hB := hS.B.grown (setRp_grown wc w.heap.size rp0 none 0 0 none 0 0) hS.B.size (fun k hk => by cases hk; exact Nat.le_refl _)
    obtain ⟨⟨b0, b1, b2, b3, b4, b5, b6, b7, b8, b9, b10, b11⟩, bf⟩ := hS.res.c
    obtain ⟨⟨d0, d1, d2, d3, d4, d5, d6, d7, d8, d9, d10, d11⟩, df⟩ := hS.non.c
    have HCN : Hid (¬ CE = 0) := hce
    clear hce
    go_wp2
    refine bodyPost_ret (RpB.res rfl _ rfl hfin) rfl ?_
    have hE : rpTE k cs = CE := by rw [HT.out.1, HC.out, if_pos HCN.out]
    exact ⟨rp0, none, 0, 0, none, 0, 0, by rw [hE]; rfl, by rw [hE, if_neg HCN.out], Lies.nil _, CLies.nil _ _, rfl, hB⟩
  subst hce
  obtain ⟨⟨b0, b1, b2, b3, b4, b5, b6, b7, b8, b9, b10, b11⟩, bf⟩ := hS.r.c
  go_wp2_with fail
  clear b0 b1 b2 b3 b4 b5 b6 b7 b8 b9 b10 b11 bf
  refine (rbrought_any (⟨V1.1, V2.1, V3.1, V4.1, st, 0, 0, 0, 0, [], [], false⟩ : Rep) none 0 0 none 0 0 _ rfl (CLies.nil _ _) rfl (rpHead_op HH.out)).mono ?_
  rintro e wj ⟨rfl, hb⟩
  have hS := hS.below hb
  clear hb
  obtain ⟨J, hJ⟩ : ∃ J, rpBodyE (⟨V1.1, V2.1, V3.1, V4.1, st, 0, 0, 0, 0, [], [], false⟩ : Rep) = J := ⟨_, rfl⟩
  rw [hJ]
  have HJ : Hid (rpBodyE (⟨V1.1, V2.1, V3.1, V4.1, st, 0, 0, 0, 0, [], [], false⟩ : Rep) = J) := hJ
  clear hJ
  by_cases hj : J = 0
  case neg =>
    have hcb : (J != 0) = true := by simpa using hj
    have hfin := setRp_is rp0 none 0 0 none 0 0 hS.res
    have hB := hS.B.grown (setRp_grown wj w.heap.size rp0 none 0 0 none 0 0) hS.B.size (fun k hk => by cases hk; exact Nat.le_refl _)
    obtain ⟨⟨b0, b1, b2, b3, b4, b5, b6, b7, b8, b9, b10, b11⟩, bf⟩ := hS.res.c
    obtain ⟨⟨d0, d1, d2, d3, d4, d5, d6, d7, d8, d9, d10, d11⟩, df⟩ := hS.non.c
    have HJN : Hid (¬ J = 0) := hj
    clear hj
    go_wp2
    refine bodyPost_ret (RpB.res rfl _ rfl hfin) rfl ?_
    have hE : rpTE k cs = J := by rw [HT.out.1, HC.out, if_neg (by simp), HJ.out]
    exact ⟨rp0, none, 0, 0, none, 0, 0, by rw [hE]; rfl, by rw [hE, if_neg HJN.out], Lies.nil _, CLies.nil _ _, rfl, hB⟩
  subst hj
  have hfin := setRp_is (⟨V1.1, V2.1, V3.1, V4.1, st, 0, 0, 0, 0, [], [], false⟩ : Rep) none 0 0 none 0 0 hS.res
  have hB := hS.B.grown (setRp_grown wj w.heap.size (⟨V1.1, V2.1, V3.1, V4.1, st, 0, 0, 0, 0, [], [], false⟩ : Rep) none 0 0 none 0 0) hS.B.size (fun k hk => by cases hk; exact Nat.le_refl _)
  obtain ⟨⟨b0, b1, b2, b3, b4, b5, b6, b7, b8, b9, b10, b11⟩, bf⟩ := hS.res.c
  obtain ⟨⟨d0, d1, d2, d3, d4, d5, d6, d7, d8, d9, d10, d11⟩, df⟩ := hS.r.c
  go_wp2
  refine bodyPost_ret (RpB.res rfl _ rfl hfin) rfl ?_
  have hE : rpTE k cs = 0 := by rw [HT.out.1, HC.out, if_neg (by simp), HJ.out]
  refine ⟨(⟨V1.1, V2.1, V3.1, V4.1, st, 0, 0, 0, 0, [], [], false⟩ : Rep), none, 0, 0, none, 0, 0, by rw [hE]; rfl, by rw [hE, if_pos rfl, HT.out.2], ?_, ?_, rfl, hB⟩
  · exact Lies.nil _
  · exact CLies.nil _ _
end Go.Proofs.YtdkcplndplhblaaGreatDoor

/- annexref4.DecodeReply, where the letters are of one kind. -/
namespace Go.Proofs.YtdkcplndplhblaaGreatDoor
open Go.RowKit
set_option maxRecDepth 100000

set_option maxHeartbeats 8000000 in
theorem rdecRp_a (ao : Option Addr) (m c : Nat) (bs : List Int) (w : World) (hL : Lies w ao m c bs) (hm : m ≤ 200000000000000) (hby : Bys bs) (hop : openE [65, 78, 82, 49] m bs = 0) (k : Nat) (cs : List Int) (hk : k = m - 12) (hcs : cs = (bs.drop 4).take (m - 12)) (V1 V2 V3 V4 : Int × Nat × Int) (st : Int) (p5 : Nat) (X1 : Int × Nat × Int) (X2 : Int × Nat × Int) (X3 : Int × Nat × Int) (X4 : Int × Nat × Int) (h1 : rdNum 4 k cs 0 0 4294967295 = V1) (h2 : rdNum 8 k cs V1.2.1 V1.2.2 9223372036854775807 = V2) (h3 : rdNum 8 k cs V2.2.1 V2.2.2 9223372036854775807 = V3) (h4 : rdNum 4 k cs V3.2.1 V3.2.2 4294967295 = V4) (h5 : rdNum 4 k cs V4.2.1 V4.2.2 4294967295 = (st, p5, 0)) (hH : rpHeadE (⟨V1.1, V2.1, V3.1, V4.1, st, 0, 0, 0, 0, [], [], false⟩ : Rep) = 0) (hgl : glets V4.1 st = ⟨#[97]⟩) (hh : hasRp V4.1 st = [13]) (g1 : rdNum 8 k cs p5 (0 : Int) 9223372036854775807 = X1) (g2 : rdNum 4 k cs X1.2.1 X1.2.2 4294967295 = X2) (g3 : rdNum 4 k cs X2.2.1 X2.2.2 4294967295 = X3) (g4 : rdNum 8 k cs X3.2.1 X3.2.2 9223372036854775807 = X4) :
    Calls Tryz.prog 31 #[.slice ao m c] w fun e w' => RpOut w k cs e w' := by
  have hTT := rpT_a k cs V1 V2 V3 V4 st p5 X1 X2 X3 X4 h1 h2 h3 h4 h5 hH hh g1 g2 g3 g4
  have HT : Hid (rpTE k cs = (if ¬ rdClose k X4.2.1 X4.2.2 = 0 then rdClose k X4.2.1 X4.2.2 else rpBodyE (⟨V1.1, V2.1, V3.1, V4.1, st, X1.1, X2.1, X3.1, X4.1, [], [], false⟩ : Rep)) ∧ rp2 k cs = (⟨V1.1, V2.1, V3.1, V4.1, st, X1.1, X2.1, X3.1, X4.1, [], [], false⟩ : Rep)) := hTT
  have HH : Hid (rpHeadE (⟨V1.1, V2.1, V3.1, V4.1, st, 0, 0, 0, 0, [], [], false⟩ : Rep) = 0) := hH
  have HGL : Hid (glets V4.1 st = ⟨#[97]⟩) := hgl
  have H1 : Hid _ := h1
  have H2 : Hid _ := h2
  have H3 : Hid _ := h3
  have H4 : Hid _ := h4
  have H5 : Hid _ := h5
  have G1 : Hid _ := g1
  have G2 : Hid _ := g2
  have G3 : Hid _ := g3
  have G4 : Hid _ := g4
  clear hTT hH hh hgl h1 h2 h3 h4 h5 g1 g2 g3 g4
  have dla : decide ((97 : Int) ∈ nums ⟨#[97]⟩) = true := by decide
  have dld : decide ((100 : Int) ∈ nums ⟨#[97]⟩) = false := by decide
  have dlt : decide ((116 : Int) ∈ nums ⟨#[97]⟩) = false := by decide
  have hZ : PS0 w (((w.alloc (.cells #[.int .i64 0, .int .i64 0, .int .i64 0, .int .i64 0, .int .i64 0, .int .i64 0, .int .i64 0, .int .i64 0, .int .i64 0, .slice none 0 0, .slice none 0 0, .bool false] 30)).alloc (.cells #[.int .i64 0, .int .i64 0, .int .i64 0, .int .i64 0, .int .i64 0, .int .i64 0, .int .i64 0, .int .i64 0, .int .i64 0, .slice none 0 0, .slice none 0 0, .bool false] 30)).alloc (.cells #[.int .i64 0, .int .i64 0, .int .i64 0, .int .i64 0, .int .i64 0, .int .i64 0, .int .i64 0, .int .i64 0, .int .i64 0, .slice none 0 0, .slice none 0 0, .bool false] 30)) := ps0 w
  have hm2 := openE_le hop hL.hlen
  go_enter Tryz.func31, Tryz.ntmps31
  go_wp2_with fail
  generalize ((w.alloc (.cells #[.int .i64 0, .int .i64 0, .int .i64 0, .int .i64 0, .int .i64 0, .int .i64 0, .int .i64 0, .int .i64 0, .int .i64 0, .slice none 0 0, .slice none 0 0, .bool false] 30)).alloc (.cells #[.int .i64 0, .int .i64 0, .int .i64 0, .int .i64 0, .int .i64 0, .int .i64 0, .int .i64 0, .int .i64 0, .int .i64 0, .slice none 0 0, .slice none 0 0, .bool false] 30)).alloc (.cells #[.int .i64 0, .int .i64 0, .int .i64 0, .int .i64 0, .int .i64 0, .int .i64 0, .int .i64 0, .int .i64 0, .int .i64 0, .slice none 0 0, .slice none 0 0, .bool false] 30) = w3 at *
  refine (ropened_any ⟨#[65, 78, 82, 49]⟩ ao m c bs _ rfl (hL.below hZ.B (Nat.le_refl _)) hm hby).mono ?_
  rintro e wo (⟨hno, _⟩ | ⟨_, rb, ar, cr, rfl, hR, hrb, har, hbo⟩)
  · exact absurd hop hno
  have hS : PS w rb ar cr k cs (0, 0) rp0 none 0 0 none 0 0 wo := hZ.open hR hrb har hbo hk hcs hby hm2
  clear hZ hR hrb har hbo hop hL
  go_wp2_with fail
  refine (v_u32 hS.dr H1.out).mono ?_
  rintro e w11 ⟨rfl, hd, hg⟩
  have hS := hS.read hd hg
  clear hd hg
  obtain ⟨⟨b0, b1, b2, b3, b4, b5, b6, b7, b8, b9, b10, b11⟩, bf⟩ := hS.r.c
  have hS := hS.put (s' := ⟨V1.1, 0, 0, 0, 0, 0, 0, 0, 0, [], [], false⟩) (do2 := none) (dn2 := 0) (dc2 := 0) (lo2 := none) (ln2 := 0) (lc2 := 0) (j := 0) (u := .int .i64 V1.1) (by rw [RpB, heap_setCell_same _ _ _ _ _ _ hS.r]; rfl)
  go_wp2_with fail
  clear b0 b1 b2 b3 b4 b5 b6 b7 b8 b9 b10 b11 bf
  refine (v_u64 hS.dr H2.out).mono ?_
  rintro e w12 ⟨rfl, hd, hg⟩
  have hS := hS.read hd hg
  clear hd hg
  obtain ⟨⟨b0, b1, b2, b3, b4, b5, b6, b7, b8, b9, b10, b11⟩, bf⟩ := hS.r.c
  have hS := hS.put (s' := ⟨V1.1, V2.1, 0, 0, 0, 0, 0, 0, 0, [], [], false⟩) (do2 := none) (dn2 := 0) (dc2 := 0) (lo2 := none) (ln2 := 0) (lc2 := 0) (j := 1) (u := .int .i64 V2.1) (by rw [RpB, heap_setCell_same _ _ _ _ _ _ hS.r]; rfl)
  go_wp2_with fail
  clear b0 b1 b2 b3 b4 b5 b6 b7 b8 b9 b10 b11 bf
  refine (v_u64 hS.dr H3.out).mono ?_
  rintro e w13 ⟨rfl, hd, hg⟩
  have hS := hS.read hd hg
  clear hd hg
  obtain ⟨⟨b0, b1, b2, b3, b4, b5, b6, b7, b8, b9, b10, b11⟩, bf⟩ := hS.r.c
  have hS := hS.put (s' := ⟨V1.1, V2.1, V3.1, 0, 0, 0, 0, 0, 0, [], [], false⟩) (do2 := none) (dn2 := 0) (dc2 := 0) (lo2 := none) (ln2 := 0) (lc2 := 0) (j := 2) (u := .int .i64 V3.1) (by rw [RpB, heap_setCell_same _ _ _ _ _ _ hS.r]; rfl)
  go_wp2_with fail
  clear b0 b1 b2 b3 b4 b5 b6 b7 b8 b9 b10 b11 bf
  refine (v_u32 hS.dr H4.out).mono ?_
  rintro e w14 ⟨rfl, hd, hg⟩
  have hS := hS.read hd hg
  clear hd hg
  obtain ⟨⟨b0, b1, b2, b3, b4, b5, b6, b7, b8, b9, b10, b11⟩, bf⟩ := hS.r.c
  have hS := hS.put (s' := ⟨V1.1, V2.1, V3.1, V4.1, 0, 0, 0, 0, 0, [], [], false⟩) (do2 := none) (dn2 := 0) (dc2 := 0) (lo2 := none) (ln2 := 0) (lc2 := 0) (j := 3) (u := .int .i64 V4.1) (by rw [RpB, heap_setCell_same _ _ _ _ _ _ hS.r]; rfl)
  go_wp2_with fail
  clear b0 b1 b2 b3 b4 b5 b6 b7 b8 b9 b10 b11 bf
  refine (v_u32 hS.dr H5.out).mono ?_
  rintro e w15 ⟨rfl, hd, hg⟩
  have hS := hS.read hd hg
  clear hd hg
  obtain ⟨⟨b0, b1, b2, b3, b4, b5, b6, b7, b8, b9, b10, b11⟩, bf⟩ := hS.r.c
  have hS := hS.put (s' := ⟨V1.1, V2.1, V3.1, V4.1, st, 0, 0, 0, 0, [], [], false⟩) (do2 := none) (dn2 := 0) (dc2 := 0) (lo2 := none) (ln2 := 0) (lc2 := 0) (j := 4) (u := .int .i64 st) (by rw [RpB, heap_setCell_same _ _ _ _ _ _ hS.r]; rfl)
  go_wp2_with fail
  clear b0 b1 b2 b3 b4 b5 b6 b7 b8 b9 b10 b11 bf
  refine (d_err hS.dr).mono ?_
  rintro e we ⟨rfl, hb⟩
  have hS := hS.below hb
  clear hb
  obtain ⟨⟨b0, b1, b2, b3, b4, b5, b6, b7, b8, b9, b10, b11⟩, bf⟩ := hS.r.c
  go_wp2_with fail
  clear b0 b1 b2 b3 b4 b5 b6 b7 b8 b9 b10 b11 bf
  refine (ranswer_any (⟨V1.1, V2.1, V3.1, V4.1, st, 0, 0, 0, 0, [], [], false⟩ : Rep) none 0 0 none 0 0 _).mono ?_
  rintro e wf ⟨rfl, hb⟩
  rw [HH.out]
  have hS := hS.below hb
  clear hb
  obtain ⟨⟨b0, b1, b2, b3, b4, b5, b6, b7, b8, b9, b10, b11⟩, bf⟩ := hS.r.c
  go_wp2_with fail
  clear b0 b1 b2 b3 b4 b5 b6 b7 b8 b9 b10 b11 bf
  refine (rgives_is HGL.out V1.1 V2.1 V3.1 0 0 0 0 none 0 0 none 0 0 false _).mono ?_
  rintro e wg ⟨rfl, hb⟩
  have hS := hS.below hb
  clear hb
  go_wp2_with (go_at_call 68; refine (rin_any _ _ _ (by decide)).mono ?_; rintro e wn ⟨rfl, hwn⟩; subst wn; first | rw [dla] | rw [dld] | rw [dlt])
  refine (v_u64 hS.dr G1.out).mono ?_
  rintro e w20 ⟨rfl, hd, hg⟩
  have hS := hS.read hd hg
  clear hd hg
  obtain ⟨⟨b0, b1, b2, b3, b4, b5, b6, b7, b8, b9, b10, b11⟩, bf⟩ := hS.r.c
  have hS := hS.put (s' := ⟨V1.1, V2.1, V3.1, V4.1, st, X1.1, 0, 0, 0, [], [], false⟩) (do2 := none) (dn2 := 0) (dc2 := 0) (lo2 := none) (ln2 := 0) (lc2 := 0) (j := 5) (u := .int .i64 X1.1) (by rw [RpB, heap_setCell_same _ _ _ _ _ _ hS.r]; rfl)
  go_wp2_with fail
  clear b0 b1 b2 b3 b4 b5 b6 b7 b8 b9 b10 b11 bf
  refine (v_u32 hS.dr G2.out).mono ?_
  rintro e w21 ⟨rfl, hd, hg⟩
  have hS := hS.read hd hg
  clear hd hg
  obtain ⟨⟨b0, b1, b2, b3, b4, b5, b6, b7, b8, b9, b10, b11⟩, bf⟩ := hS.r.c
  have hS := hS.put (s' := ⟨V1.1, V2.1, V3.1, V4.1, st, X1.1, X2.1, 0, 0, [], [], false⟩) (do2 := none) (dn2 := 0) (dc2 := 0) (lo2 := none) (ln2 := 0) (lc2 := 0) (j := 6) (u := .int .i64 X2.1) (by rw [RpB, heap_setCell_same _ _ _ _ _ _ hS.r]; rfl)
  go_wp2_with fail
  clear b0 b1 b2 b3 b4 b5 b6 b7 b8 b9 b10 b11 bf
  refine (v_u32 hS.dr G3.out).mono ?_
  rintro e w22 ⟨rfl, hd, hg⟩
  have hS := hS.read hd hg
  clear hd hg
  obtain ⟨⟨b0, b1, b2, b3, b4, b5, b6, b7, b8, b9, b10, b11⟩, bf⟩ := hS.r.c
  have hS := hS.put (s' := ⟨V1.1, V2.1, V3.1, V4.1, st, X1.1, X2.1, X3.1, 0, [], [], false⟩) (do2 := none) (dn2 := 0) (dc2 := 0) (lo2 := none) (ln2 := 0) (lc2 := 0) (j := 7) (u := .int .i64 X3.1) (by rw [RpB, heap_setCell_same _ _ _ _ _ _ hS.r]; rfl)
  go_wp2_with fail
  clear b0 b1 b2 b3 b4 b5 b6 b7 b8 b9 b10 b11 bf
  refine (v_u64 hS.dr G4.out).mono ?_
  rintro e w23 ⟨rfl, hd, hg⟩
  have hS := hS.read hd hg
  clear hd hg
  obtain ⟨⟨b0, b1, b2, b3, b4, b5, b6, b7, b8, b9, b10, b11⟩, bf⟩ := hS.r.c
  have hS := hS.put (s' := ⟨V1.1, V2.1, V3.1, V4.1, st, X1.1, X2.1, X3.1, X4.1, [], [], false⟩) (do2 := none) (dn2 := 0) (dc2 := 0) (lo2 := none) (ln2 := 0) (lc2 := 0) (j := 8) (u := .int .i64 X4.1) (by rw [RpB, heap_setCell_same _ _ _ _ _ _ hS.r]; rfl)
  go_wp2_with (go_at_call 68; refine (rin_any _ _ _ (by decide)).mono ?_; rintro e wn ⟨rfl, hwn⟩; subst wn; first | rw [dla] | rw [dld] | rw [dlt])
  clear b0 b1 b2 b3 b4 b5 b6 b7 b8 b9 b10 b11 bf
  obtain ⟨CE, hCE⟩ : ∃ CE, rdClose k X4.2.1 X4.2.2 = CE := ⟨_, rfl⟩
  have HC : Hid (rdClose k X4.2.1 X4.2.2 = CE) := hCE
  clear hCE
  refine (v_close hS.dr HC.out).mono ?_
  rintro e wc ⟨rfl, hg⟩
  have hS := hS.shut hg
  clear hg
  by_cases hce : CE = 0
  case neg =>
    have hcb : (CE != 0) = true := by simpa using hce
    have hfin := setRp_is rp0 none 0 0 none 0 0 hS.res
    have hB := hS.B.grown (setRp_grown wc w.heap.size rp0 none 0 0 none 0 0) hS.B.size (fun k hk => by cases hk; exact Nat.le_refl _)
    obtain ⟨⟨b0, b1, b2, b3, b4, b5, b6, b7, b8, b9, b10, b11⟩, bf⟩ := hS.res.c
    obtain ⟨⟨d0, d1, d2, d3, d4, d5, d6, d7, d8, d9, d10, d11⟩, df⟩ := hS.non.c
    have HCN : Hid (¬ CE = 0) := hce
    clear hce
    go_wp2
    refine bodyPost_ret (RpB.res rfl _ rfl hfin) rfl ?_
    have hE : rpTE k cs = CE := by rw [HT.out.1, HC.out, if_pos HCN.out]
    exact ⟨rp0, none, 0, 0, none, 0, 0, by rw [hE]; rfl, by rw [hE, if_neg HCN.out], Lies.nil _, CLies.nil _ _, rfl, hB⟩
  subst hce
  obtain ⟨⟨b0, b1, b2, b3, b4, b5, b6, b7, b8, b9, b10, b11⟩, bf⟩ := hS.r.c
  go_wp2_with fail
  clear b0 b1 b2 b3 b4 b5 b6 b7 b8 b9 b10 b11 bf
  refine (rbrought_any (⟨V1.1, V2.1, V3.1, V4.1, st, X1.1, X2.1, X3.1, X4.1, [], [], false⟩ : Rep) none 0 0 none 0 0 _ rfl (CLies.nil _ _) rfl (rpHead_op HH.out)).mono ?_
  rintro e wj ⟨rfl, hb⟩
  have hS := hS.below hb
  clear hb
  obtain ⟨J, hJ⟩ : ∃ J, rpBodyE (⟨V1.1, V2.1, V3.1, V4.1, st, X1.1, X2.1, X3.1, X4.1, [], [], false⟩ : Rep) = J := ⟨_, rfl⟩
  rw [hJ]
  have HJ : Hid (rpBodyE (⟨V1.1, V2.1, V3.1, V4.1, st, X1.1, X2.1, X3.1, X4.1, [], [], false⟩ : Rep) = J) := hJ
  clear hJ
  by_cases hj : J = 0
  case neg =>
    have hcb : (J != 0) = true := by simpa using hj
    have hfin := setRp_is rp0 none 0 0 none 0 0 hS.res
    have hB := hS.B.grown (setRp_grown wj w.heap.size rp0 none 0 0 none 0 0) hS.B.size (fun k hk => by cases hk; exact Nat.le_refl _)
    obtain ⟨⟨b0, b1, b2, b3, b4, b5, b6, b7, b8, b9, b10, b11⟩, bf⟩ := hS.res.c
    obtain ⟨⟨d0, d1, d2, d3, d4, d5, d6, d7, d8, d9, d10, d11⟩, df⟩ := hS.non.c
    have HJN : Hid (¬ J = 0) := hj
    clear hj
    go_wp2
    refine bodyPost_ret (RpB.res rfl _ rfl hfin) rfl ?_
    have hE : rpTE k cs = J := by rw [HT.out.1, HC.out, if_neg (by simp), HJ.out]
    exact ⟨rp0, none, 0, 0, none, 0, 0, by rw [hE]; rfl, by rw [hE, if_neg HJN.out], Lies.nil _, CLies.nil _ _, rfl, hB⟩
  subst hj
  have hfin := setRp_is (⟨V1.1, V2.1, V3.1, V4.1, st, X1.1, X2.1, X3.1, X4.1, [], [], false⟩ : Rep) none 0 0 none 0 0 hS.res
  have hB := hS.B.grown (setRp_grown wj w.heap.size (⟨V1.1, V2.1, V3.1, V4.1, st, X1.1, X2.1, X3.1, X4.1, [], [], false⟩ : Rep) none 0 0 none 0 0) hS.B.size (fun k hk => by cases hk; exact Nat.le_refl _)
  obtain ⟨⟨b0, b1, b2, b3, b4, b5, b6, b7, b8, b9, b10, b11⟩, bf⟩ := hS.res.c
  obtain ⟨⟨d0, d1, d2, d3, d4, d5, d6, d7, d8, d9, d10, d11⟩, df⟩ := hS.r.c
  go_wp2
  refine bodyPost_ret (RpB.res rfl _ rfl hfin) rfl ?_
  have hE : rpTE k cs = 0 := by rw [HT.out.1, HC.out, if_neg (by simp), HJ.out]
  refine ⟨(⟨V1.1, V2.1, V3.1, V4.1, st, X1.1, X2.1, X3.1, X4.1, [], [], false⟩ : Rep), none, 0, 0, none, 0, 0, by rw [hE]; rfl, by rw [hE, if_pos rfl, HT.out.2], ?_, ?_, rfl, hB⟩
  · exact Lies.nil _
  · exact CLies.nil _ _
end Go.Proofs.YtdkcplndplhblaaGreatDoor
