/- annexref4.DecodeRequest, of one operation. -/
import Derived.Test.YtdkcplndplhblaaGreatDoorPk28
namespace Go.Proofs.YtdkcplndplhblaaGreatDoor
open Go.RowKit
set_option maxRecDepth 100000

set_option maxHeartbeats 8000000 in
theorem rdecRq_9 (ao : Option Addr) (m c : Nat) (bs : List Int) (w : World) (hL : Lies w ao m c bs) (hm : m ≤ 200000000000000) (hby : Bys bs) (hop : openE [65, 78, 81, 49] m bs = 0) (k : Nat) (cs : List Int) (hk : k = m - 12) (hcs : cs = (bs.drop 4).take (m - 12)) (V1 V2 V3 V4 : Int × Nat × Int) (p5 : Nat) (X1 : Int × Nat × Int) (X2 : List Int × Nat × Int) (X3 : Int × Nat × Int) (X4 : List Int × Nat × Int) (h1 : rdNum 4 k cs 0 0 4294967295 = V1) (h2 : rdNum 8 k cs V1.2.1 V1.2.2 9223372036854775807 = V2) (h3 : rdNum 8 k cs V2.2.1 V2.2.2 9223372036854775807 = V3) (h4 : rdNum 8 k cs V3.2.1 V3.2.2 9223372036854775807 = V4) (h5 : rdNum 4 k cs V4.2.1 V4.2.2 4294967295 = (9, p5, 0)) (hH : rqHeadE (⟨V1.1, V2.1, V3.1, V4.1, 9, 0, 0, 0, 0, ⟨#[]⟩, ⟨#[]⟩, ⟨#[]⟩, []⟩ : Req) = 0) (g1 : rdNum 8 k cs p5 (0 : Int) 9223372036854775807 = X1) (g2 : rdText k cs X1.2.1 X1.2.2 23 = X2) (g3 : rdNum 8 k cs X2.2.1 X2.2.2 9223372036854775807 = X3) (g4 : rdText k cs X3.2.1 X3.2.2 23 = X4) :
    Calls Tryz.prog 28 #[.slice ao m c] w fun e w' => RqOut w k cs e w' := by
  have hTT := rqT_9 k cs V1 V2 V3 V4 p5 X1 X2 X3 X4 h1 h2 h3 h4 h5 hH g1 g2 g3 g4
  have HT : Hid (rqTE k cs = (if ¬ rdClose k X4.2.1 X4.2.2 = 0 then rdClose k X4.2.1 X4.2.2 else judgeE 9 (hasRq 9) (rqAny (⟨V1.1, V2.1, V3.1, V4.1, 9, X1.1, X3.1, 0, 0, ⟨#[]⟩, txt X2.1, txt X4.1, []⟩ : Req))) ∧ rq2 k cs = (⟨V1.1, V2.1, V3.1, V4.1, 9, X1.1, X3.1, 0, 0, ⟨#[]⟩, txt X2.1, txt X4.1, []⟩ : Req)) := hTT
  have HH : Hid (rqHeadE (⟨V1.1, V2.1, V3.1, V4.1, 9, 0, 0, 0, 0, ⟨#[]⟩, ⟨#[]⟩, ⟨#[]⟩, []⟩ : Req) = 0) := hH
  have H1 : Hid _ := h1
  have H2 : Hid _ := h2
  have H3 : Hid _ := h3
  have H4 : Hid _ := h4
  have H5 : Hid _ := h5
  have G1 : Hid _ := g1
  have G2 : Hid _ := g2
  have G3 : Hid _ := g3
  have G4 : Hid _ := g4
  clear h1 h2 h3 h4 h5 g1 g2 g3 g4
  clear hTT hH
  have dlp : decide ((112 : Int) ∈ nums ⟨#[105, 110, 106, 109]⟩) = false := by decide
  have dli : decide ((105 : Int) ∈ nums ⟨#[105, 110, 106, 109]⟩) = true := by decide
  have dlo : decide ((111 : Int) ∈ nums ⟨#[105, 110, 106, 109]⟩) = false := by decide
  have dll : decide ((108 : Int) ∈ nums ⟨#[105, 110, 106, 109]⟩) = false := by decide
  have dln : decide ((110 : Int) ∈ nums ⟨#[105, 110, 106, 109]⟩) = true := by decide
  have dlj : decide ((106 : Int) ∈ nums ⟨#[105, 110, 106, 109]⟩) = true := by decide
  have dlm : decide ((109 : Int) ∈ nums ⟨#[105, 110, 106, 109]⟩) = true := by decide
  have dld : decide ((100 : Int) ∈ nums ⟨#[105, 110, 106, 109]⟩) = false := by decide
  have hZ : QS0 w (((w.alloc (.cells #[.int .i64 0, .int .i64 0, .int .i64 0, .int .i64 0, .int .i64 0, .int .i64 0, .int .i64 0, .int .i64 0, .int .i64 0, .string ⟨#[]⟩, .string ⟨#[]⟩, .string ⟨#[]⟩, .slice none 0 0] 24)).alloc (.cells #[.int .i64 0, .int .i64 0, .int .i64 0, .int .i64 0, .int .i64 0, .int .i64 0, .int .i64 0, .int .i64 0, .int .i64 0, .string ⟨#[]⟩, .string ⟨#[]⟩, .string ⟨#[]⟩, .slice none 0 0] 24)).alloc (.cells #[.int .i64 0, .int .i64 0, .int .i64 0, .int .i64 0, .int .i64 0, .int .i64 0, .int .i64 0, .int .i64 0, .int .i64 0, .string ⟨#[]⟩, .string ⟨#[]⟩, .string ⟨#[]⟩, .slice none 0 0] 24)) := qs0 w
  have hm2 := openE_le hop hL.hlen
  go_enter Tryz.func28, Tryz.ntmps28
  go_wp2_with fail
  generalize ((w.alloc (.cells #[.int .i64 0, .int .i64 0, .int .i64 0, .int .i64 0, .int .i64 0, .int .i64 0, .int .i64 0, .int .i64 0, .int .i64 0, .string ⟨#[]⟩, .string ⟨#[]⟩, .string ⟨#[]⟩, .slice none 0 0] 24)).alloc (.cells #[.int .i64 0, .int .i64 0, .int .i64 0, .int .i64 0, .int .i64 0, .int .i64 0, .int .i64 0, .int .i64 0, .int .i64 0, .string ⟨#[]⟩, .string ⟨#[]⟩, .string ⟨#[]⟩, .slice none 0 0] 24)).alloc (.cells #[.int .i64 0, .int .i64 0, .int .i64 0, .int .i64 0, .int .i64 0, .int .i64 0, .int .i64 0, .int .i64 0, .int .i64 0, .string ⟨#[]⟩, .string ⟨#[]⟩, .string ⟨#[]⟩, .slice none 0 0] 24) = w3 at *
  refine (ropened_any ⟨#[65, 78, 81, 49]⟩ ao m c bs _ rfl (hL.below hZ.B (Nat.le_refl _)) hm hby).mono ?_
  rintro e wo (⟨hno, _⟩ | ⟨_, rb, ar, cr, rfl, hR, hrb, har, hbo⟩)
  · exact absurd hop hno
  have hS : QS w rb ar cr k cs (0, 0) rq0 none 0 0 wo := hZ.open hR hrb har hbo hk hcs hby hm2
  have hcl : cs.length ≤ 1400 := by rw [hcs]; simp; omega
  clear hZ hR hrb har hbo hop hL
  go_wp2_with fail
  refine (v_u32 hS.dr H1.out).mono ?_
  rintro e w10 ⟨rfl, hd, hg⟩
  have hS := hS.read hd hg
  clear hd hg
  obtain ⟨⟨b0, b1, b2, b3, b4, b5, b6, b7, b8, b9, b10, b11, b12⟩, bf⟩ := hS.r.c
  have hS := hS.put (s' := ⟨V1.1, 0, 0, 0, 0, 0, 0, 0, 0, ⟨#[]⟩, ⟨#[]⟩, ⟨#[]⟩, []⟩) (do2 := none) (dn2 := 0) (dc2 := 0) (j := 0) (u := .int .i64 V1.1) (by rw [RqB, heap_setCell_same _ _ _ _ _ _ hS.r]; rfl)
  go_wp2_with fail
  clear b0 b1 b2 b3 b4 b5 b6 b7 b8 b9 b10 b11 b12 bf
  refine (v_u64 hS.dr H2.out).mono ?_
  rintro e w11 ⟨rfl, hd, hg⟩
  have hS := hS.read hd hg
  clear hd hg
  obtain ⟨⟨b0, b1, b2, b3, b4, b5, b6, b7, b8, b9, b10, b11, b12⟩, bf⟩ := hS.r.c
  have hS := hS.put (s' := ⟨V1.1, V2.1, 0, 0, 0, 0, 0, 0, 0, ⟨#[]⟩, ⟨#[]⟩, ⟨#[]⟩, []⟩) (do2 := none) (dn2 := 0) (dc2 := 0) (j := 1) (u := .int .i64 V2.1) (by rw [RqB, heap_setCell_same _ _ _ _ _ _ hS.r]; rfl)
  go_wp2_with fail
  clear b0 b1 b2 b3 b4 b5 b6 b7 b8 b9 b10 b11 b12 bf
  refine (v_u64 hS.dr H3.out).mono ?_
  rintro e w12 ⟨rfl, hd, hg⟩
  have hS := hS.read hd hg
  clear hd hg
  obtain ⟨⟨b0, b1, b2, b3, b4, b5, b6, b7, b8, b9, b10, b11, b12⟩, bf⟩ := hS.r.c
  have hS := hS.put (s' := ⟨V1.1, V2.1, V3.1, 0, 0, 0, 0, 0, 0, ⟨#[]⟩, ⟨#[]⟩, ⟨#[]⟩, []⟩) (do2 := none) (dn2 := 0) (dc2 := 0) (j := 2) (u := .int .i64 V3.1) (by rw [RqB, heap_setCell_same _ _ _ _ _ _ hS.r]; rfl)
  go_wp2_with fail
  clear b0 b1 b2 b3 b4 b5 b6 b7 b8 b9 b10 b11 b12 bf
  refine (v_u64 hS.dr H4.out).mono ?_
  rintro e w13 ⟨rfl, hd, hg⟩
  have hS := hS.read hd hg
  clear hd hg
  obtain ⟨⟨b0, b1, b2, b3, b4, b5, b6, b7, b8, b9, b10, b11, b12⟩, bf⟩ := hS.r.c
  have hS := hS.put (s' := ⟨V1.1, V2.1, V3.1, V4.1, 0, 0, 0, 0, 0, ⟨#[]⟩, ⟨#[]⟩, ⟨#[]⟩, []⟩) (do2 := none) (dn2 := 0) (dc2 := 0) (j := 3) (u := .int .i64 V4.1) (by rw [RqB, heap_setCell_same _ _ _ _ _ _ hS.r]; rfl)
  go_wp2_with fail
  clear b0 b1 b2 b3 b4 b5 b6 b7 b8 b9 b10 b11 b12 bf
  refine (v_u32 hS.dr H5.out).mono ?_
  rintro e w14 ⟨rfl, hd, hg⟩
  have hS := hS.read hd hg
  clear hd hg
  obtain ⟨⟨b0, b1, b2, b3, b4, b5, b6, b7, b8, b9, b10, b11, b12⟩, bf⟩ := hS.r.c
  have hS := hS.put (s' := ⟨V1.1, V2.1, V3.1, V4.1, 9, 0, 0, 0, 0, ⟨#[]⟩, ⟨#[]⟩, ⟨#[]⟩, []⟩) (do2 := none) (dn2 := 0) (dc2 := 0) (j := 4) (u := .int .i64 9) (by rw [RqB, heap_setCell_same _ _ _ _ _ _ hS.r]; rfl)
  go_wp2_with fail
  clear b0 b1 b2 b3 b4 b5 b6 b7 b8 b9 b10 b11 b12 bf
  refine (d_err hS.dr).mono ?_
  rintro e we ⟨rfl, hb⟩
  have hS := hS.below hb
  clear hb
  obtain ⟨⟨b0, b1, b2, b3, b4, b5, b6, b7, b8, b9, b10, b11, b12⟩, bf⟩ := hS.r.c
  go_wp2_with fail
  clear b0 b1 b2 b3 b4 b5 b6 b7 b8 b9 b10 b11 b12 bf
  refine (rhead_any (⟨V1.1, V2.1, V3.1, V4.1, 9, 0, 0, 0, 0, ⟨#[]⟩, ⟨#[]⟩, ⟨#[]⟩, []⟩ : Req) none 0 0 _).mono ?_
  rintro e wf ⟨rfl, hb⟩
  rw [HH.out]
  have hS := hS.below hb
  clear hb
  obtain ⟨⟨b0, b1, b2, b3, b4, b5, b6, b7, b8, b9, b10, b11, b12⟩, bf⟩ := hS.r.c
  go_wp2_with fail
  clear b0 b1 b2 b3 b4 b5 b6 b7 b8 b9 b10 b11 b12 bf
  refine (rhas_is (s := ⟨#[105, 110, 106, 109]⟩) rfl _).mono ?_
  rintro e wn ⟨rfl, hwn⟩
  subst wn
  go_wp2_with (go_at_call 68; refine (rin_any _ _ _ (by decide)).mono ?_; rintro e wn ⟨rfl, hwn⟩; subst wn; first | rw [dlp] | rw [dli] | rw [dlo] | rw [dll] | rw [dln] | rw [dlj] | rw [dlm] | rw [dld])
  refine (v_u64 hS.dr G1.out).mono ?_
  rintro e w15 ⟨rfl, hd, hg⟩
  have hS := hS.read hd hg
  clear hd hg
  obtain ⟨⟨b0, b1, b2, b3, b4, b5, b6, b7, b8, b9, b10, b11, b12⟩, bf⟩ := hS.r.c
  have hS := hS.put (s' := ⟨V1.1, V2.1, V3.1, V4.1, 9, X1.1, 0, 0, 0, ⟨#[]⟩, ⟨#[]⟩, ⟨#[]⟩, []⟩) (do2 := none) (dn2 := 0) (dc2 := 0) (j := 5) (u := .int .i64 X1.1) (by rw [RqB, heap_setCell_same _ _ _ _ _ _ hS.r]; rfl)
  go_wp2_with (go_at_call 68; refine (rin_any _ _ _ (by decide)).mono ?_; rintro e wn ⟨rfl, hwn⟩; subst wn; first | rw [dlp] | rw [dli] | rw [dlo] | rw [dll] | rw [dln] | rw [dlj] | rw [dlm] | rw [dld])
  clear b0 b1 b2 b3 b4 b5 b6 b7 b8 b9 b10 b11 b12 bf
  refine (v_text 23 (by omega) hS.dr G2.out).mono ?_
  rintro e w16 ⟨rfl, hd, hg⟩
  have hS := hS.read hd hg
  clear hd hg
  obtain ⟨⟨b0, b1, b2, b3, b4, b5, b6, b7, b8, b9, b10, b11, b12⟩, bf⟩ := hS.r.c
  have hS := hS.put (s' := ⟨V1.1, V2.1, V3.1, V4.1, 9, X1.1, 0, 0, 0, ⟨#[]⟩, txt X2.1, ⟨#[]⟩, []⟩) (do2 := none) (dn2 := 0) (dc2 := 0) (j := 10) (u := .string (txt X2.1)) (by rw [RqB, heap_setCell_same _ _ _ _ _ _ hS.r]; rfl)
  go_wp2_with (go_at_call 68; refine (rin_any _ _ _ (by decide)).mono ?_; rintro e wn ⟨rfl, hwn⟩; subst wn; first | rw [dlp] | rw [dli] | rw [dlo] | rw [dll] | rw [dln] | rw [dlj] | rw [dlm] | rw [dld])
  clear b0 b1 b2 b3 b4 b5 b6 b7 b8 b9 b10 b11 b12 bf
  refine (v_u64 hS.dr G3.out).mono ?_
  rintro e w17 ⟨rfl, hd, hg⟩
  have hS := hS.read hd hg
  clear hd hg
  obtain ⟨⟨b0, b1, b2, b3, b4, b5, b6, b7, b8, b9, b10, b11, b12⟩, bf⟩ := hS.r.c
  have hS := hS.put (s' := ⟨V1.1, V2.1, V3.1, V4.1, 9, X1.1, X3.1, 0, 0, ⟨#[]⟩, txt X2.1, ⟨#[]⟩, []⟩) (do2 := none) (dn2 := 0) (dc2 := 0) (j := 6) (u := .int .i64 X3.1) (by rw [RqB, heap_setCell_same _ _ _ _ _ _ hS.r]; rfl)
  go_wp2_with (go_at_call 68; refine (rin_any _ _ _ (by decide)).mono ?_; rintro e wn ⟨rfl, hwn⟩; subst wn; first | rw [dlp] | rw [dli] | rw [dlo] | rw [dll] | rw [dln] | rw [dlj] | rw [dlm] | rw [dld])
  clear b0 b1 b2 b3 b4 b5 b6 b7 b8 b9 b10 b11 b12 bf
  refine (v_text 23 (by omega) hS.dr G4.out).mono ?_
  rintro e w18 ⟨rfl, hd, hg⟩
  have hS := hS.read hd hg
  clear hd hg
  obtain ⟨⟨b0, b1, b2, b3, b4, b5, b6, b7, b8, b9, b10, b11, b12⟩, bf⟩ := hS.r.c
  have hS := hS.put (s' := ⟨V1.1, V2.1, V3.1, V4.1, 9, X1.1, X3.1, 0, 0, ⟨#[]⟩, txt X2.1, txt X4.1, []⟩) (do2 := none) (dn2 := 0) (dc2 := 0) (j := 11) (u := .string (txt X4.1)) (by rw [RqB, heap_setCell_same _ _ _ _ _ _ hS.r]; rfl)
  go_wp2_with (go_at_call 68; refine (rin_any _ _ _ (by decide)).mono ?_; rintro e wn ⟨rfl, hwn⟩; subst wn; first | rw [dlp] | rw [dli] | rw [dlo] | rw [dll] | rw [dln] | rw [dlj] | rw [dlm] | rw [dld])
  clear b0 b1 b2 b3 b4 b5 b6 b7 b8 b9 b10 b11 b12 bf
  obtain ⟨CE, hCE⟩ : ∃ CE, rdClose k X4.2.1 X4.2.2 = CE := ⟨_, rfl⟩
  have HC : Hid (rdClose k X4.2.1 X4.2.2 = CE) := hCE
  clear hCE
  refine (v_close hS.dr HC.out).mono ?_
  rintro e wc ⟨rfl, hg⟩
  have hS := hS.shut hg
  clear hg
  by_cases hce : CE = 0
  case neg =>
    have hcb : (CE != 0) = true := by simpa using hce
    have hfin := setRq_is rq0 none 0 0 hS.res
    have hB := hS.B.grown (setRq_grown wc w.heap.size rq0 none 0 0) hS.B.size (fun k hk => by cases hk; exact Nat.le_refl _)
    obtain ⟨⟨b0, b1, b2, b3, b4, b5, b6, b7, b8, b9, b10, b11, b12⟩, bf⟩ := hS.res.c
    obtain ⟨⟨d0, d1, d2, d3, d4, d5, d6, d7, d8, d9, d10, d11, d12⟩, df⟩ := hS.non.c
    have HCN : Hid (¬ CE = 0) := hce
    clear hce
    go_wp2
    refine bodyPost_ret (RqB.res rfl _ rfl hfin) rfl ?_
    have hE : rqTE k cs = CE := by rw [HT.out.1, HC.out, if_pos HCN.out]
    exact ⟨rq0, none, 0, 0, by rw [hE]; rfl, by rw [hE, if_neg HCN.out], Lies.nil _, hB⟩
  subst hce
  obtain ⟨⟨b0, b1, b2, b3, b4, b5, b6, b7, b8, b9, b10, b11, b12⟩, bf⟩ := hS.r.c
  go_wp2_with fail
  clear b0 b1 b2 b3 b4 b5 b6 b7 b8 b9 b10 b11 b12 bf
  refine (rfields_9 V1.1 V2.1 V3.1 V4.1 X1.1 X3.1 0 0 ⟨#[]⟩ (txt X2.1) (txt X4.1) [] none 0 0 _ rfl (by decide)).mono ?_
  rintro e wj ⟨rfl, hb⟩
  have hS := hS.below hb
  clear hb
  obtain ⟨J, hJ⟩ : ∃ J, judgeE 9 (hasRq 9) (rqAny (⟨V1.1, V2.1, V3.1, V4.1, 9, X1.1, X3.1, 0, 0, ⟨#[]⟩, txt X2.1, txt X4.1, []⟩ : Req)) = J := ⟨_, rfl⟩
  rw [hJ]
  have HJ : Hid (judgeE 9 (hasRq 9) (rqAny (⟨V1.1, V2.1, V3.1, V4.1, 9, X1.1, X3.1, 0, 0, ⟨#[]⟩, txt X2.1, txt X4.1, []⟩ : Req)) = J) := hJ
  clear hJ
  by_cases hj : J = 0
  case neg =>
    have hcb : (J != 0) = true := by simpa using hj
    have hfin := setRq_is rq0 none 0 0 hS.res
    have hB := hS.B.grown (setRq_grown wj w.heap.size rq0 none 0 0) hS.B.size (fun k hk => by cases hk; exact Nat.le_refl _)
    obtain ⟨⟨b0, b1, b2, b3, b4, b5, b6, b7, b8, b9, b10, b11, b12⟩, bf⟩ := hS.res.c
    obtain ⟨⟨d0, d1, d2, d3, d4, d5, d6, d7, d8, d9, d10, d11, d12⟩, df⟩ := hS.non.c
    have HJN : Hid (¬ J = 0) := hj
    clear hj
    go_wp2
    refine bodyPost_ret (RqB.res rfl _ rfl hfin) rfl ?_
    have hE : rqTE k cs = J := by rw [HT.out.1, HC.out, if_neg (by simp), HJ.out]
    exact ⟨rq0, none, 0, 0, by rw [hE]; rfl, by rw [hE, if_neg HJN.out], Lies.nil _, hB⟩
  subst hj
  have hfin := setRq_is (⟨V1.1, V2.1, V3.1, V4.1, 9, X1.1, X3.1, 0, 0, ⟨#[]⟩, txt X2.1, txt X4.1, []⟩ : Req) none 0 0 hS.res
  have hB := hS.B.grown (setRq_grown wj w.heap.size (⟨V1.1, V2.1, V3.1, V4.1, 9, X1.1, X3.1, 0, 0, ⟨#[]⟩, txt X2.1, txt X4.1, []⟩ : Req) none 0 0) hS.B.size (fun k hk => by cases hk; exact Nat.le_refl _)
  obtain ⟨⟨b0, b1, b2, b3, b4, b5, b6, b7, b8, b9, b10, b11, b12⟩, bf⟩ := hS.res.c
  obtain ⟨⟨d0, d1, d2, d3, d4, d5, d6, d7, d8, d9, d10, d11, d12⟩, df⟩ := hS.r.c
  go_wp2
  refine bodyPost_ret (RqB.res rfl _ rfl hfin) rfl ?_
  have hE : rqTE k cs = 0 := by rw [HT.out.1, HC.out, if_neg (by simp), HJ.out]
  refine ⟨(⟨V1.1, V2.1, V3.1, V4.1, 9, X1.1, X3.1, 0, 0, ⟨#[]⟩, txt X2.1, txt X4.1, []⟩ : Req), none, 0, 0, by rw [hE]; rfl, by rw [hE, if_pos rfl, HT.out.2], ?_, hB⟩
  exact Lies.nil _

set_option maxHeartbeats 8000000 in
theorem rdecRq_10 (ao : Option Addr) (m c : Nat) (bs : List Int) (w : World) (hL : Lies w ao m c bs) (hm : m ≤ 200000000000000) (hby : Bys bs) (hop : openE [65, 78, 81, 49] m bs = 0) (k : Nat) (cs : List Int) (hk : k = m - 12) (hcs : cs = (bs.drop 4).take (m - 12)) (V1 V2 V3 V4 : Int × Nat × Int) (p5 : Nat) (X1 : Int × Nat × Int) (X2 : Int × Nat × Int) (X3 : List Int × Nat × Int) (h1 : rdNum 4 k cs 0 0 4294967295 = V1) (h2 : rdNum 8 k cs V1.2.1 V1.2.2 9223372036854775807 = V2) (h3 : rdNum 8 k cs V2.2.1 V2.2.2 9223372036854775807 = V3) (h4 : rdNum 8 k cs V3.2.1 V3.2.2 9223372036854775807 = V4) (h5 : rdNum 4 k cs V4.2.1 V4.2.2 4294967295 = (10, p5, 0)) (hH : rqHeadE (⟨V1.1, V2.1, V3.1, V4.1, 10, 0, 0, 0, 0, ⟨#[]⟩, ⟨#[]⟩, ⟨#[]⟩, []⟩ : Req) = 0) (g1 : rdNum 8 k cs p5 (0 : Int) 9223372036854775807 = X1) (g2 : rdNum 4 k cs X1.2.1 X1.2.2 4294967295 = X2) (g3 : rdText k cs X2.2.1 X2.2.2 23 = X3) :
    Calls Tryz.prog 28 #[.slice ao m c] w fun e w' => RqOut w k cs e w' := by
  have hTT := rqT_10 k cs V1 V2 V3 V4 p5 X1 X2 X3 h1 h2 h3 h4 h5 hH g1 g2 g3
  have HT : Hid (rqTE k cs = (if ¬ rdClose k X3.2.1 X3.2.2 = 0 then rdClose k X3.2.1 X3.2.2 else judgeE 10 (hasRq 10) (rqAny (⟨V1.1, V2.1, V3.1, V4.1, 10, X1.1, 0, 0, X2.1, ⟨#[]⟩, txt X3.1, ⟨#[]⟩, []⟩ : Req))) ∧ rq2 k cs = (⟨V1.1, V2.1, V3.1, V4.1, 10, X1.1, 0, 0, X2.1, ⟨#[]⟩, txt X3.1, ⟨#[]⟩, []⟩ : Req)) := hTT
  have HH : Hid (rqHeadE (⟨V1.1, V2.1, V3.1, V4.1, 10, 0, 0, 0, 0, ⟨#[]⟩, ⟨#[]⟩, ⟨#[]⟩, []⟩ : Req) = 0) := hH
  have H1 : Hid _ := h1
  have H2 : Hid _ := h2
  have H3 : Hid _ := h3
  have H4 : Hid _ := h4
  have H5 : Hid _ := h5
  have G1 : Hid _ := g1
  have G2 : Hid _ := g2
  have G3 : Hid _ := g3
  clear h1 h2 h3 h4 h5 g1 g2 g3
  clear hTT hH
  have dlp : decide ((112 : Int) ∈ nums ⟨#[105, 108, 110]⟩) = false := by decide
  have dli : decide ((105 : Int) ∈ nums ⟨#[105, 108, 110]⟩) = true := by decide
  have dlo : decide ((111 : Int) ∈ nums ⟨#[105, 108, 110]⟩) = false := by decide
  have dll : decide ((108 : Int) ∈ nums ⟨#[105, 108, 110]⟩) = true := by decide
  have dln : decide ((110 : Int) ∈ nums ⟨#[105, 108, 110]⟩) = true := by decide
  have dlj : decide ((106 : Int) ∈ nums ⟨#[105, 108, 110]⟩) = false := by decide
  have dlm : decide ((109 : Int) ∈ nums ⟨#[105, 108, 110]⟩) = false := by decide
  have dld : decide ((100 : Int) ∈ nums ⟨#[105, 108, 110]⟩) = false := by decide
  have hZ : QS0 w (((w.alloc (.cells #[.int .i64 0, .int .i64 0, .int .i64 0, .int .i64 0, .int .i64 0, .int .i64 0, .int .i64 0, .int .i64 0, .int .i64 0, .string ⟨#[]⟩, .string ⟨#[]⟩, .string ⟨#[]⟩, .slice none 0 0] 24)).alloc (.cells #[.int .i64 0, .int .i64 0, .int .i64 0, .int .i64 0, .int .i64 0, .int .i64 0, .int .i64 0, .int .i64 0, .int .i64 0, .string ⟨#[]⟩, .string ⟨#[]⟩, .string ⟨#[]⟩, .slice none 0 0] 24)).alloc (.cells #[.int .i64 0, .int .i64 0, .int .i64 0, .int .i64 0, .int .i64 0, .int .i64 0, .int .i64 0, .int .i64 0, .int .i64 0, .string ⟨#[]⟩, .string ⟨#[]⟩, .string ⟨#[]⟩, .slice none 0 0] 24)) := qs0 w
  have hm2 := openE_le hop hL.hlen
  go_enter Tryz.func28, Tryz.ntmps28
  go_wp2_with fail
  generalize ((w.alloc (.cells #[.int .i64 0, .int .i64 0, .int .i64 0, .int .i64 0, .int .i64 0, .int .i64 0, .int .i64 0, .int .i64 0, .int .i64 0, .string ⟨#[]⟩, .string ⟨#[]⟩, .string ⟨#[]⟩, .slice none 0 0] 24)).alloc (.cells #[.int .i64 0, .int .i64 0, .int .i64 0, .int .i64 0, .int .i64 0, .int .i64 0, .int .i64 0, .int .i64 0, .int .i64 0, .string ⟨#[]⟩, .string ⟨#[]⟩, .string ⟨#[]⟩, .slice none 0 0] 24)).alloc (.cells #[.int .i64 0, .int .i64 0, .int .i64 0, .int .i64 0, .int .i64 0, .int .i64 0, .int .i64 0, .int .i64 0, .int .i64 0, .string ⟨#[]⟩, .string ⟨#[]⟩, .string ⟨#[]⟩, .slice none 0 0] 24) = w3 at *
  refine (ropened_any ⟨#[65, 78, 81, 49]⟩ ao m c bs _ rfl (hL.below hZ.B (Nat.le_refl _)) hm hby).mono ?_
  rintro e wo (⟨hno, _⟩ | ⟨_, rb, ar, cr, rfl, hR, hrb, har, hbo⟩)
  · exact absurd hop hno
  have hS : QS w rb ar cr k cs (0, 0) rq0 none 0 0 wo := hZ.open hR hrb har hbo hk hcs hby hm2
  have hcl : cs.length ≤ 1400 := by rw [hcs]; simp; omega
  clear hZ hR hrb har hbo hop hL
  go_wp2_with fail
  refine (v_u32 hS.dr H1.out).mono ?_
  rintro e w10 ⟨rfl, hd, hg⟩
  have hS := hS.read hd hg
  clear hd hg
  obtain ⟨⟨b0, b1, b2, b3, b4, b5, b6, b7, b8, b9, b10, b11, b12⟩, bf⟩ := hS.r.c
  have hS := hS.put (s' := ⟨V1.1, 0, 0, 0, 0, 0, 0, 0, 0, ⟨#[]⟩, ⟨#[]⟩, ⟨#[]⟩, []⟩) (do2 := none) (dn2 := 0) (dc2 := 0) (j := 0) (u := .int .i64 V1.1) (by rw [RqB, heap_setCell_same _ _ _ _ _ _ hS.r]; rfl)
  go_wp2_with fail
  clear b0 b1 b2 b3 b4 b5 b6 b7 b8 b9 b10 b11 b12 bf
  refine (v_u64 hS.dr H2.out).mono ?_
  rintro e w11 ⟨rfl, hd, hg⟩
  have hS := hS.read hd hg
  clear hd hg
  obtain ⟨⟨b0, b1, b2, b3, b4, b5, b6, b7, b8, b9, b10, b11, b12⟩, bf⟩ := hS.r.c
  have hS := hS.put (s' := ⟨V1.1, V2.1, 0, 0, 0, 0, 0, 0, 0, ⟨#[]⟩, ⟨#[]⟩, ⟨#[]⟩, []⟩) (do2 := none) (dn2 := 0) (dc2 := 0) (j := 1) (u := .int .i64 V2.1) (by rw [RqB, heap_setCell_same _ _ _ _ _ _ hS.r]; rfl)
  go_wp2_with fail
  clear b0 b1 b2 b3 b4 b5 b6 b7 b8 b9 b10 b11 b12 bf
  refine (v_u64 hS.dr H3.out).mono ?_
  rintro e w12 ⟨rfl, hd, hg⟩
  have hS := hS.read hd hg
  clear hd hg
  obtain ⟨⟨b0, b1, b2, b3, b4, b5, b6, b7, b8, b9, b10, b11, b12⟩, bf⟩ := hS.r.c
  have hS := hS.put (s' := ⟨V1.1, V2.1, V3.1, 0, 0, 0, 0, 0, 0, ⟨#[]⟩, ⟨#[]⟩, ⟨#[]⟩, []⟩) (do2 := none) (dn2 := 0) (dc2 := 0) (j := 2) (u := .int .i64 V3.1) (by rw [RqB, heap_setCell_same _ _ _ _ _ _ hS.r]; rfl)
  go_wp2_with fail
  clear b0 b1 b2 b3 b4 b5 b6 b7 b8 b9 b10 b11 b12 bf
  refine (v_u64 hS.dr H4.out).mono ?_
  rintro e w13 ⟨rfl, hd, hg⟩
  have hS := hS.read hd hg
  clear hd hg
  obtain ⟨⟨b0, b1, b2, b3, b4, b5, b6, b7, b8, b9, b10, b11, b12⟩, bf⟩ := hS.r.c
  have hS := hS.put (s' := ⟨V1.1, V2.1, V3.1, V4.1, 0, 0, 0, 0, 0, ⟨#[]⟩, ⟨#[]⟩, ⟨#[]⟩, []⟩) (do2 := none) (dn2 := 0) (dc2 := 0) (j := 3) (u := .int .i64 V4.1) (by rw [RqB, heap_setCell_same _ _ _ _ _ _ hS.r]; rfl)
  go_wp2_with fail
  clear b0 b1 b2 b3 b4 b5 b6 b7 b8 b9 b10 b11 b12 bf
  refine (v_u32 hS.dr H5.out).mono ?_
  rintro e w14 ⟨rfl, hd, hg⟩
  have hS := hS.read hd hg
  clear hd hg
  obtain ⟨⟨b0, b1, b2, b3, b4, b5, b6, b7, b8, b9, b10, b11, b12⟩, bf⟩ := hS.r.c
  have hS := hS.put (s' := ⟨V1.1, V2.1, V3.1, V4.1, 10, 0, 0, 0, 0, ⟨#[]⟩, ⟨#[]⟩, ⟨#[]⟩, []⟩) (do2 := none) (dn2 := 0) (dc2 := 0) (j := 4) (u := .int .i64 10) (by rw [RqB, heap_setCell_same _ _ _ _ _ _ hS.r]; rfl)
  go_wp2_with fail
  clear b0 b1 b2 b3 b4 b5 b6 b7 b8 b9 b10 b11 b12 bf
  refine (d_err hS.dr).mono ?_
  rintro e we ⟨rfl, hb⟩
  have hS := hS.below hb
  clear hb
  obtain ⟨⟨b0, b1, b2, b3, b4, b5, b6, b7, b8, b9, b10, b11, b12⟩, bf⟩ := hS.r.c
  go_wp2_with fail
  clear b0 b1 b2 b3 b4 b5 b6 b7 b8 b9 b10 b11 b12 bf
  refine (rhead_any (⟨V1.1, V2.1, V3.1, V4.1, 10, 0, 0, 0, 0, ⟨#[]⟩, ⟨#[]⟩, ⟨#[]⟩, []⟩ : Req) none 0 0 _).mono ?_
  rintro e wf ⟨rfl, hb⟩
  rw [HH.out]
  have hS := hS.below hb
  clear hb
  obtain ⟨⟨b0, b1, b2, b3, b4, b5, b6, b7, b8, b9, b10, b11, b12⟩, bf⟩ := hS.r.c
  go_wp2_with fail
  clear b0 b1 b2 b3 b4 b5 b6 b7 b8 b9 b10 b11 b12 bf
  refine (rhas_is (s := ⟨#[105, 108, 110]⟩) rfl _).mono ?_
  rintro e wn ⟨rfl, hwn⟩
  subst wn
  go_wp2_with (go_at_call 68; refine (rin_any _ _ _ (by decide)).mono ?_; rintro e wn ⟨rfl, hwn⟩; subst wn; first | rw [dlp] | rw [dli] | rw [dlo] | rw [dll] | rw [dln] | rw [dlj] | rw [dlm] | rw [dld])
  refine (v_u64 hS.dr G1.out).mono ?_
  rintro e w15 ⟨rfl, hd, hg⟩
  have hS := hS.read hd hg
  clear hd hg
  obtain ⟨⟨b0, b1, b2, b3, b4, b5, b6, b7, b8, b9, b10, b11, b12⟩, bf⟩ := hS.r.c
  have hS := hS.put (s' := ⟨V1.1, V2.1, V3.1, V4.1, 10, X1.1, 0, 0, 0, ⟨#[]⟩, ⟨#[]⟩, ⟨#[]⟩, []⟩) (do2 := none) (dn2 := 0) (dc2 := 0) (j := 5) (u := .int .i64 X1.1) (by rw [RqB, heap_setCell_same _ _ _ _ _ _ hS.r]; rfl)
  go_wp2_with (go_at_call 68; refine (rin_any _ _ _ (by decide)).mono ?_; rintro e wn ⟨rfl, hwn⟩; subst wn; first | rw [dlp] | rw [dli] | rw [dlo] | rw [dll] | rw [dln] | rw [dlj] | rw [dlm] | rw [dld])
  clear b0 b1 b2 b3 b4 b5 b6 b7 b8 b9 b10 b11 b12 bf
  refine (v_u32 hS.dr G2.out).mono ?_
  rintro e w16 ⟨rfl, hd, hg⟩
  have hS := hS.read hd hg
  clear hd hg
  obtain ⟨⟨b0, b1, b2, b3, b4, b5, b6, b7, b8, b9, b10, b11, b12⟩, bf⟩ := hS.r.c
  have hS := hS.put (s' := ⟨V1.1, V2.1, V3.1, V4.1, 10, X1.1, 0, 0, X2.1, ⟨#[]⟩, ⟨#[]⟩, ⟨#[]⟩, []⟩) (do2 := none) (dn2 := 0) (dc2 := 0) (j := 8) (u := .int .i64 X2.1) (by rw [RqB, heap_setCell_same _ _ _ _ _ _ hS.r]; rfl)
  go_wp2_with (go_at_call 68; refine (rin_any _ _ _ (by decide)).mono ?_; rintro e wn ⟨rfl, hwn⟩; subst wn; first | rw [dlp] | rw [dli] | rw [dlo] | rw [dll] | rw [dln] | rw [dlj] | rw [dlm] | rw [dld])
  clear b0 b1 b2 b3 b4 b5 b6 b7 b8 b9 b10 b11 b12 bf
  refine (v_text 23 (by omega) hS.dr G3.out).mono ?_
  rintro e w17 ⟨rfl, hd, hg⟩
  have hS := hS.read hd hg
  clear hd hg
  obtain ⟨⟨b0, b1, b2, b3, b4, b5, b6, b7, b8, b9, b10, b11, b12⟩, bf⟩ := hS.r.c
  have hS := hS.put (s' := ⟨V1.1, V2.1, V3.1, V4.1, 10, X1.1, 0, 0, X2.1, ⟨#[]⟩, txt X3.1, ⟨#[]⟩, []⟩) (do2 := none) (dn2 := 0) (dc2 := 0) (j := 10) (u := .string (txt X3.1)) (by rw [RqB, heap_setCell_same _ _ _ _ _ _ hS.r]; rfl)
  go_wp2_with (go_at_call 68; refine (rin_any _ _ _ (by decide)).mono ?_; rintro e wn ⟨rfl, hwn⟩; subst wn; first | rw [dlp] | rw [dli] | rw [dlo] | rw [dll] | rw [dln] | rw [dlj] | rw [dlm] | rw [dld])
  clear b0 b1 b2 b3 b4 b5 b6 b7 b8 b9 b10 b11 b12 bf
  obtain ⟨CE, hCE⟩ : ∃ CE, rdClose k X3.2.1 X3.2.2 = CE := ⟨_, rfl⟩
  have HC : Hid (rdClose k X3.2.1 X3.2.2 = CE) := hCE
  clear hCE
  refine (v_close hS.dr HC.out).mono ?_
  rintro e wc ⟨rfl, hg⟩
  have hS := hS.shut hg
  clear hg
  by_cases hce : CE = 0
  case neg =>
    have hcb : (CE != 0) = true := by simpa using hce
    have hfin := setRq_is rq0 none 0 0 hS.res
    have hB := hS.B.grown (setRq_grown wc w.heap.size rq0 none 0 0) hS.B.size (fun k hk => by cases hk; exact Nat.le_refl _)
    obtain ⟨⟨b0, b1, b2, b3, b4, b5, b6, b7, b8, b9, b10, b11, b12⟩, bf⟩ := hS.res.c
    obtain ⟨⟨d0, d1, d2, d3, d4, d5, d6, d7, d8, d9, d10, d11, d12⟩, df⟩ := hS.non.c
    have HCN : Hid (¬ CE = 0) := hce
    clear hce
    go_wp2
    refine bodyPost_ret (RqB.res rfl _ rfl hfin) rfl ?_
    have hE : rqTE k cs = CE := by rw [HT.out.1, HC.out, if_pos HCN.out]
    exact ⟨rq0, none, 0, 0, by rw [hE]; rfl, by rw [hE, if_neg HCN.out], Lies.nil _, hB⟩
  subst hce
  obtain ⟨⟨b0, b1, b2, b3, b4, b5, b6, b7, b8, b9, b10, b11, b12⟩, bf⟩ := hS.r.c
  go_wp2_with fail
  clear b0 b1 b2 b3 b4 b5 b6 b7 b8 b9 b10 b11 b12 bf
  refine (rfields_10 V1.1 V2.1 V3.1 V4.1 X1.1 0 0 X2.1 ⟨#[]⟩ (txt X3.1) ⟨#[]⟩ [] none 0 0 _ rfl (by decide)).mono ?_
  rintro e wj ⟨rfl, hb⟩
  have hS := hS.below hb
  clear hb
  obtain ⟨J, hJ⟩ : ∃ J, judgeE 10 (hasRq 10) (rqAny (⟨V1.1, V2.1, V3.1, V4.1, 10, X1.1, 0, 0, X2.1, ⟨#[]⟩, txt X3.1, ⟨#[]⟩, []⟩ : Req)) = J := ⟨_, rfl⟩
  rw [hJ]
  have HJ : Hid (judgeE 10 (hasRq 10) (rqAny (⟨V1.1, V2.1, V3.1, V4.1, 10, X1.1, 0, 0, X2.1, ⟨#[]⟩, txt X3.1, ⟨#[]⟩, []⟩ : Req)) = J) := hJ
  clear hJ
  by_cases hj : J = 0
  case neg =>
    have hcb : (J != 0) = true := by simpa using hj
    have hfin := setRq_is rq0 none 0 0 hS.res
    have hB := hS.B.grown (setRq_grown wj w.heap.size rq0 none 0 0) hS.B.size (fun k hk => by cases hk; exact Nat.le_refl _)
    obtain ⟨⟨b0, b1, b2, b3, b4, b5, b6, b7, b8, b9, b10, b11, b12⟩, bf⟩ := hS.res.c
    obtain ⟨⟨d0, d1, d2, d3, d4, d5, d6, d7, d8, d9, d10, d11, d12⟩, df⟩ := hS.non.c
    have HJN : Hid (¬ J = 0) := hj
    clear hj
    go_wp2
    refine bodyPost_ret (RqB.res rfl _ rfl hfin) rfl ?_
    have hE : rqTE k cs = J := by rw [HT.out.1, HC.out, if_neg (by simp), HJ.out]
    exact ⟨rq0, none, 0, 0, by rw [hE]; rfl, by rw [hE, if_neg HJN.out], Lies.nil _, hB⟩
  subst hj
  have hfin := setRq_is (⟨V1.1, V2.1, V3.1, V4.1, 10, X1.1, 0, 0, X2.1, ⟨#[]⟩, txt X3.1, ⟨#[]⟩, []⟩ : Req) none 0 0 hS.res
  have hB := hS.B.grown (setRq_grown wj w.heap.size (⟨V1.1, V2.1, V3.1, V4.1, 10, X1.1, 0, 0, X2.1, ⟨#[]⟩, txt X3.1, ⟨#[]⟩, []⟩ : Req) none 0 0) hS.B.size (fun k hk => by cases hk; exact Nat.le_refl _)
  obtain ⟨⟨b0, b1, b2, b3, b4, b5, b6, b7, b8, b9, b10, b11, b12⟩, bf⟩ := hS.res.c
  obtain ⟨⟨d0, d1, d2, d3, d4, d5, d6, d7, d8, d9, d10, d11, d12⟩, df⟩ := hS.r.c
  go_wp2
  refine bodyPost_ret (RqB.res rfl _ rfl hfin) rfl ?_
  have hE : rqTE k cs = 0 := by rw [HT.out.1, HC.out, if_neg (by simp), HJ.out]
  refine ⟨(⟨V1.1, V2.1, V3.1, V4.1, 10, X1.1, 0, 0, X2.1, ⟨#[]⟩, txt X3.1, ⟨#[]⟩, []⟩ : Req), none, 0, 0, by rw [hE]; rfl, by rw [hE, if_pos rfl, HT.out.2], ?_, hB⟩
  exact Lies.nil _
end Go.Proofs.YtdkcplndplhblaaGreatDoor
