/- annexref4.DecodeReply, where the letters are of one kind. -/
import Derived.Test.YtdkcplndplhblaaGreatDoorPk33
import Derived.Test.YtdkcplndplhblaaGreatDoorPk16
namespace Go.Proofs.YtdkcplndplhblaaGreatDoor
open Go.RowKit
set_option maxRecDepth 100000

set_option maxHeartbeats 8000000 in
theorem rdecRp_d (ao : Option Addr) (m c : Nat) (bs : List Int) (w : World) (hL : Lies w ao m c bs) (hm : m ≤ 200000000000000) (hby : Bys bs) (hop : openE [65, 78, 82, 49] m bs = 0) (k : Nat) (cs : List Int) (hk : k = m - 12) (hcs : cs = (bs.drop 4).take (m - 12)) (V1 V2 V3 V4 : Int × Nat × Int) (st : Int) (p5 : Nat) (X1 : Int × Nat × Int) (X2 : Int × Nat × Int) (X3 : Int × Nat × Int) (X4 : Int × Nat × Int) (X5 : List Int × Nat × Int) (h1 : rdNum 4 k cs 0 0 4294967295 = V1) (h2 : rdNum 8 k cs V1.2.1 V1.2.2 9223372036854775807 = V2) (h3 : rdNum 8 k cs V2.2.1 V2.2.2 9223372036854775807 = V3) (h4 : rdNum 4 k cs V3.2.1 V3.2.2 4294967295 = V4) (h5 : rdNum 4 k cs V4.2.1 V4.2.2 4294967295 = (st, p5, 0)) (hH : rpHeadE (⟨V1.1, V2.1, V3.1, V4.1, st, 0, 0, 0, 0, [], [], false⟩ : Rep) = 0) (hgl : glets V4.1 st = ⟨#[97, 100]⟩) (hh : hasRp V4.1 st = [13, 14]) (g1 : rdNum 8 k cs p5 (0 : Int) 9223372036854775807 = X1) (g2 : rdNum 4 k cs X1.2.1 X1.2.2 4294967295 = X2) (g3 : rdNum 4 k cs X2.2.1 X2.2.2 4294967295 = X3) (g4 : rdNum 8 k cs X3.2.1 X3.2.2 9223372036854775807 = X4) (g5 : rdText k cs X4.2.1 X4.2.2 1024 = X5) :
    Calls Tryz.prog 31 #[.slice ao m c] w fun e w' => RpOut w k cs e w' := by
  have hTT := rpT_d k cs V1 V2 V3 V4 st p5 X1 X2 X3 X4 X5 h1 h2 h3 h4 h5 hH hh g1 g2 g3 g4 g5
  have HT : Hid (rpTE k cs = (if ¬ rdClose k X5.2.1 X5.2.2 = 0 then rdClose k X5.2.1 X5.2.2 else rpBodyE (⟨V1.1, V2.1, V3.1, V4.1, st, X1.1, X2.1, X3.1, X4.1, X5.1, [], false⟩ : Rep)) ∧ rp2 k cs = (⟨V1.1, V2.1, V3.1, V4.1, st, X1.1, X2.1, X3.1, X4.1, X5.1, [], false⟩ : Rep)) := hTT
  have HH : Hid (rpHeadE (⟨V1.1, V2.1, V3.1, V4.1, st, 0, 0, 0, 0, [], [], false⟩ : Rep) = 0) := hH
  have HGL : Hid (glets V4.1 st = ⟨#[97, 100]⟩) := hgl
  have H1 : Hid _ := h1
  have H2 : Hid _ := h2
  have H3 : Hid _ := h3
  have H4 : Hid _ := h4
  have H5 : Hid _ := h5
  have G1 : Hid _ := g1
  have G2 : Hid _ := g2
  have G3 : Hid _ := g3
  have G4 : Hid _ := g4
  have G5 : Hid _ := g5
  clear hTT hH hh hgl h1 h2 h3 h4 h5 g1 g2 g3 g4 g5
  have dla : decide ((97 : Int) ∈ nums ⟨#[97, 100]⟩) = true := by decide
  have dld : decide ((100 : Int) ∈ nums ⟨#[97, 100]⟩) = true := by decide
  have dlt : decide ((116 : Int) ∈ nums ⟨#[97, 100]⟩) = false := by decide
  have hZ : PS0 w (((w.alloc (.cells #[.int .i64 0, .int .i64 0, .int .i64 0, .int .i64 0, .int .i64 0, .int .i64 0, .int .i64 0, .int .i64 0, .int .i64 0, .slice none 0 0, .slice none 0 0, .bool false] 30)).alloc (.cells #[.int .i64 0, .int .i64 0, .int .i64 0, .int .i64 0, .int .i64 0, .int .i64 0, .int .i64 0, .int .i64 0, .int .i64 0, .slice none 0 0, .slice none 0 0, .bool false] 30)).alloc (.cells #[.int .i64 0, .int .i64 0, .int .i64 0, .int .i64 0, .int .i64 0, .int .i64 0, .int .i64 0, .int .i64 0, .int .i64 0, .slice none 0 0, .slice none 0 0, .bool false] 30)) := ps0 w
  have hm2 := openE_le hop hL.hlen
  go_enter Tryz.func31, Tryz.ntmps31
  go_wp2_with fail
  generalize ((w.alloc (.cells #[.int .i64 0, .int .i64 0, .int .i64 0, .int .i64 0, .int .i64 0, .int .i64 0, .int .i64 0, .int .i64 0, .int .i64 0, .slice none 0 0, .slice none 0 0, .bool false] 30)).alloc (.cells #[.int .i64 0, .int .i64 0, .int .i64 0, .int .i64 0, .int .i64 0, .int .i64 0, .int .i64 0, .int .i64 0, .int .i64 0, .slice none 0 0, .slice none 0 0, .bool false] 30)).alloc (.cells #[.int .i64 0, .int .i64 0, .int .i64 0, .int .i64 0, .int .i64 0, .int .i64 0, .int .i64 0, .int .i64 0, .int .i64 0, .slice none 0 0, .slice none 0 0, .bool false] 30) = w3 at *
  refine (ropened_any ⟨#[65, 78, 82, 49]⟩ ao m c bs _ rfl (hL.below hZ.B (Nat.le_refl _)) hm hby).mono ?_
  rintro e wo (⟨hno, _⟩ | ⟨_, rb, ar, cr, rfl, hR, hrb, har, hbo⟩)
  · exact absurd hop hno
  have hS : PS w rb ar cr k cs (0, 0) rp0 none 0 0 none 0 0 wo := hZ.open hR hrb har hbo hk hcs hby hm2
  clear hZ hR hrb har hbo hop hL
  go_wp2_with fail
  refine (v_u32 hS.dr H1.out).mono ?_
  rintro e w11 ⟨rfl, hd, hg⟩
  have hS := hS.read hd hg
  clear hd hg
  obtain ⟨⟨b0, b1, b2, b3, b4, b5, b6, b7, b8, b9, b10, b11⟩, bf⟩ := hS.r.c
  have hS := hS.put (s' := ⟨V1.1, 0, 0, 0, 0, 0, 0, 0, 0, [], [], false⟩) (do2 := none) (dn2 := 0) (dc2 := 0) (lo2 := none) (ln2 := 0) (lc2 := 0) (j := 0) (u := .int .i64 V1.1) (by rw [RpB, heap_setCell_same _ _ _ _ _ _ hS.r]; rfl)
  go_wp2_with fail
  clear b0 b1 b2 b3 b4 b5 b6 b7 b8 b9 b10 b11 bf
  refine (v_u64 hS.dr H2.out).mono ?_
  rintro e w12 ⟨rfl, hd, hg⟩
  have hS := hS.read hd hg
  clear hd hg
  obtain ⟨⟨b0, b1, b2, b3, b4, b5, b6, b7, b8, b9, b10, b11⟩, bf⟩ := hS.r.c
  have hS := hS.put (s' := ⟨V1.1, V2.1, 0, 0, 0, 0, 0, 0, 0, [], [], false⟩) (do2 := none) (dn2 := 0) (dc2 := 0) (lo2 := none) (ln2 := 0) (lc2 := 0) (j := 1) (u := .int .i64 V2.1) (by rw [RpB, heap_setCell_same _ _ _ _ _ _ hS.r]; rfl)
  go_wp2_with fail
  clear b0 b1 b2 b3 b4 b5 b6 b7 b8 b9 b10 b11 bf
  refine (v_u64 hS.dr H3.out).mono ?_
  rintro e w13 ⟨rfl, hd, hg⟩
  have hS := hS.read hd hg
  clear hd hg
  obtain ⟨⟨b0, b1, b2, b3, b4, b5, b6, b7, b8, b9, b10, b11⟩, bf⟩ := hS.r.c
  have hS := hS.put (s' := ⟨V1.1, V2.1, V3.1, 0, 0, 0, 0, 0, 0, [], [], false⟩) (do2 := none) (dn2 := 0) (dc2 := 0) (lo2 := none) (ln2 := 0) (lc2 := 0) (j := 2) (u := .int .i64 V3.1) (by rw [RpB, heap_setCell_same _ _ _ _ _ _ hS.r]; rfl)
  go_wp2_with fail
  clear b0 b1 b2 b3 b4 b5 b6 b7 b8 b9 b10 b11 bf
  refine (v_u32 hS.dr H4.out).mono ?_
  rintro e w14 ⟨rfl, hd, hg⟩
  have hS := hS.read hd hg
  clear hd hg
  obtain ⟨⟨b0, b1, b2, b3, b4, b5, b6, b7, b8, b9, b10, b11⟩, bf⟩ := hS.r.c
  have hS := hS.put (s' := ⟨V1.1, V2.1, V3.1, V4.1, 0, 0, 0, 0, 0, [], [], false⟩) (do2 := none) (dn2 := 0) (dc2 := 0) (lo2 := none) (ln2 := 0) (lc2 := 0) (j := 3) (u := .int .i64 V4.1) (by rw [RpB, heap_setCell_same _ _ _ _ _ _ hS.r]; rfl)
  go_wp2_with fail
  clear b0 b1 b2 b3 b4 b5 b6 b7 b8 b9 b10 b11 bf
  refine (v_u32 hS.dr H5.out).mono ?_
  rintro e w15 ⟨rfl, hd, hg⟩
  have hS := hS.read hd hg
  clear hd hg
  obtain ⟨⟨b0, b1, b2, b3, b4, b5, b6, b7, b8, b9, b10, b11⟩, bf⟩ := hS.r.c
  have hS := hS.put (s' := ⟨V1.1, V2.1, V3.1, V4.1, st, 0, 0, 0, 0, [], [], false⟩) (do2 := none) (dn2 := 0) (dc2 := 0) (lo2 := none) (ln2 := 0) (lc2 := 0) (j := 4) (u := .int .i64 st) (by rw [RpB, heap_setCell_same _ _ _ _ _ _ hS.r]; rfl)
  go_wp2_with fail
  clear b0 b1 b2 b3 b4 b5 b6 b7 b8 b9 b10 b11 bf
  refine (d_err hS.dr).mono ?_
  rintro e we ⟨rfl, hb⟩
  have hS := hS.below hb
  clear hb
  obtain ⟨⟨b0, b1, b2, b3, b4, b5, b6, b7, b8, b9, b10, b11⟩, bf⟩ := hS.r.c
  go_wp2_with fail
  clear b0 b1 b2 b3 b4 b5 b6 b7 b8 b9 b10 b11 bf
  refine (ranswer_any (⟨V1.1, V2.1, V3.1, V4.1, st, 0, 0, 0, 0, [], [], false⟩ : Rep) none 0 0 none 0 0 _).mono ?_
  rintro e wf ⟨rfl, hb⟩
  rw [HH.out]
  have hS := hS.below hb
  clear hb
  obtain ⟨⟨b0, b1, b2, b3, b4, b5, b6, b7, b8, b9, b10, b11⟩, bf⟩ := hS.r.c
  go_wp2_with fail
  clear b0 b1 b2 b3 b4 b5 b6 b7 b8 b9 b10 b11 bf
  refine (rgives_is HGL.out V1.1 V2.1 V3.1 0 0 0 0 none 0 0 none 0 0 false _).mono ?_
  rintro e wg ⟨rfl, hb⟩
  have hS := hS.below hb
  clear hb
  go_wp2_with (go_at_call 68; refine (rin_any _ _ _ (by decide)).mono ?_; rintro e wn ⟨rfl, hwn⟩; subst wn; first | rw [dla] | rw [dld] | rw [dlt])
  refine (v_u64 hS.dr G1.out).mono ?_
  rintro e w20 ⟨rfl, hd, hg⟩
  have hS := hS.read hd hg
  clear hd hg
  obtain ⟨⟨b0, b1, b2, b3, b4, b5, b6, b7, b8, b9, b10, b11⟩, bf⟩ := hS.r.c
  have hS := hS.put (s' := ⟨V1.1, V2.1, V3.1, V4.1, st, X1.1, 0, 0, 0, [], [], false⟩) (do2 := none) (dn2 := 0) (dc2 := 0) (lo2 := none) (ln2 := 0) (lc2 := 0) (j := 5) (u := .int .i64 X1.1) (by rw [RpB, heap_setCell_same _ _ _ _ _ _ hS.r]; rfl)
  go_wp2_with fail
  clear b0 b1 b2 b3 b4 b5 b6 b7 b8 b9 b10 b11 bf
  refine (v_u32 hS.dr G2.out).mono ?_
  rintro e w21 ⟨rfl, hd, hg⟩
  have hS := hS.read hd hg
  clear hd hg
  obtain ⟨⟨b0, b1, b2, b3, b4, b5, b6, b7, b8, b9, b10, b11⟩, bf⟩ := hS.r.c
  have hS := hS.put (s' := ⟨V1.1, V2.1, V3.1, V4.1, st, X1.1, X2.1, 0, 0, [], [], false⟩) (do2 := none) (dn2 := 0) (dc2 := 0) (lo2 := none) (ln2 := 0) (lc2 := 0) (j := 6) (u := .int .i64 X2.1) (by rw [RpB, heap_setCell_same _ _ _ _ _ _ hS.r]; rfl)
  go_wp2_with fail
  clear b0 b1 b2 b3 b4 b5 b6 b7 b8 b9 b10 b11 bf
  refine (v_u32 hS.dr G3.out).mono ?_
  rintro e w22 ⟨rfl, hd, hg⟩
  have hS := hS.read hd hg
  clear hd hg
  obtain ⟨⟨b0, b1, b2, b3, b4, b5, b6, b7, b8, b9, b10, b11⟩, bf⟩ := hS.r.c
  have hS := hS.put (s' := ⟨V1.1, V2.1, V3.1, V4.1, st, X1.1, X2.1, X3.1, 0, [], [], false⟩) (do2 := none) (dn2 := 0) (dc2 := 0) (lo2 := none) (ln2 := 0) (lc2 := 0) (j := 7) (u := .int .i64 X3.1) (by rw [RpB, heap_setCell_same _ _ _ _ _ _ hS.r]; rfl)
  go_wp2_with fail
  clear b0 b1 b2 b3 b4 b5 b6 b7 b8 b9 b10 b11 bf
  refine (v_u64 hS.dr G4.out).mono ?_
  rintro e w23 ⟨rfl, hd, hg⟩
  have hS := hS.read hd hg
  clear hd hg
  obtain ⟨⟨b0, b1, b2, b3, b4, b5, b6, b7, b8, b9, b10, b11⟩, bf⟩ := hS.r.c
  have hS := hS.put (s' := ⟨V1.1, V2.1, V3.1, V4.1, st, X1.1, X2.1, X3.1, X4.1, [], [], false⟩) (do2 := none) (dn2 := 0) (dc2 := 0) (lo2 := none) (ln2 := 0) (lc2 := 0) (j := 8) (u := .int .i64 X4.1) (by rw [RpB, heap_setCell_same _ _ _ _ _ _ hS.r]; rfl)
  go_wp2_with (go_at_call 68; refine (rin_any _ _ _ (by decide)).mono ?_; rintro e wn ⟨rfl, hwn⟩; subst wn; first | rw [dla] | rw [dld] | rw [dlt])
  clear b0 b1 b2 b3 b4 b5 b6 b7 b8 b9 b10 b11 bf
  refine (v_bytes 1024 (by omega) hS.dr G5.out).mono ?_
  rintro e w24 ⟨⟨da, dk, dc, rfl, hDl⟩, hd, hg⟩
  have hS := hS.read hd hg
  clear hd hg
  obtain ⟨⟨b0, b1, b2, b3, b4, b5, b6, b7, b8, b9, b10, b11⟩, bf⟩ := hS.r.c
  have hDl : Lies (w24.setCell ⟨w.heap.size + 2, 9, none⟩ (.slice da dk dc)) da dk dc X5.1 := hDl.rp hS.r
  have hS := hS.put (s' := ⟨V1.1, V2.1, V3.1, V4.1, st, X1.1, X2.1, X3.1, X4.1, X5.1, [], false⟩) (do2 := da) (dn2 := dk) (dc2 := dc) (lo2 := none) (ln2 := 0) (lc2 := 0) (j := 9) (u := .slice da dk dc) (by rw [RpB, heap_setCell_same _ _ _ _ _ _ hS.r]; rfl)
  go_wp2_with (go_at_call 68; refine (rin_any _ _ _ (by decide)).mono ?_; rintro e wn ⟨rfl, hwn⟩; subst wn; first | rw [dla] | rw [dld] | rw [dlt])
  clear b0 b1 b2 b3 b4 b5 b6 b7 b8 b9 b10 b11 bf
  obtain ⟨CE, hCE⟩ : ∃ CE, rdClose k X5.2.1 X5.2.2 = CE := ⟨_, rfl⟩
  have HC : Hid (rdClose k X5.2.1 X5.2.2 = CE) := hCE
  clear hCE
  refine (v_close hS.dr HC.out).mono ?_
  rintro e wc ⟨rfl, hg⟩
  have hDl := hDl.rd hS.dr hg
  have hS := hS.shut hg
  clear hg
  by_cases hce : CE = 0
  case neg =>
    have hcb : (CE != 0) = true := by simpa using hce
    have hfin := setRp_is rp0 none 0 0 none 0 0 hS.res
    have hB := hS.B.grown (setRp_grown wc w.heap.size rp0 none 0 0 none 0 0) hS.B.size (fun k hk => by cases hk; exact Nat.le_refl _)
    obtain ⟨⟨b0, b1, b2, b3, b4, b5, b6, b7, b8, b9, b10, b11⟩, bf⟩ := hS.res.c
    obtain ⟨⟨d0, d1, d2, d3, d4, d5, d6, d7, d8, d9, d10, d11⟩, df⟩ := hS.non.c
    have HCN : Hid (¬ CE = 0) := hce
    clear hce
    go_wp2
    refine bodyPost_ret (RpB.res rfl _ rfl hfin) rfl ?_
    have hE : rpTE k cs = CE := by rw [HT.out.1, HC.out, if_pos HCN.out]
    exact ⟨rp0, none, 0, 0, none, 0, 0, by rw [hE]; rfl, by rw [hE, if_neg HCN.out], Lies.nil _, CLies.nil _ _, rfl, hB⟩
  subst hce
  obtain ⟨⟨b0, b1, b2, b3, b4, b5, b6, b7, b8, b9, b10, b11⟩, bf⟩ := hS.r.c
  go_wp2_with fail
  clear b0 b1 b2 b3 b4 b5 b6 b7 b8 b9 b10 b11 bf
  refine (rbrought_any (⟨V1.1, V2.1, V3.1, V4.1, st, X1.1, X2.1, X3.1, X4.1, X5.1, [], false⟩ : Rep) da dk dc none 0 0 _ hDl.hlen (CLies.nil _ _) rfl (rpHead_op HH.out)).mono ?_
  rintro e wj ⟨rfl, hb⟩
  have hS := hS.below hb
  have hDl := hDl.below hb (Nat.le_refl _)
  clear hb
  obtain ⟨J, hJ⟩ : ∃ J, rpBodyE (⟨V1.1, V2.1, V3.1, V4.1, st, X1.1, X2.1, X3.1, X4.1, X5.1, [], false⟩ : Rep) = J := ⟨_, rfl⟩
  rw [hJ]
  have HJ : Hid (rpBodyE (⟨V1.1, V2.1, V3.1, V4.1, st, X1.1, X2.1, X3.1, X4.1, X5.1, [], false⟩ : Rep) = J) := hJ
  clear hJ
  by_cases hj : J = 0
  case neg =>
    have hcb : (J != 0) = true := by simpa using hj
    have hfin := setRp_is rp0 none 0 0 none 0 0 hS.res
    have hB := hS.B.grown (setRp_grown wj w.heap.size rp0 none 0 0 none 0 0) hS.B.size (fun k hk => by cases hk; exact Nat.le_refl _)
    obtain ⟨⟨b0, b1, b2, b3, b4, b5, b6, b7, b8, b9, b10, b11⟩, bf⟩ := hS.res.c
    obtain ⟨⟨d0, d1, d2, d3, d4, d5, d6, d7, d8, d9, d10, d11⟩, df⟩ := hS.non.c
    have HJN : Hid (¬ J = 0) := hj
    clear hj
    go_wp2
    refine bodyPost_ret (RpB.res rfl _ rfl hfin) rfl ?_
    have hE : rpTE k cs = J := by rw [HT.out.1, HC.out, if_neg (by simp), HJ.out]
    exact ⟨rp0, none, 0, 0, none, 0, 0, by rw [hE]; rfl, by rw [hE, if_neg HJN.out], Lies.nil _, CLies.nil _ _, rfl, hB⟩
  subst hj
  have hfin := setRp_is (⟨V1.1, V2.1, V3.1, V4.1, st, X1.1, X2.1, X3.1, X4.1, X5.1, [], false⟩ : Rep) da dk dc none 0 0 hS.res
  have hB := hS.B.grown (setRp_grown wj w.heap.size (⟨V1.1, V2.1, V3.1, V4.1, st, X1.1, X2.1, X3.1, X4.1, X5.1, [], false⟩ : Rep) da dk dc none 0 0) hS.B.size (fun k hk => by cases hk; exact Nat.le_refl _)
  obtain ⟨⟨b0, b1, b2, b3, b4, b5, b6, b7, b8, b9, b10, b11⟩, bf⟩ := hS.res.c
  obtain ⟨⟨d0, d1, d2, d3, d4, d5, d6, d7, d8, d9, d10, d11⟩, df⟩ := hS.r.c
  go_wp2
  refine bodyPost_ret (RpB.res rfl _ rfl hfin) rfl ?_
  have hE : rpTE k cs = 0 := by rw [HT.out.1, HC.out, if_neg (by simp), HJ.out]
  refine ⟨(⟨V1.1, V2.1, V3.1, V4.1, st, X1.1, X2.1, X3.1, X4.1, X5.1, [], false⟩ : Rep), da, dk, dc, none, 0, 0, by rw [hE]; rfl, by rw [hE, if_pos rfl, HT.out.2], ?_, ?_, rfl, hB⟩
  · exact Lies.rps (r := (⟨V1.1, V2.1, V3.1, V4.1, st, X1.1, X2.1, X3.1, X4.1, X5.1, [], false⟩ : Rep)) (co := da) (n2 := dk) (d2 := dc) (lo2 := none) (ln2 := 0) (lc2 := 0) hDl hS.res
  · exact CLies.nil _ _
end Go.Proofs.YtdkcplndplhblaaGreatDoor

/- annexref4.DecodeReply: what the walk with a list of entries uses. -/
namespace Go.Proofs.YtdkcplndplhblaaGreatDoor
open Go.RowKit
set_option maxRecDepth 100000

theorem own_not {w : World} {base n q : Nat} {e T : TypeId} {k : Nat} {v : Value} {xs : List Value} {C : Array Value} {fr : Nat × Nat} (h : w.ownsRow base e k v n xs) (hq : w.heap[q]? = some (.cells C T fr)) (hne : e ≠ T) : v.ownBlock ≠ some q := by
  rcases h.2 with ⟨rfl, _⟩ | ⟨g, cap, cur, rfl, _, hh, _⟩
  · simp [Value.ownBlock]
  · simp only [Value.ownBlock, ne_eq, Option.some.injEq]
    rintro rfl
    rw [hq] at hh
    cases hh
    exact hne rfl
theorem own_some {w : World} {base n : Nat} {e : TypeId} {k : Nat} {v : Value} {xs : List Value} (h : w.ownsRow base e k v (n + 1) xs) : ∃ g c, v = .slice (some ⟨g, 0, none⟩) (n + 1) c := by
  rcases h.2 with ⟨_, h0⟩ | ⟨g, cap, cur, hv, _⟩
  · omega
  · exact ⟨g, cap, hv⟩
theorem own_far {w : World} {base n q : Nat} {e : TypeId} {k : Nat} {v : Value} {xs : List Value} (h : w.ownsRow base e k v n xs) (hq : q < base ∨ w.heap.size ≤ q) : v.ownBlock ≠ some q := by
  intro e
  have h1 := (h.lt q e)
  omega
theorem Lies.move {w w' : World} {ao : Option Addr} {k c : Nat} {zs : List Int} {row : Option Nat} (h : Lies w ao k c zs) (hg : w.grownBy w' row) (hne : 0 < k → ∀ ad, ao = some ad → some ad.block ≠ row) : Lies w' ao k c zs := by
  by_cases h0 : 0 < k
  · exact h.grown hg (hne h0)
  · obtain rfl : k = 0 := by omega
    have : zs = [] := List.eq_nil_of_length_eq_zero h.hlen
    subst this
    exact ⟨rfl, h.hle, h.hnone, fun ad had t u hu => by simp at hu⟩
/-- Whatever changes above what was there does not change what is read. -/
theorem PS.far {w : World} {rb : Nat} {ao : Option Addr} {cap n : Nat} {bs : List Int} {st : Nat × Int} {s : Rep} {do' : Option Addr} {dn dc : Nat} {lo : Option Addr} {ln lc : Nat} {wr w' : World} {row : Option Nat} {L0 : Nat} (h : PS w rb ao cap n bs st s do' dn dc lo ln lc wr) (hL : w.heap.size + 3 ≤ L0 ∧ rb < L0 ∧ (0 < n → ∀ ad, ao = some ad → ad.block < L0)) (hg : wr.grownBy w' row) (hr : ∀ q, row = some q → L0 ≤ q) : PS w rb ao cap n bs st s do' dn dc lo ln lc w' := by
  have hn : ∀ q, q < L0 → some q ≠ row := fun q hq e => by have := hr q e.symm; omega
  refine ⟨(hg.block _ (lt_of_block h.res) (hn _ (by omega))).trans h.res, (hg.block _ (lt_of_block h.non) (hn _ (by omega))).trans h.non, (hg.block _ (lt_of_block h.r) (hn _ (by omega))).trans h.r, ⟨⟨(hg.block _ (lt_of_block h.dr.r.blk) (hn _ hL.2.1)).trans h.dr.r.blk, h.dr.r.lies.move hg (fun h0 ad had => hn _ (hL.2.2 h0 ad had)), h.dr.r.apart⟩, h.dr.p, h.dr.n0, h.dr.by'⟩, h.hrb, h.har, ?_⟩
  refine h.B.grown hg h.B.size (fun q hq => ?_)
  have := hr q hq
  omega
theorem PS.low {w : World} {rb : Nat} {ao : Option Addr} {cap n : Nat} {bs : List Int} {st : Nat × Int} {s : Rep} {do' : Option Addr} {dn dc : Nat} {lo : Option Addr} {ln lc : Nat} {wr : World} (h : PS w rb ao cap n bs st s do' dn dc lo ln lc wr) : w.heap.size + 3 ≤ wr.heap.size ∧ rb < wr.heap.size ∧ (0 < n → ∀ ad, ao = some ad → ad.block < wr.heap.size) := by
  refine ⟨lt_of_block h.r, lt_of_block h.dr.r.blk, fun h0 ad had => ?_⟩
  subst had
  have hc := h.dr.r.lies.hcells ad rfl 0 (.int .u8 (bs[0]'(by rw [h.dr.r.lies.hlen]; exact h0))) (by simp [h.dr.r.lies.hlen, h0])
  have := World.block_lt_of_cell? wr _ hc
  rwa [add_block] at this
theorem num_pos {j k : Nat} {cs : List Int} {p : Nat} {M : Int} {N : Int × Nat × Int} (h : rdNum j k cs p 0 M = N) (h0 : 0 < N.1) : N.2.2 = 0 := by
  subst h
  unfold rdNum at *
  rw [if_neg (by simp)] at *
  split
  · rename_i h1; rw [if_pos h1] at h0; simp at h0
  · split
    · rename_i h1 h2; rw [if_neg h1, if_pos h2] at h0; simp at h0
    · rfl
theorem num_nat {j k : Nat} {cs : List Int} {p : Nat} {M : Int} (hby : Bys cs) : ∃ (q : Nat) (st : Nat × Int), rdNum j k cs p 0 M = ((q : Int), st) := by
  have hv := val_take_bd cs p j hby
  unfold rdNum
  rw [if_neg (by simp)]
  split
  · exact ⟨0, _, rfl⟩
  · split
    · exact ⟨0, _, rfl⟩
    · refine ⟨(val ((cs.drop p).take j)).toNat, (p + j, 0), ?_⟩
      rw [Int.toNat_of_nonneg hv.1]
/-- A box for one entry. -/
abbrev YB (w : World) (q : Nat) (a : ByteArray) (b c : Int) : Prop := w.heap[q]? = some (.cells #[.string a, .int .i64 b, .int .i64 c] 86 (0, 0))
theorem YB.c {w : World} {q : Nat} {a : ByteArray} {b c : Int} (h : YB w q a b c) : w.cell? ⟨q, 0, none⟩ = some (.string a) ∧ w.cell? ⟨q, 1, none⟩ = some (.int .i64 b) ∧ w.cell? ⟨q, 2, none⟩ = some (.int .i64 c) ∧ ∀ o, w.frozen? ⟨q, o, none⟩ = false := by
  refine ⟨?_, ?_, ?_, fun o => ?_⟩ <;> simp [World.cell?, World.frozen?, h]
theorem YB.row {w w' : World} {q r : Nat} {a : ByteArray} {b c : Int} (h : YB w q a b c) (hg : w.grownBy w' (some r)) (hne : q ≠ r) : YB w' q a b c := (hg.block _ (lt_of_block h) (by simpa using hne)).trans h
theorem rdEnts_next (n : Nat) (bs : List Int) (j : Nat) (st : Nat × Int) {A : List Int × Nat × Int} {B C : Int × Nat × Int} (hA : rdText n bs (rdEnts n bs j st).2.1 (rdEnts n bs j st).2.2 23 = A) (hB : rdNum 8 n bs A.2.1 A.2.2 9223372036854775807 = B) (hC : rdNum 4 n bs B.2.1 B.2.2 4294967295 = C) :
    rdEnts n bs (j + 1) st = ((rdEnts n bs j st).1 ++ [⟨txt A.1, B.1, C.1⟩], C.2) := by
  simp only [rdEnts, rdEnt, hA, hB, hC]
theorem rdEnts_len (n : Nat) (bs : List Int) : ∀ (j : Nat) (st : Nat × Int), (rdEnts n bs j st).1.length = j
  | 0, st => rfl
  | j + 1, st => by simp [rdEnts, rdEnts_len n bs j st]
end Go.Proofs.YtdkcplndplhblaaGreatDoor
