/- annexref4.DecodeReply, with a list of entries. -/
import Derived.Test.YtdkcplndplhblaaGreatDoorPk34
import Derived.Test.YtdkcplndplhblaaGreatDoorPk33
import Derived.Test.YtdkcplndplhblaaGreatDoorPk12
namespace Go.Proofs.YtdkcplndplhblaaGreatDoor
open Go.RowKit
set_option maxRecDepth 100000

set_option maxHeartbeats 8000000 in
theorem rdecRp_t (ao : Option Addr) (m c : Nat) (bs : List Int) (w : World) (hL : Lies w ao m c bs) (hm : m ≤ 200000000000000) (hby : Bys bs) (hop : openE [65, 78, 82, 49] m bs = 0) (k : Nat) (cs : List Int) (hk : k = m - 12) (hcs : cs = (bs.drop 4).take (m - 12)) (V1 V2 V3 V4 : Int × Nat × Int) (st : Int) (p5 : Nat) (Nn : Nat) (nst : Nat × Int) (F : Bool × Nat × Int) (h1 : rdNum 4 k cs 0 0 4294967295 = V1) (h2 : rdNum 8 k cs V1.2.1 V1.2.2 9223372036854775807 = V2) (h3 : rdNum 8 k cs V2.2.1 V2.2.2 9223372036854775807 = V3) (h4 : rdNum 4 k cs V3.2.1 V3.2.2 4294967295 = V4) (h5 : rdNum 4 k cs V4.2.1 V4.2.2 4294967295 = (st, p5, 0)) (hH : rpHeadE (⟨V1.1, V2.1, V3.1, V4.1, st, 0, 0, 0, 0, [], [], false⟩ : Rep) = 0) (hgl : glets V4.1 st = ⟨#[116]⟩) (hh : hasRp V4.1 st = [15, 16]) (g1 : rdNum 4 k cs p5 0 4294967295 = ((Nn : Int), nst)) (g2 : rdFlag k cs (rdEnts k cs Nn nst).2.1 (rdEnts k cs Nn nst).2.2 = F) :
    Calls Tryz.prog 31 #[.slice ao m c] w fun e w' => RpOut w k cs e w' := by
  obtain ⟨i0, hi, hz0, hz1, hz2⟩ := info_parts Tryz.infoEntry
  have hTT := rpT_t k cs V1 V2 V3 V4 st p5 ((Nn : Int), nst) F h1 h2 h3 h4 h5 hH hh g1 (by simpa using g2)
  simp only [Int.toNat_natCast] at hTT
  have HTB : Hid (16 < (Nn : Int) → rpTE k cs = 46) := hTT.1
  have HTS : Hid (¬ 16 < (Nn : Int) → rpTE k cs = (if ¬ rdClose k F.2.1 F.2.2 = 0 then rdClose k F.2.1 F.2.2 else rpBodyE (⟨V1.1, V2.1, V3.1, V4.1, st, 0, 0, 0, 0, [], (rdEnts k cs Nn nst).1, F.1⟩ : Rep)) ∧ rp2 k cs = (⟨V1.1, V2.1, V3.1, V4.1, st, 0, 0, 0, 0, [], (rdEnts k cs Nn nst).1, F.1⟩ : Rep)) := hTT.2
  have HPOS : Hid (16 < (Nn : Int) → nst.2 = 0) := fun h => num_pos g1 (by simp only; omega)
  have HH : Hid (rpHeadE (⟨V1.1, V2.1, V3.1, V4.1, st, 0, 0, 0, 0, [], [], false⟩ : Rep) = 0) := hH
  have HGL : Hid (glets V4.1 st = ⟨#[116]⟩) := hgl
  have H1 : Hid _ := h1
  have H2 : Hid _ := h2
  have H3 : Hid _ := h3
  have H4 : Hid _ := h4
  have H5 : Hid _ := h5
  have G1 : Hid _ := g1
  have G2 : Hid _ := g2
  clear hTT hH hh hgl h1 h2 h3 h4 h5 g1 g2
  have dla : decide ((97 : Int) ∈ nums ⟨#[116]⟩) = false := by decide
  have dld : decide ((100 : Int) ∈ nums ⟨#[116]⟩) = false := by decide
  have dlt : decide ((116 : Int) ∈ nums ⟨#[116]⟩) = true := by decide
  have hZ : PS0 w (((w.alloc (.cells #[.int .i64 0, .int .i64 0, .int .i64 0, .int .i64 0, .int .i64 0, .int .i64 0, .int .i64 0, .int .i64 0, .int .i64 0, .slice none 0 0, .slice none 0 0, .bool false] 30)).alloc (.cells #[.int .i64 0, .int .i64 0, .int .i64 0, .int .i64 0, .int .i64 0, .int .i64 0, .int .i64 0, .int .i64 0, .int .i64 0, .slice none 0 0, .slice none 0 0, .bool false] 30)).alloc (.cells #[.int .i64 0, .int .i64 0, .int .i64 0, .int .i64 0, .int .i64 0, .int .i64 0, .int .i64 0, .int .i64 0, .int .i64 0, .slice none 0 0, .slice none 0 0, .bool false] 30)) := ps0 w
  have hm2 := openE_le hop hL.hlen
  go_enter Tryz.func31, Tryz.ntmps31
  go_wp2_with fail
  generalize ((w.alloc (.cells #[.int .i64 0, .int .i64 0, .int .i64 0, .int .i64 0, .int .i64 0, .int .i64 0, .int .i64 0, .int .i64 0, .int .i64 0, .slice none 0 0, .slice none 0 0, .bool false] 30)).alloc (.cells #[.int .i64 0, .int .i64 0, .int .i64 0, .int .i64 0, .int .i64 0, .int .i64 0, .int .i64 0, .int .i64 0, .int .i64 0, .slice none 0 0, .slice none 0 0, .bool false] 30)).alloc (.cells #[.int .i64 0, .int .i64 0, .int .i64 0, .int .i64 0, .int .i64 0, .int .i64 0, .int .i64 0, .int .i64 0, .int .i64 0, .slice none 0 0, .slice none 0 0, .bool false] 30) = w3 at *
  refine (ropened_any ⟨#[65, 78, 82, 49]⟩ ao m c bs _ rfl (hL.below hZ.B (Nat.le_refl _)) hm hby).mono ?_
  rintro e wo (⟨hno, _⟩ | ⟨_, rb, ar, cr, rfl, hR, hrb, har, hbo⟩)
  · exact absurd hop hno
  have hS : PS w rb ar cr k cs (0, 0) rp0 none 0 0 none 0 0 wo := hZ.open hR hrb har hbo hk hcs hby hm2
  clear hZ hR hrb har hbo hop hL
  go_wp2_with fail
  refine (v_u32 hS.dr H1.out).mono ?_
  rintro e w11 ⟨rfl, hd, hg⟩
  have hS := hS.read hd hg
  clear hd hg
  obtain ⟨⟨b0, b1, b2, b3, b4, b5, b6, b7, b8, b9, b10, b11⟩, bf⟩ := hS.r.c
  have hS := hS.put (s' := ⟨V1.1, 0, 0, 0, 0, 0, 0, 0, 0, [], [], false⟩) (do2 := none) (dn2 := 0) (dc2 := 0) (lo2 := none) (ln2 := 0) (lc2 := 0) (j := 0) (u := .int .i64 V1.1) (by rw [RpB, heap_setCell_same _ _ _ _ _ _ hS.r]; rfl)
  go_wp2_with fail
  clear b0 b1 b2 b3 b4 b5 b6 b7 b8 b9 b10 b11 bf
  refine (v_u64 hS.dr H2.out).mono ?_
  rintro e w12 ⟨rfl, hd, hg⟩
  have hS := hS.read hd hg
  clear hd hg
  obtain ⟨⟨b0, b1, b2, b3, b4, b5, b6, b7, b8, b9, b10, b11⟩, bf⟩ := hS.r.c
  have hS := hS.put (s' := ⟨V1.1, V2.1, 0, 0, 0, 0, 0, 0, 0, [], [], false⟩) (do2 := none) (dn2 := 0) (dc2 := 0) (lo2 := none) (ln2 := 0) (lc2 := 0) (j := 1) (u := .int .i64 V2.1) (by rw [RpB, heap_setCell_same _ _ _ _ _ _ hS.r]; rfl)
  go_wp2_with fail
  clear b0 b1 b2 b3 b4 b5 b6 b7 b8 b9 b10 b11 bf
  refine (v_u64 hS.dr H3.out).mono ?_
  rintro e w13 ⟨rfl, hd, hg⟩
  have hS := hS.read hd hg
  clear hd hg
  obtain ⟨⟨b0, b1, b2, b3, b4, b5, b6, b7, b8, b9, b10, b11⟩, bf⟩ := hS.r.c
  have hS := hS.put (s' := ⟨V1.1, V2.1, V3.1, 0, 0, 0, 0, 0, 0, [], [], false⟩) (do2 := none) (dn2 := 0) (dc2 := 0) (lo2 := none) (ln2 := 0) (lc2 := 0) (j := 2) (u := .int .i64 V3.1) (by rw [RpB, heap_setCell_same _ _ _ _ _ _ hS.r]; rfl)
  go_wp2_with fail
  clear b0 b1 b2 b3 b4 b5 b6 b7 b8 b9 b10 b11 bf
  refine (v_u32 hS.dr H4.out).mono ?_
  rintro e w14 ⟨rfl, hd, hg⟩
  have hS := hS.read hd hg
  clear hd hg
  obtain ⟨⟨b0, b1, b2, b3, b4, b5, b6, b7, b8, b9, b10, b11⟩, bf⟩ := hS.r.c
  have hS := hS.put (s' := ⟨V1.1, V2.1, V3.1, V4.1, 0, 0, 0, 0, 0, [], [], false⟩) (do2 := none) (dn2 := 0) (dc2 := 0) (lo2 := none) (ln2 := 0) (lc2 := 0) (j := 3) (u := .int .i64 V4.1) (by rw [RpB, heap_setCell_same _ _ _ _ _ _ hS.r]; rfl)
  go_wp2_with fail
  clear b0 b1 b2 b3 b4 b5 b6 b7 b8 b9 b10 b11 bf
  refine (v_u32 hS.dr H5.out).mono ?_
  rintro e w15 ⟨rfl, hd, hg⟩
  have hS := hS.read hd hg
  clear hd hg
  obtain ⟨⟨b0, b1, b2, b3, b4, b5, b6, b7, b8, b9, b10, b11⟩, bf⟩ := hS.r.c
  have hS := hS.put (s' := ⟨V1.1, V2.1, V3.1, V4.1, st, 0, 0, 0, 0, [], [], false⟩) (do2 := none) (dn2 := 0) (dc2 := 0) (lo2 := none) (ln2 := 0) (lc2 := 0) (j := 4) (u := .int .i64 st) (by rw [RpB, heap_setCell_same _ _ _ _ _ _ hS.r]; rfl)
  go_wp2_with fail
  clear b0 b1 b2 b3 b4 b5 b6 b7 b8 b9 b10 b11 bf
  refine (d_err hS.dr).mono ?_
  rintro e we ⟨rfl, hb⟩
  have hS := hS.below hb
  clear hb
  obtain ⟨⟨b0, b1, b2, b3, b4, b5, b6, b7, b8, b9, b10, b11⟩, bf⟩ := hS.r.c
  go_wp2_with fail
  clear b0 b1 b2 b3 b4 b5 b6 b7 b8 b9 b10 b11 bf
  refine (ranswer_any (⟨V1.1, V2.1, V3.1, V4.1, st, 0, 0, 0, 0, [], [], false⟩ : Rep) none 0 0 none 0 0 _).mono ?_
  rintro e wf ⟨rfl, hb⟩
  rw [HH.out]
  have hS := hS.below hb
  clear hb
  obtain ⟨⟨b0, b1, b2, b3, b4, b5, b6, b7, b8, b9, b10, b11⟩, bf⟩ := hS.r.c
  go_wp2_with fail
  clear b0 b1 b2 b3 b4 b5 b6 b7 b8 b9 b10 b11 bf
  refine (rgives_is HGL.out V1.1 V2.1 V3.1 0 0 0 0 none 0 0 none 0 0 false _).mono ?_
  rintro e wg ⟨rfl, hb⟩
  have hS := hS.below hb
  clear hb
  go_wp2_with (go_at_call 68; refine (rin_any _ _ _ (by decide)).mono ?_; rintro e wn ⟨rfl, hwn⟩; subst wn; first | rw [dla] | rw [dld] | rw [dlt])
  refine (v_u32 hS.dr G1.out).mono ?_
  rintro e wn ⟨rfl, hd, hg⟩
  have hS := hS.read hd hg
  clear hd hg
  go_wp2_with fail
  refine (d_err hS.dr).mono ?_
  rintro e wl ⟨rfl, hb⟩
  have hS := hS.below hb
  clear hb
  by_cases hbig : 16 < (Nn : Int)
  case pos =>
    have hbi : decide ((16 : Int) < (Nn : Int)) = true := by simpa using hbig
    have hst := HPOS.out hbig
    have HB : Hid (rpTE k cs = 46) := HTB.out hbig
    simp only [hst]
    clear hbig hst
    have hfin := setRp_is rp0 none 0 0 none 0 0 hS.res
    have hB := hS.B.grown (setRp_grown wl w.heap.size rp0 none 0 0 none 0 0) hS.B.size (fun k hk => by cases hk; exact Nat.le_refl _)
    obtain ⟨⟨b0, b1, b2, b3, b4, b5, b6, b7, b8, b9, b10, b11⟩, bf⟩ := hS.res.c
    obtain ⟨⟨d0, d1, d2, d3, d4, d5, d6, d7, d8, d9, d10, d11⟩, df⟩ := hS.non.c
    go_wp2
    refine bodyPost_ret (RpB.res rfl _ rfl hfin) rfl ?_
    have hE : rpTE k cs = 46 := HB.out
    exact ⟨rp0, none, 0, 0, none, 0, 0, by rw [hE]; rfl, by rw [hE]; rfl, Lies.nil _, CLies.nil _ _, rfl, hB⟩
  have HT : Hid (rpTE k cs = (if ¬ rdClose k F.2.1 F.2.2 = 0 then rdClose k F.2.1 F.2.2 else rpBodyE (⟨V1.1, V2.1, V3.1, V4.1, st, 0, 0, 0, 0, [], (rdEnts k cs Nn nst).1, F.1⟩ : Rep)) ∧ rp2 k cs = (⟨V1.1, V2.1, V3.1, V4.1, st, 0, 0, 0, 0, [], (rdEnts k cs Nn nst).1, F.1⟩ : Rep)) := HTS.out (by omega)
  have hbi : decide ((16 : Int) < (Nn : Int)) = false := by simpa using hbig
  have hN16 : Nn ≤ 16 := by omega
  have hN16i : (Nn : Int) ≤ 16 := by omega
  clear hbig HTB HTS HPOS
  have hLow := hS.low
  obtain ⟨L0, hL0⟩ : ∃ L0, L0 = wl.heap.size := ⟨_, rfl⟩
  have hO0 : wl.ownsRow L0 86 3 (.slice none 0 0) 0 (entCells (rdEnts k cs 0 nst).1) := ⟨rfl, Or.inl ⟨rfl, rfl⟩⟩
  rw [← hL0] at hLow
  have hsz0 : L0 ≤ wl.heap.size := Nat.le_of_eq hL0
  clear hL0
  have hz : (nst.2 == 0) = true ∨ (nst.2 == 0) = false := by cases (nst.2 == 0) <;> simp
  rcases hz with hz | hz
  all_goals
    go_wp2
    go_loopw [11] (fun i wr => ∃ (j : Nat) (lo : Option Addr) (lc : Nat), j ≤ Nn ∧ i = .int .i64 j ∧ PS w rb ar cr k cs (rdEnts k cs j nst).2 ⟨V1.1, V2.1, V3.1, V4.1, st, 0, 0, 0, 0, [], (rdEnts k cs j nst).1, false⟩ none 0 0 lo j lc wr ∧ wr.ownsRow L0 86 3 (.slice lo j lc) j (entCells (rdEnts k cs j nst).1) ∧ L0 ≤ wr.heap.size) (fun i _ => Nn - (intOf i).toNat)
    case atStart => exact ⟨0, none, 0, Nat.zero_le _, rfl, hS, hO0, hsz0⟩
    case round =>
      clear hS hO0 hsz0
      obtain ⟨j, lo, lc, hj, rfl, hS, hOl, hsz⟩ := hrel
      by_cases hlt : j < Nn
      · have hji : decide ((j : Int) < (Nn : Int)) = true := by simpa using hlt
        obtain ⟨A, hA⟩ : ∃ A, rdText k cs (rdEnts k cs j nst).2.1 (rdEnts k cs j nst).2.2 23 = A := ⟨_, rfl⟩
        obtain ⟨B, hB⟩ : ∃ B, rdNum 8 k cs A.2.1 A.2.2 9223372036854775807 = B := ⟨_, rfl⟩
        obtain ⟨C, hC⟩ : ∃ C, rdNum 4 k cs B.2.1 B.2.2 4294967295 = C := ⟨_, rfl⟩
        have hnx := rdEnts_next k cs j nst hA hB hC
        have HA : Hid _ := hA
        have HB : Hid _ := hB
        have HC : Hid _ := hC
        have HNX : Hid (rdEnts k cs (j + 1) nst = ((rdEnts k cs j nst).1 ++ [⟨txt A.1, B.1, C.1⟩], C.2)) := hnx
        clear hA hB hC hnx
        generalize (rdEnts k cs j nst).2 = sj at *
        generalize (rdEnts k cs j nst).1 = lj at *
        -- a box for the entry
        have hY : YB (wr.alloc (.cells #[.string ⟨#[]⟩, .int .i64 0, .int .i64 0] 86)) wr.heap.size ⟨#[]⟩ 0 0 := heap_alloc_new _ _
        have hnb := newBox wr (.cells #[.string ⟨#[]⟩, .int .i64 0, .int .i64 0] 86)
        have hS := hS.below hnb
        have hoy : (Value.slice lo j lc).ownBlock ≠ some wr.heap.size := own_far hOl (.inr (Nat.le_refl _))
        have hOl := own_below hOl hnb
        have hgy : wr.heap.size < (wr.alloc (.cells #[.string ⟨#[]⟩, .int .i64 0, .int .i64 0] 86)).heap.size := by simp
        have hry : wr.heap.size ≠ rb := by omega
        have hry2 : wr.heap.size ≠ w.heap.size + 2 := by omega
        clear hnb
        go_wp2_with fail
        generalize wr.alloc (.cells #[.string ⟨#[]⟩, .int .i64 0, .int .i64 0] 86) = v0 at *
        generalize wr.heap.size = yb at *
        refine (v_text 23 (by omega) hS.dr HA.out).mono ?_
        rintro e v1 ⟨rfl, hd, hg⟩
        have hS := hS.read hd hg
        have hY := YB.row hY hg hry
        have hOl := hOl.kept hg (.inr (own_far hOl (.inl hLow.2.1)))
        have hs1 := hg.size
        clear hd hg
        have hS1 := hS.far hLow (grown_setCell v1 yb 0 (.string (txt A.1))) (fun q hq => by cases hq; exact hsz)
        have hO1 := hOl.kept (grown_setCell v1 yb 0 (.string (txt A.1))) (.inr hoy)
        have hY1 : YB (v1.setCell ⟨yb, 0, none⟩ (.string (txt A.1))) yb (txt A.1) 0 0 := by rw [YB, heap_setCell_same _ _ _ _ _ _ hY]; rfl
        obtain ⟨y0, y1, y2, yf⟩ := hY.c
        go_wp2_with fail
        clear y0 y1 y2 yf hS hOl hY
        have hs2 : v1.heap.size ≤ (v1.setCell ⟨yb, 0, none⟩ (.string (txt A.1))).heap.size := by simp
        generalize v1.setCell ⟨yb, 0, none⟩ (.string (txt A.1)) = v2 at *
        refine (v_u64 hS1.dr HB.out).mono ?_
        rintro e v3 ⟨rfl, hd, hg⟩
        have hS := hS1.read hd hg
        have hY := YB.row hY1 hg hry
        have hOl := hO1.kept hg (.inr (own_far hO1 (.inl hLow.2.1)))
        have hs3 := hg.size
        clear hd hg hS1 hY1 hO1
        have hS1 := hS.far hLow (grown_setCell v3 yb 1 (.int .i64 B.1)) (fun q hq => by cases hq; exact hsz)
        have hO1 := hOl.kept (grown_setCell v3 yb 1 (.int .i64 B.1)) (.inr hoy)
        have hY1 : YB (v3.setCell ⟨yb, 1, none⟩ (.int .i64 B.1)) yb (txt A.1) B.1 0 := by rw [YB, heap_setCell_same _ _ _ _ _ _ hY]; rfl
        obtain ⟨y0, y1, y2, yf⟩ := hY.c
        go_wp2_with fail
        clear y0 y1 y2 yf hS hOl hY
        have hs4 : v3.heap.size ≤ (v3.setCell ⟨yb, 1, none⟩ (.int .i64 B.1)).heap.size := by simp
        generalize v3.setCell ⟨yb, 1, none⟩ (.int .i64 B.1) = v4 at *
        refine (v_u32 hS1.dr HC.out).mono ?_
        rintro e v5 ⟨rfl, hd, hg⟩
        have hS := hS1.read hd hg
        have hY := YB.row hY1 hg hry
        have hOl := hO1.kept hg (.inr (own_far hO1 (.inl hLow.2.1)))
        have hs5 := hg.size
        clear hd hg hS1 hY1 hO1
        have hS1 := hS.far hLow (grown_setCell v5 yb 2 (.int .i64 C.1)) (fun q hq => by cases hq; exact hsz)
        have hO1 := hOl.kept (grown_setCell v5 yb 2 (.int .i64 C.1)) (.inr hoy)
        have hY1 : YB (v5.setCell ⟨yb, 2, none⟩ (.int .i64 C.1)) yb (txt A.1) B.1 C.1 := by rw [YB, heap_setCell_same _ _ _ _ _ _ hY]; rfl
        obtain ⟨y0, y1, y2, yf⟩ := hY.c
        obtain ⟨x0, x1, x2, xf⟩ := hY1.c
        obtain ⟨⟨b0, b1, b2, b3, b4, b5, b6, b7, b8, b9, b10, b11⟩, bf⟩ := hS1.r.c
        have hs6 : L0 ≤ (v5.setCell ⟨yb, 2, none⟩ (.int .i64 C.1)).heap.size := by simp; omega
        go_wp2_with (at_builtin; refine wpList_append_own _ rfl (.tmp 109) (.tmp 111) 28 rfl L0 86 i0 (.agg #[.string ⟨#[]⟩, .int .i64 0, .int .i64 0]) 3 32 Tryz.underlying28 hi hz0 hz1 hz2 rfl (by decide) _ _ _ rfl (hO1.alloc _) ⟨v5.heap.size, 0, none⟩ 1 1 [.string (txt A.1), .int .i64 B.1, .int .i64 C.1] rfl rfl (cells_new _ _ 86 _ (by simp)) (by intro u hu; simp at hu; rcases hu with rfl | rfl | rfl <;> rfl) (by unfold maxLen; omega) (by omega) (by simp; omega) ?_; intro v' w9 hown1 hgrow1 hnil1; obtain ⟨g9, c9, hv9⟩ := own_some hown1; subst hv9; have hS2 := (hS1.below (newBox _ _)).far hLow hgrow1 (fun q hq => (hO1.lt q hq).1); have hS3 := hS2.put (s' := ⟨V1.1, V2.1, V3.1, V4.1, st, 0, 0, 0, 0, [], lj ++ [⟨txt A.1, B.1, C.1⟩], false⟩) (do2 := none) (dn2 := 0) (dc2 := 0) (lo2 := some ⟨g9, 0, none⟩) (ln2 := j + 1) (lc2 := c9) (j := 10) (u := .slice (some ⟨g9, 0, none⟩) (j + 1) c9) (by rw [RpB, heap_setCell_same _ _ _ _ _ _ hS2.r]; rfl); have hO3 := hown1.kept (grown_setCell w9 (w.heap.size + 2) 10 (.slice (some ⟨g9, 0, none⟩) (j + 1) c9)) (.inr (own_far hown1 (.inl (by omega)))); obtain ⟨⟨e0, e1, e2, e3, e4, e5, e6, e7, e8, e9, e10, e11⟩, ef⟩ := hS2.r.c; have hs9 : L0 ≤ w9.heap.size := Nat.le_trans hs6 (Nat.le_trans (by simp) hgrow1.size))
        go_roundw
        case rel =>
          refine ⟨j + 1, some ⟨g9, 0, none⟩, c9, by omega, by go_num, ?_, ?_, ?_⟩
          · rw [HNX.out]; exact hS3
          · rw [HNX.out, entCells_app, entCells_one]; exact hO3
          · simp; exact hs9
        case measure => simp [intOf]; omega
      · have hji : decide ((j : Int) < (Nn : Int)) = false := by simp; omega
        have hjn : j = Nn := by omega
        clear hj hlt
        subst hjn
        have hLen : Hid ((rdEnts k cs j nst).1.length = j) := rdEnts_len k cs j nst
        obtain ⟨⟨b0, b1, b2, b3, b4, b5, b6, b7, b8, b9, b10, b11⟩, bf⟩ := hS.r.c
        go_wp2_with fail
        clear b0 b1 b2 b3 b4 b5 b6 b7 b8 b9 b10 b11 bf
        refine (v_flag hS.dr G2.out).mono ?_
        rintro e wm ⟨rfl, hd, hg⟩
        have hS := hS.read hd hg
        have hOl := hOl.kept hg (.inr (own_far hOl (.inl hLow.2.1)))
        clear hd hg
        obtain ⟨⟨b0, b1, b2, b3, b4, b5, b6, b7, b8, b9, b10, b11⟩, bf⟩ := hS.r.c
        have hS := hS.put (s' := (⟨V1.1, V2.1, V3.1, V4.1, st, 0, 0, 0, 0, [], (rdEnts k cs j nst).1, F.1⟩ : Rep)) (do2 := none) (dn2 := 0) (dc2 := 0) (lo2 := lo) (ln2 := j) (lc2 := lc) (j := 11) (u := .bool F.1) (by rw [RpB, heap_setCell_same _ _ _ _ _ _ hS.r]; rfl)
        have hOl := hOl.kept (grown_setCell wm (w.heap.size + 2) 11 (.bool F.1)) (.inr (own_far hOl (.inl (by omega))))
        go_wp2_with fail
        clear b0 b1 b2 b3 b4 b5 b6 b7 b8 b9 b10 b11 bf
        obtain ⟨CE, hCE⟩ : ∃ CE, rdClose k F.2.1 F.2.2 = CE := ⟨_, rfl⟩
        have HC : Hid (rdClose k F.2.1 F.2.2 = CE) := hCE
        clear hCE
        refine (v_close hS.dr HC.out).mono ?_
        rintro e wc ⟨rfl, hg⟩
        have hOl := hOl.kept hg (.inr (own_not hOl hS.dr.r.blk (by decide)))
        have hS := hS.shut hg
        clear hg
        by_cases hce : CE = 0
        case neg =>
          have hcb : (CE != 0) = true := by simpa using hce
          have hfin := setRp_is rp0 none 0 0 none 0 0 hS.res
          have hB := hS.B.grown (setRp_grown wc w.heap.size rp0 none 0 0 none 0 0) hS.B.size (fun k hk => by cases hk; exact Nat.le_refl _)
          obtain ⟨⟨b0, b1, b2, b3, b4, b5, b6, b7, b8, b9, b10, b11⟩, bf⟩ := hS.res.c
          obtain ⟨⟨d0, d1, d2, d3, d4, d5, d6, d7, d8, d9, d10, d11⟩, df⟩ := hS.non.c
          have HCN : Hid (¬ CE = 0) := hce
          clear hce
          go_wp2
          refine bodyPost_ret (RpB.res rfl _ rfl hfin) rfl ?_
          have hE : rpTE k cs = CE := by rw [HT.out.1, HC.out, if_pos HCN.out]
          exact ⟨rp0, none, 0, 0, none, 0, 0, by rw [hE]; rfl, by rw [hE, if_neg HCN.out], Lies.nil _, CLies.nil _ _, rfl, hB⟩
        subst hce
        obtain ⟨⟨b0, b1, b2, b3, b4, b5, b6, b7, b8, b9, b10, b11⟩, bf⟩ := hS.r.c
        go_wp2_with fail
        clear b0 b1 b2 b3 b4 b5 b6 b7 b8 b9 b10 b11 bf
        refine (rbrought_any (⟨V1.1, V2.1, V3.1, V4.1, st, 0, 0, 0, 0, [], (rdEnts k cs j nst).1, F.1⟩ : Rep) none 0 0 lo j lc _ rfl (CLies.owned hOl) hLen.out (rpHead_op HH.out)).mono ?_
        rintro e wj ⟨rfl, hb⟩
        have hS := hS.below hb
        have hOl := own_below hOl hb
        clear hb
        obtain ⟨J, hJ⟩ : ∃ J, rpBodyE (⟨V1.1, V2.1, V3.1, V4.1, st, 0, 0, 0, 0, [], (rdEnts k cs j nst).1, F.1⟩ : Rep) = J := ⟨_, rfl⟩
        rw [hJ]
        have HJ : Hid (rpBodyE (⟨V1.1, V2.1, V3.1, V4.1, st, 0, 0, 0, 0, [], (rdEnts k cs j nst).1, F.1⟩ : Rep) = J) := hJ
        clear hJ
        by_cases hj : J = 0
        case neg =>
          have hcb : (J != 0) = true := by simpa using hj
          have hfin := setRp_is rp0 none 0 0 none 0 0 hS.res
          have hB := hS.B.grown (setRp_grown wj w.heap.size rp0 none 0 0 none 0 0) hS.B.size (fun k hk => by cases hk; exact Nat.le_refl _)
          obtain ⟨⟨b0, b1, b2, b3, b4, b5, b6, b7, b8, b9, b10, b11⟩, bf⟩ := hS.res.c
          obtain ⟨⟨d0, d1, d2, d3, d4, d5, d6, d7, d8, d9, d10, d11⟩, df⟩ := hS.non.c
          have HJN : Hid (¬ J = 0) := hj
          clear hj
          go_wp2
          refine bodyPost_ret (RpB.res rfl _ rfl hfin) rfl ?_
          have hE : rpTE k cs = J := by rw [HT.out.1, HC.out, if_neg (by simp), HJ.out]
          exact ⟨rp0, none, 0, 0, none, 0, 0, by rw [hE]; rfl, by rw [hE, if_neg HJN.out], Lies.nil _, CLies.nil _ _, rfl, hB⟩
        subst hj
        have hfin := setRp_is (⟨V1.1, V2.1, V3.1, V4.1, st, 0, 0, 0, 0, [], (rdEnts k cs j nst).1, F.1⟩ : Rep) none 0 0 lo j lc hS.res
        have hB := hS.B.grown (setRp_grown wj w.heap.size (⟨V1.1, V2.1, V3.1, V4.1, st, 0, 0, 0, 0, [], (rdEnts k cs j nst).1, F.1⟩ : Rep) none 0 0 lo j lc) hS.B.size (fun k hk => by cases hk; exact Nat.le_refl _)
        obtain ⟨⟨b0, b1, b2, b3, b4, b5, b6, b7, b8, b9, b10, b11⟩, bf⟩ := hS.res.c
        obtain ⟨⟨d0, d1, d2, d3, d4, d5, d6, d7, d8, d9, d10, d11⟩, df⟩ := hS.r.c
        go_wp2
        refine bodyPost_ret (RpB.res rfl _ rfl hfin) rfl ?_
        have hE : rpTE k cs = 0 := by rw [HT.out.1, HC.out, if_neg (by simp), HJ.out]
        refine ⟨(⟨V1.1, V2.1, V3.1, V4.1, st, 0, 0, 0, 0, [], (rdEnts k cs j nst).1, F.1⟩ : Rep), none, 0, 0, lo, j, lc, by rw [hE]; rfl, by rw [hE, if_pos rfl, HT.out.2], ?_, ?_, hLen.out, hB⟩
        · exact Lies.nil _
        · exact CLies.owned (hOl.kept (setRp_grown _ _ (⟨V1.1, V2.1, V3.1, V4.1, st, 0, 0, 0, 0, [], (rdEnts k cs j nst).1, F.1⟩ : Rep) none 0 0 lo j lc) (.inr (own_not hOl hS.res (by decide))))
end Go.Proofs.YtdkcplndplhblaaGreatDoor

/- annexref4.DecodeReply: where opened or the header has an error; all kinds. -/
namespace Go.Proofs.YtdkcplndplhblaaGreatDoor
open Go.RowKit
set_option maxRecDepth 100000

set_option maxHeartbeats 4000000 in
theorem rdecRp_open (ao : Option Addr) (m c : Nat) (bs : List Int) (w : World) (hL : Lies w ao m c bs) (hm : m ≤ 200000000000000) (hby : Bys bs) (E : Int) (hE : openE [65, 78, 82, 49] m bs = E) (hop : E ≠ 0) :
    Calls Tryz.prog 31 #[.slice ao m c] w fun e w' => e = .returned (.tuple #[rpV rp0 none 0 0 none 0 0, .int .i64 E]) ∧ Below w.heap.size w w' := by
  have hZ : PS0 w (((w.alloc (.cells #[.int .i64 0, .int .i64 0, .int .i64 0, .int .i64 0, .int .i64 0, .int .i64 0, .int .i64 0, .int .i64 0, .int .i64 0, .slice none 0 0, .slice none 0 0, .bool false] 30)).alloc (.cells #[.int .i64 0, .int .i64 0, .int .i64 0, .int .i64 0, .int .i64 0, .int .i64 0, .int .i64 0, .int .i64 0, .int .i64 0, .slice none 0 0, .slice none 0 0, .bool false] 30)).alloc (.cells #[.int .i64 0, .int .i64 0, .int .i64 0, .int .i64 0, .int .i64 0, .int .i64 0, .int .i64 0, .int .i64 0, .int .i64 0, .slice none 0 0, .slice none 0 0, .bool false] 30)) := ps0 w
  go_enter Tryz.func31, Tryz.ntmps31
  go_wp2_with fail
  generalize ((w.alloc (.cells #[.int .i64 0, .int .i64 0, .int .i64 0, .int .i64 0, .int .i64 0, .int .i64 0, .int .i64 0, .int .i64 0, .int .i64 0, .slice none 0 0, .slice none 0 0, .bool false] 30)).alloc (.cells #[.int .i64 0, .int .i64 0, .int .i64 0, .int .i64 0, .int .i64 0, .int .i64 0, .int .i64 0, .int .i64 0, .int .i64 0, .slice none 0 0, .slice none 0 0, .bool false] 30)).alloc (.cells #[.int .i64 0, .int .i64 0, .int .i64 0, .int .i64 0, .int .i64 0, .int .i64 0, .int .i64 0, .int .i64 0, .int .i64 0, .slice none 0 0, .slice none 0 0, .bool false] 30) = w3 at *
  refine (ropened_any ⟨#[65, 78, 82, 49]⟩ ao m c bs _ rfl (hL.below hZ.B (Nat.le_refl _)) hm hby).mono ?_
  have hE' : openE (nums ⟨#[65, 78, 82, 49]⟩) m bs = E := hE
  rintro e wo (⟨_, rfl, hbo⟩ | ⟨h0, _⟩)
  case inr => exact absurd (hE'.symm.trans h0) hop
  rw [hE']
  have hS : PE w rp0 none 0 0 none 0 0 wo := ⟨RpB.below hZ.res hbo, RpB.below hZ.non hbo, RpB.below hZ.r hbo, hZ.B.trans (hbo.mono hZ.B.size)⟩
  clear hZ hbo hL hE hE'
  have hcb : (E != 0) = true := by simpa using hop
  have hfin := setRp_is rp0 none 0 0 none 0 0 hS.res
  have hB := hS.B.grown (setRp_grown wo w.heap.size rp0 none 0 0 none 0 0) hS.B.size (fun k hk => by cases hk; exact Nat.le_refl _)
  obtain ⟨⟨b0, b1, b2, b3, b4, b5, b6, b7, b8, b9, b10, b11⟩, bf⟩ := hS.res.c
  obtain ⟨⟨d0, d1, d2, d3, d4, d5, d6, d7, d8, d9, d10, d11⟩, df⟩ := hS.non.c
  go_wp2
  refine bodyPost_ret (RpB.res rfl _ rfl hfin) rfl ?_
  exact ⟨rfl, hB⟩

set_option maxHeartbeats 8000000 in
theorem rdecRp_head (ao : Option Addr) (m c : Nat) (bs : List Int) (w : World) (hL : Lies w ao m c bs) (hm : m ≤ 200000000000000) (hby : Bys bs) (hop : openE [65, 78, 82, 49] m bs = 0) (k : Nat) (cs : List Int) (hk : k = m - 12) (hcs : cs = (bs.drop 4).take (m - 12)) (V1 V2 V3 V4 V5 : Int × Nat × Int) (h1 : rdNum 4 k cs 0 0 4294967295 = V1) (h2 : rdNum 8 k cs V1.2.1 V1.2.2 9223372036854775807 = V2) (h3 : rdNum 8 k cs V2.2.1 V2.2.2 9223372036854775807 = V3) (h4 : rdNum 4 k cs V3.2.1 V3.2.2 4294967295 = V4) (h5 : rdNum 4 k cs V4.2.1 V4.2.2 4294967295 = V5) (hbad : V5.2.2 ≠ 0 ∨ rpHeadE (⟨V1.1, V2.1, V3.1, V4.1, V5.1, 0, 0, 0, 0, [], [], false⟩ : Rep) ≠ 0) :
    Calls Tryz.prog 31 #[.slice ao m c] w fun e w' => RpOut w k cs e w' := by
  have T1 : rpH k cs = ([(0, .small V1.1), (1, .great V2.1), (3, .great V3.1), (4, .small V4.1), (5, .small V5.1)], V5.2) := by
    simp only [rpH, rpHead, takeL, takeV, h1, h2, h3, h4, h5]
  have T2 : rp1 k cs = (⟨V1.1, V2.1, V3.1, V4.1, V5.1, 0, 0, 0, 0, [], [], false⟩ : Rep) := by unfold rp1; rw [T1]; rfl
  have HT : Hid (rpTE k cs = (if ¬ V5.2.2 = 0 then V5.2.2 else if ¬ rpHeadE (⟨V1.1, V2.1, V3.1, V4.1, V5.1, 0, 0, 0, 0, [], [], false⟩ : Rep) = 0 then rpHeadE (⟨V1.1, V2.1, V3.1, V4.1, V5.1, 0, 0, 0, 0, [], [], false⟩ : Rep) else if ¬ lastE k cs (rpG (⟨V1.1, V2.1, V3.1, V4.1, V5.1, 0, 0, 0, 0, [], [], false⟩ : Rep)) V5.2 = 0 then lastE k cs (rpG (⟨V1.1, V2.1, V3.1, V4.1, V5.1, 0, 0, 0, 0, [], [], false⟩ : Rep)) V5.2 else rpJE (rp2 k cs))) := by
    show _ = _
    unfold rpTE
    rw [T2, T1]
  clear T1 T2
  have HX : Hid (V5.2.2 ≠ 0 ∨ rpHeadE (⟨V1.1, V2.1, V3.1, V4.1, V5.1, 0, 0, 0, 0, [], [], false⟩ : Rep) ≠ 0) := hbad
  have H1 : Hid _ := h1
  have H2 : Hid _ := h2
  have H3 : Hid _ := h3
  have H4 : Hid _ := h4
  have H5 : Hid _ := h5
  clear h1 h2 h3 h4 h5 hbad
  have hZ : PS0 w (((w.alloc (.cells #[.int .i64 0, .int .i64 0, .int .i64 0, .int .i64 0, .int .i64 0, .int .i64 0, .int .i64 0, .int .i64 0, .int .i64 0, .slice none 0 0, .slice none 0 0, .bool false] 30)).alloc (.cells #[.int .i64 0, .int .i64 0, .int .i64 0, .int .i64 0, .int .i64 0, .int .i64 0, .int .i64 0, .int .i64 0, .int .i64 0, .slice none 0 0, .slice none 0 0, .bool false] 30)).alloc (.cells #[.int .i64 0, .int .i64 0, .int .i64 0, .int .i64 0, .int .i64 0, .int .i64 0, .int .i64 0, .int .i64 0, .int .i64 0, .slice none 0 0, .slice none 0 0, .bool false] 30)) := ps0 w
  have hm2 := openE_le hop hL.hlen
  go_enter Tryz.func31, Tryz.ntmps31
  go_wp2_with fail
  generalize ((w.alloc (.cells #[.int .i64 0, .int .i64 0, .int .i64 0, .int .i64 0, .int .i64 0, .int .i64 0, .int .i64 0, .int .i64 0, .int .i64 0, .slice none 0 0, .slice none 0 0, .bool false] 30)).alloc (.cells #[.int .i64 0, .int .i64 0, .int .i64 0, .int .i64 0, .int .i64 0, .int .i64 0, .int .i64 0, .int .i64 0, .int .i64 0, .slice none 0 0, .slice none 0 0, .bool false] 30)).alloc (.cells #[.int .i64 0, .int .i64 0, .int .i64 0, .int .i64 0, .int .i64 0, .int .i64 0, .int .i64 0, .int .i64 0, .int .i64 0, .slice none 0 0, .slice none 0 0, .bool false] 30) = w3 at *
  refine (ropened_any ⟨#[65, 78, 82, 49]⟩ ao m c bs _ rfl (hL.below hZ.B (Nat.le_refl _)) hm hby).mono ?_
  rintro e wo (⟨hno, _⟩ | ⟨_, rb, ar, cr, rfl, hR, hrb, har, hbo⟩)
  · exact absurd hop hno
  have hS : PS w rb ar cr k cs (0, 0) rp0 none 0 0 none 0 0 wo := hZ.open hR hrb har hbo hk hcs hby hm2
  clear hZ hR hrb har hbo hop hL
  go_wp2_with fail
  refine (v_u32 hS.dr H1.out).mono ?_
  rintro e w11 ⟨rfl, hd, hg⟩
  have hS := hS.read hd hg
  clear hd hg
  obtain ⟨⟨b0, b1, b2, b3, b4, b5, b6, b7, b8, b9, b10, b11⟩, bf⟩ := hS.r.c
  have hS := hS.put (s' := ⟨V1.1, 0, 0, 0, 0, 0, 0, 0, 0, [], [], false⟩) (do2 := none) (dn2 := 0) (dc2 := 0) (lo2 := none) (ln2 := 0) (lc2 := 0) (j := 0) (u := .int .i64 V1.1) (by rw [RpB, heap_setCell_same _ _ _ _ _ _ hS.r]; rfl)
  go_wp2_with fail
  clear b0 b1 b2 b3 b4 b5 b6 b7 b8 b9 b10 b11 bf
  refine (v_u64 hS.dr H2.out).mono ?_
  rintro e w12 ⟨rfl, hd, hg⟩
  have hS := hS.read hd hg
  clear hd hg
  obtain ⟨⟨b0, b1, b2, b3, b4, b5, b6, b7, b8, b9, b10, b11⟩, bf⟩ := hS.r.c
  have hS := hS.put (s' := ⟨V1.1, V2.1, 0, 0, 0, 0, 0, 0, 0, [], [], false⟩) (do2 := none) (dn2 := 0) (dc2 := 0) (lo2 := none) (ln2 := 0) (lc2 := 0) (j := 1) (u := .int .i64 V2.1) (by rw [RpB, heap_setCell_same _ _ _ _ _ _ hS.r]; rfl)
  go_wp2_with fail
  clear b0 b1 b2 b3 b4 b5 b6 b7 b8 b9 b10 b11 bf
  refine (v_u64 hS.dr H3.out).mono ?_
  rintro e w13 ⟨rfl, hd, hg⟩
  have hS := hS.read hd hg
  clear hd hg
  obtain ⟨⟨b0, b1, b2, b3, b4, b5, b6, b7, b8, b9, b10, b11⟩, bf⟩ := hS.r.c
  have hS := hS.put (s' := ⟨V1.1, V2.1, V3.1, 0, 0, 0, 0, 0, 0, [], [], false⟩) (do2 := none) (dn2 := 0) (dc2 := 0) (lo2 := none) (ln2 := 0) (lc2 := 0) (j := 2) (u := .int .i64 V3.1) (by rw [RpB, heap_setCell_same _ _ _ _ _ _ hS.r]; rfl)
  go_wp2_with fail
  clear b0 b1 b2 b3 b4 b5 b6 b7 b8 b9 b10 b11 bf
  refine (v_u32 hS.dr H4.out).mono ?_
  rintro e w14 ⟨rfl, hd, hg⟩
  have hS := hS.read hd hg
  clear hd hg
  obtain ⟨⟨b0, b1, b2, b3, b4, b5, b6, b7, b8, b9, b10, b11⟩, bf⟩ := hS.r.c
  have hS := hS.put (s' := ⟨V1.1, V2.1, V3.1, V4.1, 0, 0, 0, 0, 0, [], [], false⟩) (do2 := none) (dn2 := 0) (dc2 := 0) (lo2 := none) (ln2 := 0) (lc2 := 0) (j := 3) (u := .int .i64 V4.1) (by rw [RpB, heap_setCell_same _ _ _ _ _ _ hS.r]; rfl)
  go_wp2_with fail
  clear b0 b1 b2 b3 b4 b5 b6 b7 b8 b9 b10 b11 bf
  refine (v_u32 hS.dr H5.out).mono ?_
  rintro e w15 ⟨rfl, hd, hg⟩
  have hS := hS.read hd hg
  clear hd hg
  obtain ⟨⟨b0, b1, b2, b3, b4, b5, b6, b7, b8, b9, b10, b11⟩, bf⟩ := hS.r.c
  have hS := hS.put (s' := ⟨V1.1, V2.1, V3.1, V4.1, V5.1, 0, 0, 0, 0, [], [], false⟩) (do2 := none) (dn2 := 0) (dc2 := 0) (lo2 := none) (ln2 := 0) (lc2 := 0) (j := 4) (u := .int .i64 V5.1) (by rw [RpB, heap_setCell_same _ _ _ _ _ _ hS.r]; rfl)
  go_wp2_with fail
  clear b0 b1 b2 b3 b4 b5 b6 b7 b8 b9 b10 b11 bf
  refine (d_err hS.dr).mono ?_
  rintro e we ⟨rfl, hb⟩
  have hS := hS.below hb
  clear hb
  by_cases hv : V5.2.2 = 0
  case neg =>
    have hcb : (V5.2.2 != 0) = true := by simpa using hv
    have HN : Hid (¬ V5.2.2 = 0) := hv
    clear hv
    have hfin := setRp_is rp0 none 0 0 none 0 0 hS.res
    have hB := hS.B.grown (setRp_grown we w.heap.size rp0 none 0 0 none 0 0) hS.B.size (fun k hk => by cases hk; exact Nat.le_refl _)
    obtain ⟨⟨b0, b1, b2, b3, b4, b5, b6, b7, b8, b9, b10, b11⟩, bf⟩ := hS.res.c
    obtain ⟨⟨d0, d1, d2, d3, d4, d5, d6, d7, d8, d9, d10, d11⟩, df⟩ := hS.non.c
    go_wp2
    refine bodyPost_ret (RpB.res rfl _ rfl hfin) rfl ?_
    have hE : rpTE k cs = V5.2.2 := by rw [HT.out, if_pos HN.out]
    exact ⟨rp0, none, 0, 0, none, 0, 0, by rw [hE]; rfl, by rw [hE, if_neg HN.out], Lies.nil _, CLies.nil _ _, rfl, hB⟩
  have HV5 : Hid (V5.2.2 = 0) := hv
  rw [hv]
  clear hv
  obtain ⟨⟨b0, b1, b2, b3, b4, b5, b6, b7, b8, b9, b10, b11⟩, bf⟩ := hS.r.c
  go_wp2_with fail
  clear b0 b1 b2 b3 b4 b5 b6 b7 b8 b9 b10 b11 bf
  refine (ranswer_any (⟨V1.1, V2.1, V3.1, V4.1, V5.1, 0, 0, 0, 0, [], [], false⟩ : Rep) none 0 0 none 0 0 _).mono ?_
  rintro e wf ⟨rfl, hb⟩
  have hS := hS.below hb
  clear hb
  obtain ⟨J, hJ⟩ : ∃ J, rpHeadE (⟨V1.1, V2.1, V3.1, V4.1, V5.1, 0, 0, 0, 0, [], [], false⟩ : Rep) = J := ⟨_, rfl⟩
  rw [hJ]
  have hj : J ≠ 0 := by
    rcases HX.out with h | h
    · exact absurd HV5.out h
    · rw [← hJ]; exact h
  have HJ : Hid (rpHeadE (⟨V1.1, V2.1, V3.1, V4.1, V5.1, 0, 0, 0, 0, [], [], false⟩ : Rep) = J ∧ ¬ J = 0) := ⟨hJ, hj⟩
  clear hJ
  have hcb : (J != 0) = true := by simpa using hj
  clear hj
  have hfin := setRp_is rp0 none 0 0 none 0 0 hS.res
  have hB := hS.B.grown (setRp_grown wf w.heap.size rp0 none 0 0 none 0 0) hS.B.size (fun k hk => by cases hk; exact Nat.le_refl _)
  obtain ⟨⟨b0, b1, b2, b3, b4, b5, b6, b7, b8, b9, b10, b11⟩, bf⟩ := hS.res.c
  obtain ⟨⟨d0, d1, d2, d3, d4, d5, d6, d7, d8, d9, d10, d11⟩, df⟩ := hS.non.c
  go_wp2
  refine bodyPost_ret (RpB.res rfl _ rfl hfin) rfl ?_
  have hE : rpTE k cs = J := by rw [HT.out, if_neg (by simpa using HV5.out), HJ.out.1, if_pos HJ.out.2]
  exact ⟨rp0, none, 0, 0, none, 0, 0, by rw [hE]; rfl, by rw [hE, if_neg HJ.out.2], Lies.nil _, CLies.nil _ _, rfl, hB⟩

theorem rdecRp_any (ao : Option Addr) (m c : Nat) (bs : List Int) (w : World) (hL : Lies w ao m c bs) (hm : m ≤ 200000000000000) (hby : Bys bs) :
    Calls Tryz.prog 31 #[.slice ao m c] w fun e w' => ∃ s bo n d lo ln lc, e = .returned (.tuple #[rpV s bo n d lo ln lc, .int .i64 (rpDE bs)]) ∧ s = rpD bs ∧ Lies w' bo n d s.data ∧ CLies w' lo ln lc 3 (entCells s.list) ∧ s.list.length = ln ∧ Below w.heap.size w w' := by
  have hl := hL.hlen
  by_cases hop : openE [65, 78, 82, 49] m bs = 0
  case neg =>
    have e1 : rpDE bs = openE [65, 78, 82, 49] m bs := by unfold rpDE; rw [hl, if_pos hop]
    refine (rdecRp_open ao m c bs w hL hm hby _ rfl hop).mono ?_
    rintro e w' ⟨rfl, hb⟩
    exact ⟨rp0, none, 0, 0, none, 0, 0, by rw [e1], by unfold rpD; rw [e1, if_neg hop], Lies.nil _, CLies.nil _ _, rfl, hb⟩
  have e1 : rpDE bs = rpTE (m - 12) ((bs.drop 4).take (m - 12)) := by unfold rpDE; rw [hl, if_neg (by simpa using hop)]
  have key : Calls Tryz.prog 31 #[.slice ao m c] w fun e w' => RpOut w (m - 12) ((bs.drop 4).take (m - 12)) e w' := by
    obtain ⟨k, hk⟩ : ∃ k, k = m - 12 := ⟨_, rfl⟩
    obtain ⟨cs, hcs⟩ : ∃ cs, cs = (bs.drop 4).take (m - 12) := ⟨_, rfl⟩
    rw [← hcs, ← hk]
    have hbc : Bys cs := by rw [hcs]; exact take_bys (drop_bys hby 4) _
    obtain ⟨V1, h1⟩ : ∃ V, rdNum 4 k cs 0 0 4294967295 = V := ⟨_, rfl⟩
    obtain ⟨V2, h2⟩ : ∃ V, rdNum 8 k cs V1.2.1 V1.2.2 9223372036854775807 = V := ⟨_, rfl⟩
    obtain ⟨V3, h3⟩ : ∃ V, rdNum 8 k cs V2.2.1 V2.2.2 9223372036854775807 = V := ⟨_, rfl⟩
    obtain ⟨V4, h4⟩ : ∃ V, rdNum 4 k cs V3.2.1 V3.2.2 4294967295 = V := ⟨_, rfl⟩
    obtain ⟨V5, h5⟩ : ∃ V, rdNum 4 k cs V4.2.1 V4.2.2 4294967295 = V := ⟨_, rfl⟩
    by_cases hbad : V5.2.2 ≠ 0 ∨ rpHeadE (⟨V1.1, V2.1, V3.1, V4.1, V5.1, 0, 0, 0, 0, [], [], false⟩ : Rep) ≠ 0
    · exact rdecRp_head ao m c bs w hL hm hby hop k cs hk hcs V1 V2 V3 V4 V5 h1 h2 h3 h4 h5 hbad
    have hv : V5.2.2 = 0 := Classical.byContradiction fun h => hbad (.inl h)
    have hH : rpHeadE (⟨V1.1, V2.1, V3.1, V4.1, V5.1, 0, 0, 0, 0, [], [], false⟩ : Rep) = 0 := Classical.byContradiction fun h => hbad (.inr h)
    clear hbad
    obtain ⟨st, p5, q5⟩ := V5
    simp only at hv hH
    subst hv
    have ke : glets V4.1 st = ⟨#[]⟩ → hasRp V4.1 st = [] → Calls Tryz.prog 31 #[.slice ao m c] w fun e w' => RpOut w k cs e w' := fun a b => rdecRp_e ao m c bs w hL hm hby hop k cs hk hcs V1 V2 V3 V4 st p5 h1 h2 h3 h4 h5 hH a b
    by_cases hs : st = 0
    case neg => exact ke (by unfold glets; rw [if_neg hs]) (by unfold hasRp; rw [if_neg hs])
    by_cases o1 : V4.1 = 1 ∨ V4.1 = 2 ∨ V4.1 = 4 ∨ V4.1 = 5 ∨ V4.1 = 7
    · exact rdecRp_a ao m c bs w hL hm hby hop k cs hk hcs V1 V2 V3 V4 st p5 _ _ _ _ h1 h2 h3 h4 h5 hH (by unfold glets; rw [if_pos hs, if_pos o1]) (by unfold hasRp; rw [if_pos hs, if_pos o1]) rfl rfl rfl rfl
    by_cases o3 : V4.1 = 3
    · exact rdecRp_d ao m c bs w hL hm hby hop k cs hk hcs V1 V2 V3 V4 st p5 _ _ _ _ _ h1 h2 h3 h4 h5 hH (by unfold glets; rw [if_pos hs, if_neg o1, if_pos o3]) (by unfold hasRp; rw [if_pos hs, if_neg o1, if_pos o3]) rfl rfl rfl rfl rfl
    by_cases o10 : V4.1 = 10
    · obtain ⟨Nn, nst, g1⟩ := num_nat (j := 4) (k := k) (p := p5) (M := 4294967295) hbc
      exact rdecRp_t ao m c bs w hL hm hby hop k cs hk hcs V1 V2 V3 V4 st p5 Nn nst _ h1 h2 h3 h4 h5 hH (by unfold glets; rw [if_pos hs, if_neg o1, if_neg o3, if_pos o10]) (by unfold hasRp; rw [if_pos hs, if_neg o1, if_neg o3, if_pos o10]) g1 rfl
    · exact ke (by unfold glets; rw [if_pos hs, if_neg o1, if_neg o3, if_neg o10]) (by unfold hasRp; rw [if_pos hs, if_neg o1, if_neg o3, if_neg o10])
  refine key.mono ?_
  rintro e w' ⟨s, bo, n, d, lo, ln, lc, rfl, hs, hl2, hl3, hl4, hb⟩
  refine ⟨s, bo, n, d, lo, ln, lc, by rw [e1], ?_, hl2, hl3, hl4, hb⟩
  rw [hs]
  unfold rpD
  rw [e1, hl]
end Go.Proofs.YtdkcplndplhblaaGreatDoor

/- annexref4.Kind. -/
namespace Go.Proofs.YtdkcplndplhblaaGreatDoor
open Go.RowKit
set_option maxRecDepth 100000

theorem take_is : ∀ (bs : List Int), 4 ≤ bs.length → bs.take 4 = [bs.getD 0 0, bs.getD 1 0, bs.getD 2 0, bs.getD 3 0]
  | a :: b :: c :: d :: r, _ => rfl
  | [], h => by simp at h
  | [a], h => by simp at h
  | [a, b], h => by simp at h
  | [a, b, c], h => by simp at h
set_option maxHeartbeats 2000000 in
theorem rkind_any (ao : Option Addr) (n c : Nat) (bs : List Int) (w : World) (hL : Lies w ao n c bs) :
    Calls Tryz.prog 34 #[.slice ao n c] w fun e w' => e = .returned (.int .i64 (if bs.take 4 = [65, 78, 81, 49] then 1 else if bs.take 4 = [65, 78, 82, 49] then 2 else 0)) ∧ w' = w := by
  have hlen := hL.hlen
  by_cases h4 : n < 4
  · have hi : decide ((n : Int) < 4) = true := by simp; omega
    have e1 : ∀ l : List Int, l.length = 4 → ¬ bs.take 4 = l := fun l hl h => by
      have := congrArg List.length h
      rw [List.length_take, hl] at this
      omega
    rw [if_neg (e1 _ rfl), if_neg (e1 _ rfl)]
    clear hlen hL e1
    go_enter Tryz.func34, Tryz.ntmps34
    go_wp2
    go_ret
    exact ⟨rfl, rfl⟩
  · have hi : decide ((n : Int) < 4) = false := by simp; omega
    have hni : (4 : Int) ≤ (n : Int) := by omega
    obtain ⟨b, o, rfl, hc⟩ := hL.at (by omega)
    have c0 := hc 0 (by omega)
    have c1 := hc 1 (by omega)
    have c2 := hc 2 (by omega)
    have c3 := hc 3 (by omega)
    rw [Nat.add_zero] at c0
    have g0 : (0 : Int) < (n : Int) := by omega
    have g1 : (1 : Int) < (n : Int) := by omega
    have g2 : (2 : Int) < (n : Int) := by omega
    have g3 : (3 : Int) < (n : Int) := by omega
    rw [take_is bs (by omega)]
    clear hc hL hlen
    generalize bs.getD 0 0 = x0 at *
    generalize bs.getD 1 0 = x1 at *
    generalize bs.getD 2 0 = x2 at *
    generalize bs.getD 3 0 = x3 at *
    by_cases h0 : x0 = 65
    · subst h0
      by_cases h1 : x1 = 78
      · subst h1
        by_cases h3 : x3 = 49
        · subst h3
          by_cases h2 : x2 = 81
          · subst h2
            go_enter Tryz.func34, Tryz.ntmps34
            go_wp2
            go_ret
            exact ⟨rfl, rfl⟩
          · by_cases h2' : x2 = 82
            · subst h2'
              go_enter Tryz.func34, Tryz.ntmps34
              go_wp2
              go_ret
              exact ⟨rfl, rfl⟩
            · rw [if_neg (by simp [h2]), if_neg (by simp [h2'])]
              have q1 : (x2 == 81) = false := by simpa using h2
              have q2 : (x2 == 82) = false := by simpa using h2'
              clear h2 h2'
              go_enter Tryz.func34, Tryz.ntmps34
              go_wp2
              go_ret
              exact ⟨rfl, rfl⟩
        · rw [if_neg (by simp [h3]), if_neg (by simp [h3])]
          have q1 : (x3 != 49) = true := by simpa using h3
          clear h3
          go_enter Tryz.func34, Tryz.ntmps34
          go_wp2
          go_ret
          exact ⟨rfl, rfl⟩
      · rw [if_neg (by simp [h1]), if_neg (by simp [h1])]
        have q1 : (x1 != 78) = true := by simpa using h1
        clear h1
        go_enter Tryz.func34, Tryz.ntmps34
        go_wp2
        go_ret
        exact ⟨rfl, rfl⟩
    · rw [if_neg (by simp [h0]), if_neg (by simp [h0])]
      have q1 : (x0 != 65) = true := by simpa using h0
      clear h0
      go_enter Tryz.func34, Tryz.ntmps34
      go_wp2
      go_ret
      exact ⟨rfl, rfl⟩
end Go.Proofs.YtdkcplndplhblaaGreatDoor

/- How long what is read can be. -/
namespace Go.Proofs.YtdkcplndplhblaaGreatDoor
open Go.RowKit
set_option maxRecDepth 100000

def VBd (L : Nat) : Val → Prop
  | .content d => d.length ≤ L
  | .entries l => l.length ≤ 4294967295
  | _ => True
theorem rdNum_top (j n : Nat) (bs : List Int) (p : Nat) (q M : Int) (hM : 0 ≤ M) : (rdNum j n bs p q M).1 ≤ M := by
  unfold rdNum
  split
  · exact hM
  · split
    · exact hM
    · split
      · exact hM
      · rename_i h; simp only; omega
theorem takeV_bd (n : Nat) (bs : List Int) (st : Nat × Int) (v : Val) : VBd bs.length (takeV n bs st v).1 := by
  cases v with
  | content d => exact rdText_len _ _ _ _ _
  | entries l =>
    have h := rdNum_top 4 n bs st.1 st.2 4294967295 (by omega)
    simp only [takeV, VBd, rdEnts_len]
    omega
  | _ => trivial
theorem takeL_bd (n : Nat) (bs : List Int) : ∀ (gs : List (Int × Val)) (st : Nat × Int), ∀ g ∈ (takeL n bs gs st).1, VBd bs.length g.2
  | [], _, g, h => by simp [takeL] at h
  | x :: gs, st, g, h => by
    simp only [takeL, List.mem_cons] at h
    rcases h with rfl | h
    · exact takeV_bd n bs st x.2
    · exact takeL_bd n bs gs _ g h
theorem rqPlace_bd (L : Nat) (r : Req) (g : Int × Val) (hr : r.data.length ≤ L) (hg : VBd L g.2) : (rqPlace r g).data.length ≤ L := by
  obtain ⟨no, v⟩ := g
  cases v with
  | small x => simp only [rqPlace, rqSmall]; repeat' split
               all_goals exact hr
  | great x => simp only [rqPlace, rqGreat]; repeat' split
               all_goals exact hr
  | content d => exact hg
  | name s => simp only [rqPlace]; split <;> exact hr
  | path s => exact hr
  | flag b => exact hr
  | attr i k z c => exact hr
  | entries l => exact hr
theorem fold_rq (L : Nat) : ∀ (gs : List (Int × Val)) (r : Req), r.data.length ≤ L → (∀ g ∈ gs, VBd L g.2) → (gs.foldl rqPlace r).data.length ≤ L
  | [], r, hr, _ => hr
  | g :: gs, r, hr, h => fold_rq L gs _ (rqPlace_bd L r g hr (h g (by simp))) (fun x hx => h x (by simp [hx]))
theorem rpPlace_bd (L : Nat) (r : Rep) (g : Int × Val) (hr : r.data.length ≤ L ∧ r.list.length ≤ 4294967295) (hg : VBd L g.2) : (rpPlace r g).data.length ≤ L ∧ (rpPlace r g).list.length ≤ 4294967295 := by
  obtain ⟨no, v⟩ := g
  cases v with
  | small x => simp only [rpPlace, rpSmall]; repeat' split
               all_goals exact hr
  | great x => simp only [rpPlace, rpGreat]; repeat' split
               all_goals exact hr
  | content d => exact ⟨hg, hr.2⟩
  | entries l => exact ⟨hr.1, hg⟩
  | name s => exact hr
  | path s => exact hr
  | flag b => exact hr
  | attr i k z c => exact hr
theorem fold_rp (L : Nat) : ∀ (gs : List (Int × Val)) (r : Rep), r.data.length ≤ L ∧ r.list.length ≤ 4294967295 → (∀ g ∈ gs, VBd L g.2) → (gs.foldl rpPlace r).data.length ≤ L ∧ (gs.foldl rpPlace r).list.length ≤ 4294967295
  | [], r, hr, _ => hr
  | g :: gs, r, hr, h => fold_rp L gs _ (rpPlace_bd L r g hr (h g (by simp))) (fun x hx => h x (by simp [hx]))
theorem cs_len (bs : List Int) : ((bs.drop 4).take (bs.length - 12)).length ≤ bs.length := by simp; omega
theorem rqD_len (bs : List Int) : (rqD bs).data.length ≤ bs.length := by
  unfold rqD
  split
  · refine Nat.le_trans (fold_rq _ _ _ (fold_rq _ _ _ ?_ (takeL_bd _ _ _ _)) (takeL_bd _ _ _ _)) (cs_len bs)
    simp [rq0]
  · simp [rq0]
theorem rpD_len (bs : List Int) : (rpD bs).data.length ≤ bs.length ∧ (rpD bs).list.length ≤ 4294967295 := by
  unfold rpD
  split
  · have h := fold_rp _ _ _ (fold_rp _ _ rp0 (by simp [rp0]) (takeL_bd (bs.length - 12) ((bs.drop 4).take (bs.length - 12)) (rpHead rp0) (0, 0))) (takeL_bd (bs.length - 12) ((bs.drop 4).take (bs.length - 12)) (rpG (rp1 (bs.length - 12) ((bs.drop 4).take (bs.length - 12)))) (rpH (bs.length - 12) ((bs.drop 4).take (bs.length - 12))).2)
    exact ⟨Nat.le_trans h.1 (cs_len bs), h.2⟩
  · simp [rp0]
end Go.Proofs.YtdkcplndplhblaaGreatDoor
