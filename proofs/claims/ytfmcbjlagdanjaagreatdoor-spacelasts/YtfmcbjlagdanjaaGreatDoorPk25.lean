/- SpaceLasts by its contract. -/
import Derived.Test.YtfmcbjlagdanjaaGreatDoorPk24
import Derived.BigQuiet
namespace Go.Proofs.YtfmcbjlagdanjaaGreatDoor
open Go.RowKit Go.Maps
set_option maxRecDepth 100000

attribute [local go_sem ↓ 100000] ly_store ly_load ex_load
set_option maxHeartbeats 40000000 in
theorem lasts_ok {D : Nat} (h1 : 8 ≤ D) (h2 : D ≤ 500) (ao : Option Addr) (L cp0 : Nat) (ps : List Prt) (w : World) (hB : Bds w) {er : Nat → Addr} (hE : Errs w er) (hL9 : L ≤ 140737488351232) (hps : PLies w ao L cp0 ps) :
    Calls Tryz.prog 7 #[.int .i64 D, .slice ao L cp0] w fun e w' => e = .returned (.bool true) ∧ Below w.heap.size w w' := by
  have HF : Hid (fitsB (D : Int) = true) := decide_eq_true ⟨by omega, by omega⟩
  have hD5 : (D : Int) ≤ 500 := by omega
  have hLi : (L : Int) ≤ 140737488351232 := by omega
  obtain ⟨i0, hi, hz0, hz1, hz2⟩ := info_parts bool_info
  go_enter Tryz.func7, Tryz.ntmps7
  go_wp2_with fail
  refine (known_ok w hB hE).mono ?_
  rintro e w1 ⟨rfl, b1⟩
  have F1 := fits8_any (D : Int) w1
  rw [HF.out] at F1
  go_wp2_with fail
  refine F1.mono ?_
  rintro e w2 ⟨rfl, hw2⟩
  subst w2
  clear F1
  go_wp2_with fail
  have hB1 := hB.later b1 (Nat.le_refl _)
  have hE1 := hE.below b1 (Nat.le_refl _)
  refine (stood_ok h1 h2 w1 hB1 (hE.below b1 (Nat.le_refl _))).mono ?_
  rintro e w3 ⟨wb, c, rfl, A3, T3, b3, N3⟩
  have s3 := b3.size
  have x3 := A3.t
  have d1 := hps.later b1 (Nat.le_refl _)
  obtain ⟨W5, hW5⟩ : ∃ W, w3.alloc (.cells (madeCells #[.bool false] D) 4) = W := ⟨_, rfl⟩
  have p5 : Below w3.heap.size w3 W5 := by rw [← hW5]; exact (Below.refl _ w3).alloc (Nat.le_refl _) _
  have u5 := bb_made w3 D
  rw [hW5] at u5
  have R5 := Rt.new (A3.below p5) (T3.below p5) N3
  have b5 := b3.trans (p5.mono s3)
  have hG : ¬ c.G w3.heap.size := fun h => by have := T3.dev.lt _ h; omega
  obtain ⟨ub, hub⟩ : ∃ ub, w3.heap.size = ub := ⟨_, rfl⟩
  rw [hub] at u5 hG
  have hsu : w1.heap.size ≤ ub := by omega
  clear hps
  go_wp2_with (at_make; refine wpList_make_row _ rfl _ _ 43 rfl 4 i0 (.bool false) Tryz.underlying43 hi hz0 hz1 rfl _ _ D rfl rfl (by rw [hz2]; omega) (by omega) ?_; rw [hW5])
  have I5 : LsI w1 W5 wb c D 0 ub D [] (List.replicate D false) := ⟨⟨zB, R5, zero_tells D⟩, u5, by simp, hG, hsu, b5, N3.elim (fun _ h => h.2.2.2.bn), Nat.le_refl _⟩
  clear x3 A3 T3 b3 p5 N3 R5 u5 b5 hG hsu
  go_loopw [8, 9] (fun v i wr => ∃ (a i2 : Nat) (c : Tc) (ub cu : Nat) (zs : List Value) (us : List Bool), v = .slice (some ⟨ub, 0, none⟩) D cu ∧ i = .int .i64 a ∧ a ≤ L ∧ a ≤ 40 ∧ i2 ≤ 2 * a ∧ LsI w1 wr wb c D i2 ub cu zs us) (fun _ i _ => L - (intOf i).toNat)
  case atStart => exact ⟨0, 0, c, ub, D, [], _, rfl, rfl, by omega, by omega, by omega, I5⟩
  case round =>
    clear I5
    obtain ⟨a, i2, c, ub, cu, zs, us, rfl, rfl, haL, hak, hi2, I6⟩ := hrel
    obtain ⟨w6, hw6⟩ : ∃ W, wr = W := ⟨_, rfl⟩
    subst wr
    by_cases hlt : a < L ∧ a < 40
    · have hai : (a : Int) < L := by omega
      have hak2 : (a : Int) < 40 := by omega
      have hi1 : i2 ≤ 100 := by omega
      have hi3 : i2 + 1 ≤ 2 * (a + 1) := by omega
      have hi4 : i2 + 1 + 1 ≤ 2 * (a + 1) := by omega
      have hi5 : i2 + 1 ≤ 200 := by omega
      have ha1 : a + 1 ≤ L := by omega
      have ha2 : a + 1 ≤ 40 := by omega
      obtain ⟨p, hp⟩ : ∃ p, ps[a]? = some p := ⟨_, List.getElem?_eq_getElem (by rw [d1.hlen]; omega)⟩
      have hpin := d1.hin p (List.mem_of_getElem? hp)
      obtain ⟨g, o, rfl, f1, f2, f3⟩ := d1.hcells a p hp
      have HC : Hid (∀ W, Below w1.heap.size w1 W → W.cell? ⟨g, o + a * 3, none⟩ = some (.slice p.da p.dn p.dc) ∧ W.cell? ⟨g, o + a * 3 + 1, none⟩ = some (.int .i64 p.e) ∧ W.cell? ⟨g, o + a * 3 + 2, none⟩ = some (.slice p.ka p.kn p.kc)) := fun W hb => ⟨(hb.cell (World.block_lt_of_cell? w1 _ f1)).trans f1, (hb.cell (World.block_lt_of_cell? w1 _ f2)).trans f2, (hb.cell (World.block_lt_of_cell? w1 _ f3)).trans f3⟩
      clear f1 f2 f3 d1
      have hl := I6.l
      have hcu := I6.cp
      have cs6 := bb_cells I6.u
      have A6 := I6.wd
      go_wp2_with (at_builtin; refine wpList_append_own _ rfl _ _ 43 rfl w6.heap.size 4 i0 (.bool false) 1 1 Tryz.underlying43 hi hz0 hz1 hz2 rfl (by decide) (.slice none 0 0) 0 [] rfl (World.ownsRow_nil _ _ _ _) ⟨ub, 0, none⟩ D cu (us.map Value.bool) rfl (by simp [hl]) cs6 (fun u hu => by obtain ⟨y, _, rfl⟩ := List.mem_map.1 hu; rfl) (by unfold maxLen; omega) (by omega) (Nat.le_refl _) ?_; intro v7 w7 hown7 hgrow7 hnil7; simp only [Nat.zero_add, List.nil_append] at hown7; obtain ⟨nb, cn, zn, rfl, hnb, hcn, n7⟩ := bb_own hown7 (by omega); have b7 : Below w6.heap.size w6 w7 := ⟨hgrow7.os, hgrow7.tape, hgrow7.output, hgrow7.size, fun i hi => hgrow7.block i hi (by simp [Value.ownBlock])⟩; have x7 := (A6.below b7).t)
      refine (I6.saves b7 n7 hnb).mono ?_
      rintro e w8 ⟨rfl, sv, I8⟩
      clear x7 A6 cs6 hown7 hgrow7 hnil7 b7 n7
      go_wp2_with fail
      refine (num8_any _ _).mono ?_
      rintro e wz ⟨rfl, hwz⟩
      subst wz
      go_wp2_with fail
      have hdm : (p.dn : Int) ≤ 140737488351232 := by have := hpin.dm; omega
      go_loopw [13] (fun j wr => ∃ (k : Nat) (un : List Bool), j = .int .i64 k ∧ k ≤ p.dn ∧ k ≤ 60 ∧ DdI w1 wr wb (c.saved sv 1) D i2 k ub zs us nb zn un) (fun j _ => p.dn - (intOf j).toNat)
      case atStart => exact ⟨0, us, rfl, by omega, by omega, I8⟩
      case round =>
        obtain ⟨k, un, rfl, hkL, hk6, I9⟩ := hrel
        obtain ⟨w9, hw9⟩ : ∃ W, wr = W := ⟨_, rfl⟩
        subst wr
        clear I8
        obtain ⟨f1, f2, f3⟩ := HC.out w9 I9.bl
        by_cases hk : k < p.dn ∧ k < 60
        · have hki : (k : Int) < p.dn := by omega
          have hki2 : (k : Int) < 60 := by omega
          have dd := hpin.d.later I9.bl (Nat.le_refl _)
          obtain ⟨d, hd⟩ : ∃ d, p.ds[k]? = some d := ⟨_, List.getElem?_eq_getElem (by rw [dd.hlen]; omega)⟩
          obtain ⟨g2, o2, hda, e1, e2⟩ := dd.hcells k d hd
          rw [hda] at f1
          have HD := I9.does (cn := cn) h2 hk6 hB1 d.f d.k
          clear dd hda
          go_wp2_with fail
          refine HD.mono ?_
          rintro e wA ⟨un', rfl, IA⟩
          clear HD e1 e2 hd f1 f2 f3
          go_wp2_with fail
          exact ⟨⟨k + 1, un', by go_num, by omega, by omega, IA⟩, by simp [intOf]; omega⟩
        · by_cases hkd : k < p.dn
          · have hki : (k : Int) < p.dn := by omega
            have hki2 : ¬ (k : Int) < 60 := by omega
            have x9 := I9.A.t
            by_cases he2 : p.e = 2
            · as_aux_lemma =>
                rw [he2] at f2
                go_wp2_with fail
                refine (I9.drop).mono ?_
                rintro e wB ⟨rfl, EB⟩
                clear x9 f1 f2 f3
                rw [he2] at HC
                have x_wB := EB.wd.jc
                obtain ⟨f1, f2, f3⟩ := HC.out wB EB.bl
                go_wp2_with fail
                refine (EB.begins (cp := cu) hcu).mono ?_
                rintro e wC ⟨tb2, wm2, rfl, IC, AC⟩
                have xC := AC.t
                have zC : wC.frozen? ⟨wb, 22, none⟩ = false := by simp [World.frozen?, AC.box]
                clear x_wB f1 f2 f3
                go_wp2_with fail
                obtain ⟨wD, hwD⟩ : ∃ W, wC.setCell ⟨wb, 22, none⟩ (.pointer (some ⟨tb2, 0, none⟩)) = W := ⟨_, rfl⟩
                rw [hwD] at IC
                rw [hwD]
                have xD := IC.wd.t
                have HG := IC.agrees h2 hB1
                clear xC AC zC
                go_wp2_with fail
                refine HG.mono ?_
                rintro e wE ⟨rfl, IE⟩
                clear HG xD
                go_wp2_with fail
                exact ⟨⟨a + 1, i2 + 1, _, _, cu, _, _, rfl, by go_num, ha1, ha2, hi3, IE⟩, by simp [intOf]; omega⟩
            · by_cases he3 : p.e = 3
              · as_aux_lemma =>
                  rw [he3] at f2
                  go_wp2_with fail
                  refine (I9.back).mono ?_
                  rintro e wA ⟨rfl, cA, -, ⟨bs, QA, AA, TA, HA⟩, uA, gA, bA, bnA⟩
                  have xA := AA.t
                  clear x9 f1 f2 f3
                  go_wp2_with fail
                  refine (com_en QA AA TA HA hi1 uA I9.lu gA I9.nu bA bnA).mono ?_
                  rintro e wB ⟨rfl, cB, EB⟩
                  clear xA
                  go_wp2_with fail
                  refine (num8_any _ _).mono ?_
                  rintro e wz ⟨rfl, hwz⟩
                  subst wz
                  go_wp2_with fail
                  refine (num8_any _ _).mono ?_
                  rintro e wz ⟨rfl, hwz⟩
                  subst wz
                  rw [he3] at HC
                  have x_wB := EB.wd.jc
                  obtain ⟨f1, f2, f3⟩ := HC.out wB EB.bl
                  go_wp2_with fail
                  refine (EB.begins (cp := cu) hcu).mono ?_
                  rintro e wC ⟨tb2, wm2, rfl, IC, AC⟩
                  have xC := AC.t
                  have zC : wC.frozen? ⟨wb, 22, none⟩ = false := by simp [World.frozen?, AC.box]
                  clear x_wB f1 f2 f3
                  go_wp2_with fail
                  obtain ⟨wD, hwD⟩ : ∃ W, wC.setCell ⟨wb, 22, none⟩ (.pointer (some ⟨tb2, 0, none⟩)) = W := ⟨_, rfl⟩
                  rw [hwD] at IC
                  rw [hwD]
                  have xD := IC.wd.t
                  have HG := IC.agrees h2 hB1
                  clear xC AC zC
                  go_wp2_with fail
                  refine HG.mono ?_
                  rintro e wE ⟨rfl, IE⟩
                  clear HG xD
                  go_wp2_with fail
                  exact ⟨⟨a + 1, i2 + 1, _, _, cu, _, _, rfl, by go_num, ha1, ha2, hi3, IE⟩, by simp [intOf]; omega⟩
              · obtain ⟨n9, m9, bs9, T9, hn9, HT9⟩ := I9.X
                obtain ⟨bq, Q9, _⟩ := I9.Q
                go_wp2_with fail
                refine (com_en Q9 I9.A T9 HT9 hi1 I9.n I9.ln I9.gn I9.nn I9.bl I9.bn).mono ?_
                rintro e wB ⟨rfl, cB, EB⟩
                clear x9 f1 f2 f3 T9 Q9
                go_wp2_with fail
                refine (num8_any _ _).mono ?_
                rintro e wz ⟨rfl, hwz⟩
                subst wz
                by_cases he4 : p.e = 4
                · as_aux_lemma =>
                    rw [he4] at HC
                    obtain ⟨f1, f2, f3⟩ := HC.out wB EB.bl
                    have yB := EB.wd.dc
                    go_wp2_with fail
                    refine (EB.durable).mono ?_
                    rintro e wF ⟨gF, rfl, MF⟩
                    have HI := MF.image
                    clear yB f1 f2 f3
                    go_wp2_with fail
                    refine HI.mono ?_
                    rintro e wG ⟨db, F, rfl, AG, IG⟩
                    have yG := AG.dc
                    have zG : wG.frozen? ⟨wb, 20, none⟩ = false := by simp [World.frozen?, AG.box]
                    clear HI MF
                    go_wp2_with fail
                    refine (num8_any _ _).mono ?_
                    rintro e wz ⟨rfl, hwz⟩
                    subst wz
                    go_wp2_with fail
                    obtain ⟨wH, hwH⟩ : ∃ W, wG.setCell ⟨wb, 20, none⟩ (.pointer (some ⟨db, 0, none⟩)) = W := ⟨_, rfl⟩
                    rw [hwH] at IG
                    rw [hwH]
                    clear yG zG AG hwH
                    have q1 : wH.drew.cell? ⟨wb, 20, none⟩ = some (.pointer (some ⟨db, 0, none⟩)) ∧ wH.drew.cell? ⟨g, o + a * 3 + 2, none⟩ = some (.slice p.ka p.kn p.kc) := ⟨IG.drew.A.dc, (HC.out _ IG.drew.be).2.2⟩
                    have HK := IG.drew.crash (hpin.k.later IG.drew.be (Nat.le_refl _)) hpin.km hpin.kl
                    go_region_held3 (fun w' => w'.cell? ⟨wb, 20, none⟩ = some (.pointer (some ⟨db, 0, none⟩)) ∧ w'.cell? ⟨g, o + a * 3 + 2, none⟩ = some (.slice p.ka p.kn p.kc))
                      (first | with_reducible exact q1 | with_reducible exact q2)
                      (first
                        | (go_at_call 28; refine HK.mono ?_; rintro e wI ⟨rfl, F', II⟩; have q2 : wI.cell? ⟨wb, 20, none⟩ = some (.pointer (some ⟨db, 0, none⟩)) ∧ wI.cell? ⟨g, o + a * 3 + 2, none⟩ = some (.slice p.ka p.kn p.kc) := ⟨II.A.dc, (HC.out _ II.be).2.2⟩))
                    clear q1 q2 HK IG
                    go_wp2_with fail
                    have q3 : wI.drew.cell? ⟨wb, 20, none⟩ = some (.pointer (some ⟨db, 0, none⟩)) ∧ wI.drew.cell? ⟨wb, 1, none⟩ = some (.int .i64 2) ∧ wI.drew.cell? ⟨wb, 2, none⟩ = some (.int .i64 27) := ⟨II.drew.A.dc, II.drew.A.jl⟩
                    have HO := II.drew.opens hi5 hE1
                    go_region_held3 (fun w' => w'.cell? ⟨wb, 20, none⟩ = some (.pointer (some ⟨db, 0, none⟩)) ∧ w'.cell? ⟨wb, 1, none⟩ = some (.int .i64 2) ∧ w'.cell? ⟨wb, 2, none⟩ = some (.int .i64 27))
                      (first | with_reducible exact q3 | with_reducible exact q4)
                      (first
                        | (go_at_call 29; refine HO.mono ?_; rintro e wJ ⟨jb2, nJ, cJ, rfl, AJ, EJ, rfl⟩; have q4 : wJ.cell? ⟨wb, 20, none⟩ = some (.pointer (some ⟨db, 0, none⟩)) ∧ wJ.cell? ⟨wb, 1, none⟩ = some (.int .i64 2) ∧ wJ.cell? ⟨wb, 2, none⟩ = some (.int .i64 27) := ⟨AJ.dc, AJ.jl⟩))
                    have yJ := AJ.jc
                    have zJ : wJ.frozen? ⟨wb, 21, none⟩ = false := by simp [World.frozen?, AJ.box]
                    clear q3 q4 HO II
                    go_wp2_with fail
                    refine (num8_any _ _).mono ?_
                    rintro e wz ⟨rfl, hwz⟩
                    subst wz
                    go_wp2_with fail
                    obtain ⟨wK, hwK⟩ : ∃ W, wJ.setCell ⟨wb, 21, none⟩ (.pointer (some ⟨cJ.jb, 0, none⟩)) = W := ⟨_, rfl⟩
                    rw [hwK] at EJ
                    rw [hwK]
                    clear yJ zJ AJ hwK
                    have x_wK := EJ.wd.jc
                    obtain ⟨f1, f2, f3⟩ := HC.out wK EJ.bl
                    go_wp2_with fail
                    refine (EJ.begins (cp := cn) hcn).mono ?_
                    rintro e wC ⟨tb2, wm2, rfl, IC, AC⟩
                    have xC := AC.t
                    have zC : wC.frozen? ⟨wb, 22, none⟩ = false := by simp [World.frozen?, AC.box]
                    clear x_wK f1 f2 f3
                    go_wp2_with fail
                    obtain ⟨wD, hwD⟩ : ∃ W, wC.setCell ⟨wb, 22, none⟩ (.pointer (some ⟨tb2, 0, none⟩)) = W := ⟨_, rfl⟩
                    rw [hwD] at IC
                    rw [hwD]
                    have xD := IC.wd.t
                    have HG := IC.agrees h2 hB1
                    clear xC AC zC
                    go_wp2_with fail
                    refine HG.mono ?_
                    rintro e wE ⟨rfl, IE⟩
                    clear HG xD
                    go_wp2_with fail
                    exact ⟨⟨a + 1, i2 + 1 + 1, _, _, cn, _, _, rfl, by go_num, ha1, ha2, hi4, IE⟩, by simp [intOf]; omega⟩
                · as_aux_lemma =>
                    have x_wB := EB.wd.jc
                    obtain ⟨f1, f2, f3⟩ := HC.out wB EB.bl
                    go_wp2_with fail
                    refine (EB.begins (cp := cn) hcn).mono ?_
                    rintro e wC ⟨tb2, wm2, rfl, IC, AC⟩
                    have xC := AC.t
                    have zC : wC.frozen? ⟨wb, 22, none⟩ = false := by simp [World.frozen?, AC.box]
                    clear x_wB f1 f2 f3
                    go_wp2_with fail
                    obtain ⟨wD, hwD⟩ : ∃ W, wC.setCell ⟨wb, 22, none⟩ (.pointer (some ⟨tb2, 0, none⟩)) = W := ⟨_, rfl⟩
                    rw [hwD] at IC
                    rw [hwD]
                    have xD := IC.wd.t
                    have HG := IC.agrees h2 hB1
                    clear xC AC zC
                    go_wp2_with fail
                    refine HG.mono ?_
                    rintro e wE ⟨rfl, IE⟩
                    clear HG xD
                    go_wp2_with fail
                    exact ⟨⟨a + 1, i2 + 1, _, _, cn, _, _, rfl, by go_num, ha1, ha2, hi3, IE⟩, by simp [intOf]; omega⟩
          · have hki : ¬ (k : Int) < p.dn := by omega
            have x9 := I9.A.t
            by_cases he2 : p.e = 2
            · as_aux_lemma =>
                rw [he2] at f2
                go_wp2_with fail
                refine (I9.drop).mono ?_
                rintro e wB ⟨rfl, EB⟩
                clear x9 f1 f2 f3
                rw [he2] at HC
                have x_wB := EB.wd.jc
                obtain ⟨f1, f2, f3⟩ := HC.out wB EB.bl
                go_wp2_with fail
                refine (EB.begins (cp := cu) hcu).mono ?_
                rintro e wC ⟨tb2, wm2, rfl, IC, AC⟩
                have xC := AC.t
                have zC : wC.frozen? ⟨wb, 22, none⟩ = false := by simp [World.frozen?, AC.box]
                clear x_wB f1 f2 f3
                go_wp2_with fail
                obtain ⟨wD, hwD⟩ : ∃ W, wC.setCell ⟨wb, 22, none⟩ (.pointer (some ⟨tb2, 0, none⟩)) = W := ⟨_, rfl⟩
                rw [hwD] at IC
                rw [hwD]
                have xD := IC.wd.t
                have HG := IC.agrees h2 hB1
                clear xC AC zC
                go_wp2_with fail
                refine HG.mono ?_
                rintro e wE ⟨rfl, IE⟩
                clear HG xD
                go_wp2_with fail
                exact ⟨⟨a + 1, i2 + 1, _, _, cu, _, _, rfl, by go_num, ha1, ha2, hi3, IE⟩, by simp [intOf]; omega⟩
            · by_cases he3 : p.e = 3
              · as_aux_lemma =>
                  rw [he3] at f2
                  go_wp2_with fail
                  refine (I9.back).mono ?_
                  rintro e wA ⟨rfl, cA, -, ⟨bs, QA, AA, TA, HA⟩, uA, gA, bA, bnA⟩
                  have xA := AA.t
                  clear x9 f1 f2 f3
                  go_wp2_with fail
                  refine (com_en QA AA TA HA hi1 uA I9.lu gA I9.nu bA bnA).mono ?_
                  rintro e wB ⟨rfl, cB, EB⟩
                  clear xA
                  go_wp2_with fail
                  refine (num8_any _ _).mono ?_
                  rintro e wz ⟨rfl, hwz⟩
                  subst wz
                  go_wp2_with fail
                  refine (num8_any _ _).mono ?_
                  rintro e wz ⟨rfl, hwz⟩
                  subst wz
                  rw [he3] at HC
                  have x_wB := EB.wd.jc
                  obtain ⟨f1, f2, f3⟩ := HC.out wB EB.bl
                  go_wp2_with fail
                  refine (EB.begins (cp := cu) hcu).mono ?_
                  rintro e wC ⟨tb2, wm2, rfl, IC, AC⟩
                  have xC := AC.t
                  have zC : wC.frozen? ⟨wb, 22, none⟩ = false := by simp [World.frozen?, AC.box]
                  clear x_wB f1 f2 f3
                  go_wp2_with fail
                  obtain ⟨wD, hwD⟩ : ∃ W, wC.setCell ⟨wb, 22, none⟩ (.pointer (some ⟨tb2, 0, none⟩)) = W := ⟨_, rfl⟩
                  rw [hwD] at IC
                  rw [hwD]
                  have xD := IC.wd.t
                  have HG := IC.agrees h2 hB1
                  clear xC AC zC
                  go_wp2_with fail
                  refine HG.mono ?_
                  rintro e wE ⟨rfl, IE⟩
                  clear HG xD
                  go_wp2_with fail
                  exact ⟨⟨a + 1, i2 + 1, _, _, cu, _, _, rfl, by go_num, ha1, ha2, hi3, IE⟩, by simp [intOf]; omega⟩
              · obtain ⟨n9, m9, bs9, T9, hn9, HT9⟩ := I9.X
                obtain ⟨bq, Q9, _⟩ := I9.Q
                go_wp2_with fail
                refine (com_en Q9 I9.A T9 HT9 hi1 I9.n I9.ln I9.gn I9.nn I9.bl I9.bn).mono ?_
                rintro e wB ⟨rfl, cB, EB⟩
                clear x9 f1 f2 f3 T9 Q9
                go_wp2_with fail
                refine (num8_any _ _).mono ?_
                rintro e wz ⟨rfl, hwz⟩
                subst wz
                by_cases he4 : p.e = 4
                · as_aux_lemma =>
                    rw [he4] at HC
                    obtain ⟨f1, f2, f3⟩ := HC.out wB EB.bl
                    have yB := EB.wd.dc
                    go_wp2_with fail
                    refine (EB.durable).mono ?_
                    rintro e wF ⟨gF, rfl, MF⟩
                    have HI := MF.image
                    clear yB f1 f2 f3
                    go_wp2_with fail
                    refine HI.mono ?_
                    rintro e wG ⟨db, F, rfl, AG, IG⟩
                    have yG := AG.dc
                    have zG : wG.frozen? ⟨wb, 20, none⟩ = false := by simp [World.frozen?, AG.box]
                    clear HI MF
                    go_wp2_with fail
                    refine (num8_any _ _).mono ?_
                    rintro e wz ⟨rfl, hwz⟩
                    subst wz
                    go_wp2_with fail
                    obtain ⟨wH, hwH⟩ : ∃ W, wG.setCell ⟨wb, 20, none⟩ (.pointer (some ⟨db, 0, none⟩)) = W := ⟨_, rfl⟩
                    rw [hwH] at IG
                    rw [hwH]
                    clear yG zG AG hwH
                    have q1 : wH.drew.cell? ⟨wb, 20, none⟩ = some (.pointer (some ⟨db, 0, none⟩)) ∧ wH.drew.cell? ⟨g, o + a * 3 + 2, none⟩ = some (.slice p.ka p.kn p.kc) := ⟨IG.drew.A.dc, (HC.out _ IG.drew.be).2.2⟩
                    have HK := IG.drew.crash (hpin.k.later IG.drew.be (Nat.le_refl _)) hpin.km hpin.kl
                    go_region_held3 (fun w' => w'.cell? ⟨wb, 20, none⟩ = some (.pointer (some ⟨db, 0, none⟩)) ∧ w'.cell? ⟨g, o + a * 3 + 2, none⟩ = some (.slice p.ka p.kn p.kc))
                      (first | with_reducible exact q1 | with_reducible exact q2)
                      (first
                        | (go_at_call 28; refine HK.mono ?_; rintro e wI ⟨rfl, F', II⟩; have q2 : wI.cell? ⟨wb, 20, none⟩ = some (.pointer (some ⟨db, 0, none⟩)) ∧ wI.cell? ⟨g, o + a * 3 + 2, none⟩ = some (.slice p.ka p.kn p.kc) := ⟨II.A.dc, (HC.out _ II.be).2.2⟩))
                    clear q1 q2 HK IG
                    go_wp2_with fail
                    have q3 : wI.drew.cell? ⟨wb, 20, none⟩ = some (.pointer (some ⟨db, 0, none⟩)) ∧ wI.drew.cell? ⟨wb, 1, none⟩ = some (.int .i64 2) ∧ wI.drew.cell? ⟨wb, 2, none⟩ = some (.int .i64 27) := ⟨II.drew.A.dc, II.drew.A.jl⟩
                    have HO := II.drew.opens hi5 hE1
                    go_region_held3 (fun w' => w'.cell? ⟨wb, 20, none⟩ = some (.pointer (some ⟨db, 0, none⟩)) ∧ w'.cell? ⟨wb, 1, none⟩ = some (.int .i64 2) ∧ w'.cell? ⟨wb, 2, none⟩ = some (.int .i64 27))
                      (first | with_reducible exact q3 | with_reducible exact q4)
                      (first
                        | (go_at_call 29; refine HO.mono ?_; rintro e wJ ⟨jb2, nJ, cJ, rfl, AJ, EJ, rfl⟩; have q4 : wJ.cell? ⟨wb, 20, none⟩ = some (.pointer (some ⟨db, 0, none⟩)) ∧ wJ.cell? ⟨wb, 1, none⟩ = some (.int .i64 2) ∧ wJ.cell? ⟨wb, 2, none⟩ = some (.int .i64 27) := ⟨AJ.dc, AJ.jl⟩))
                    have yJ := AJ.jc
                    have zJ : wJ.frozen? ⟨wb, 21, none⟩ = false := by simp [World.frozen?, AJ.box]
                    clear q3 q4 HO II
                    go_wp2_with fail
                    refine (num8_any _ _).mono ?_
                    rintro e wz ⟨rfl, hwz⟩
                    subst wz
                    go_wp2_with fail
                    obtain ⟨wK, hwK⟩ : ∃ W, wJ.setCell ⟨wb, 21, none⟩ (.pointer (some ⟨cJ.jb, 0, none⟩)) = W := ⟨_, rfl⟩
                    rw [hwK] at EJ
                    rw [hwK]
                    clear yJ zJ AJ hwK
                    have x_wK := EJ.wd.jc
                    obtain ⟨f1, f2, f3⟩ := HC.out wK EJ.bl
                    go_wp2_with fail
                    refine (EJ.begins (cp := cn) hcn).mono ?_
                    rintro e wC ⟨tb2, wm2, rfl, IC, AC⟩
                    have xC := AC.t
                    have zC : wC.frozen? ⟨wb, 22, none⟩ = false := by simp [World.frozen?, AC.box]
                    clear x_wK f1 f2 f3
                    go_wp2_with fail
                    obtain ⟨wD, hwD⟩ : ∃ W, wC.setCell ⟨wb, 22, none⟩ (.pointer (some ⟨tb2, 0, none⟩)) = W := ⟨_, rfl⟩
                    rw [hwD] at IC
                    rw [hwD]
                    have xD := IC.wd.t
                    have HG := IC.agrees h2 hB1
                    clear xC AC zC
                    go_wp2_with fail
                    refine HG.mono ?_
                    rintro e wE ⟨rfl, IE⟩
                    clear HG xD
                    go_wp2_with fail
                    exact ⟨⟨a + 1, i2 + 1 + 1, _, _, cn, _, _, rfl, by go_num, ha1, ha2, hi4, IE⟩, by simp [intOf]; omega⟩
                · as_aux_lemma =>
                    have x_wB := EB.wd.jc
                    obtain ⟨f1, f2, f3⟩ := HC.out wB EB.bl
                    go_wp2_with fail
                    refine (EB.begins (cp := cn) hcn).mono ?_
                    rintro e wC ⟨tb2, wm2, rfl, IC, AC⟩
                    have xC := AC.t
                    have zC : wC.frozen? ⟨wb, 22, none⟩ = false := by simp [World.frozen?, AC.box]
                    clear x_wB f1 f2 f3
                    go_wp2_with fail
                    obtain ⟨wD, hwD⟩ : ∃ W, wC.setCell ⟨wb, 22, none⟩ (.pointer (some ⟨tb2, 0, none⟩)) = W := ⟨_, rfl⟩
                    rw [hwD] at IC
                    rw [hwD]
                    have xD := IC.wd.t
                    have HG := IC.agrees h2 hB1
                    clear xC AC zC
                    go_wp2_with fail
                    refine HG.mono ?_
                    rintro e wE ⟨rfl, IE⟩
                    clear HG xD
                    go_wp2_with fail
                    exact ⟨⟨a + 1, i2 + 1, _, _, cn, _, _, rfl, by go_num, ha1, ha2, hi3, IE⟩, by simp [intOf]; omega⟩
    · by_cases haL2 : a < L
      · have hai : (a : Int) < L := by omega
        have hak2 : ¬ (a : Int) < 40 := by omega
        go_wp2_with fail
        go_ret
        exact ⟨rfl, b1.trans (I6.bl.mono b1.size)⟩
      · have hai : ¬ (a : Int) < L := by omega
        go_wp2_with fail
        go_ret
        exact ⟨rfl, b1.trans (I6.bl.mono b1.size)⟩
end Go.Proofs.YtfmcbjlagdanjaaGreatDoor

/- SpaceLasts whatever the data's size. -/
namespace Go.Proofs.YtfmcbjlagdanjaaGreatDoor
open Go.RowKit Go.Maps
set_option maxRecDepth 100000

set_option maxHeartbeats 1000000 in
theorem lasts_un (data : Int) (ao : Option Addr) (L cp : Nat) (hf : ¬ (8 ≤ data ∧ data ≤ 500)) (w : World) (hB : Bds w) {er : Nat → Addr} (hE : Errs w er) :
    Calls Tryz.prog 7 #[.int .i64 data, .slice ao L cp] w fun e w' => e = .returned (.bool true) ∧ Below w.heap.size w w' := by
  have HF : Hid (fitsB data = false) := decide_eq_false hf
  clear hf
  go_enter Tryz.func7, Tryz.ntmps7
  go_wp2_with fail
  refine (known_ok w hB hE).mono ?_
  rintro e w1 ⟨rfl, b1⟩
  have F1 := fits8_any data w1
  rw [HF.out] at F1
  go_wp2_with fail
  refine F1.mono ?_
  rintro e w2 ⟨rfl, hw2⟩
  subst w2
  clear F1
  go_wp2_with fail
  go_ret
  exact ⟨rfl, b1⟩
theorem lasts_any (data : Int) (ao : Option Addr) (L cp : Nat) (ps : List Prt) (w : World) (hB : Bds w) {er : Nat → Addr} (hE : Errs w er) (hL9 : L ≤ 140737488351232) (hps : PLies w ao L cp ps) :
    Calls Tryz.prog 7 #[.int .i64 data, .slice ao L cp] w fun e w' => e = .returned (.bool true) ∧ Below w.heap.size w w' := by
  by_cases hf : 8 ≤ data ∧ data ≤ 500
  · obtain ⟨D, rfl⟩ : ∃ D : Nat, data = D := ⟨data.toNat, by omega⟩
    exact lasts_ok (by omega) (by omega) ao L cp ps w hB hE hL9 hps
  · exact lasts_un data ao L cp hf w hB hE
end Go.Proofs.YtfmcbjlagdanjaaGreatDoor
