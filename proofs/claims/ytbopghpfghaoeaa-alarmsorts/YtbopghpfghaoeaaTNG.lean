/- twins of AlarmSorts, walked: the list longer than 300. -/
import Derived.Test.YtbopghpfghaoeaaTN0
namespace Go.Proofs.Ytbopghpfghaoeaa
open Go.RowKit Go.Maps
set_option maxRecDepth 100000
attribute [local go_sem ↓] Go.wp_at_zero Go.wp_at_succ
set_option maxHeartbeats 8000000 in
theorem twins_G (ao : Option Addr) (n c : Nat) (es : List (Int × Int)) (now : Int) (aW : Option Addr) (nW cW : Nat) (w : World) (hn : n ≤ 140737488355328) (h : PLies w ao n es) (hW : Li w aW nW cW ((dueS (setAll [] (es.take 300)) now).map Prod.fst)) (hA : 300 < n) :
    Calls Try.prog 16 #[.slice ao n c, .int .i64 now, .slice aW nW cW] w fun e w' => e = .returned (.bool true) ∧ Below w.heap.size w w' := by
  have HP : Hid (PLies w ao n es) := h
  have HW : Hid (Li w aW nW cW ((dueS (setAll [] (es.take 300)) now).map Prod.fst)) := hW
  obtain ⟨i0, hi, hz0, hz1, hz2⟩ := info_parts Try.infoPt
  obtain ⟨j0, ji, jz0, jz1, jz2⟩ := info_parts Try.infoSl
  have b0 : (n : Int) ≤ 140737488355328 := by omega
  have T0 : TaR w w (.slice none 0 0) [] (fun _ => []) := ⟨fun _ => 0, Bk.refl w, World.ownsRow_nil _ _ _ _, fun _ q => (by cases q), fun i a ha => (by simp at ha), by simp⟩
  clear h hW
  go_enter Try.func16, Try.ntmps16
  go_wp2_with fail
  go_loopw [7, 8] (fun v u wr => ∃ (ps : List Nat), u = .int .i64 ps.length ∧ ps.length ≤ 40 ∧ TaR w wr v ps (fun _ => [])) (fun _ u _ => 41 - (intOf u).toNat)
  case atStart => exact ⟨[], rfl, by simp, T0⟩
  case round =>
  clear T0
  obtain ⟨ps, rfl, hps, T⟩ := hrel
  by_cases h40 : ps.length < 40
  · have a1 : (ps.length : Int) < 40 := by omega
    go_wp2_with fail
    refine T.new.mono ?_
    rintro e w1 ⟨a, rfl, T1⟩
    clear T
    have hrow := T1.row
    obtain ⟨pa, pc, hv⟩ := own_slice hrow
    subst hv
    obtain ⟨M, hM⟩ : ∃ M, ps.length = M := ⟨_, rfl⟩
    rw [hM] at hrow
    have HM : Hid (ps.length = M) := hM
    rw [hM]
    have HT : Hid (TaN w w1 (.slice pa M pc) ps a) := by rw [hM] at T1; exact T1
    have hM40 : M < 40 := by omega
    have a2 : (M : Int) < 40 := by omega
    clear hM T1 h40 hps a1
    go_wp2_with (at_builtin; refine wpList_append_own_split _ rfl _ _ 90 rfl 0 24 i0 (.pointer none) 1 8 Try.underlying90 hi hz0 hz1 hz2 rfl (by decide) _ M _ rfl (World.ownsRow.alloc hrow _) ⟨w1.heap.size, 0, none⟩ 1 1 [.pointer (some ⟨a, 0, none⟩)] (by decide) rfl rfl (cell_one_new _ _ _) (by intro u hu; simp at hu; subst hu; rfl) (by unfold maxLen; omega) (by omega) (Nat.zero_le _) ?_; intro v2 w2 o2 l2)
    have T2 : TaR w w2 v2 (ps ++ [a]) (fun _ => []) := by
      have hM := HM.out
      subst hM
      exact HT.out.append o2 l2 (by omega)
    go_roundw
    case rel => exact ⟨ps ++ [a], by rw [List.length_append, HM.out]; go_num, by rw [List.length_append, HM.out]; simp; omega, T2⟩
    case measure => have hM := HM.out; simp [intOf]; omega
  · have a1 : ¬ (ps.length : Int) < 40 := by omega
    have h40e : ps.length = 40 := by omega
    have HL : Hid (ps.length = 40) := h40e
    rw [h40e]
    obtain ⟨wa, hwa⟩ : ∃ wa, wa = wr := ⟨wr, rfl⟩
    subst hwa
    obtain ⟨pa, pc, hv⟩ := own_slice T.row
    rw [h40e] at hv
    subst hv
    have hp40 : 40 ≤ pc ∧ ∃ g, pa = some ⟨g, 0, none⟩ := by
      have := T.row
      rw [h40e] at this
      rcases own_shape this with ⟨q, _⟩ | ⟨g, cap, q, r, _⟩
      · cases q
      · cases q; exact ⟨r, g, rfl⟩
    obtain ⟨hpc, pg, rfl⟩ := hp40
    clear a1 h40 hps h40e
    go_wp2_with fail
    go_loopw [10] (fun u wr => ∃ (i : Nat), i ≤ n ∧ i ≤ 300 ∧ u = .int .i64 i ∧ TaR w wr (.slice (some ⟨pg, 0, none⟩) 40 pc) ps (fun _ => setAll [] (es.take i))) (fun u _ => 301 - (intOf u).toNat)
    case atStart => exact ⟨0, Nat.zero_le _, Nat.zero_le _, rfl, by simpa [setAll] using T⟩
    case round =>
    clear T
    obtain ⟨i, hin, hi3, rfl, T⟩ := hrel
    by_cases hlt3 : i < 300
    · have hlt : i < n := by omega
      have a1 : (i : Int) < n := by omega
      have a2 : (i : Int) < 300 := by omega
      have a3 : (0 : Int) ≤ i := by omega
      obtain ⟨g, p, e, rfl, he, hpin, x0, x1⟩ := HP.out.at i hlt
      have hgl := World.block_lt_of_cell? w _ x0
      have HE : Hid (setAll [] (es.take (i + 1)) = setS OI (setAll [] (es.take i)) e.1 e.2) := by
        show _ = _
        rw [take_snoc he, setAll_snoc]
      have hsl : (setAll [] (es.take i)).length < 4398046511104 := by
        have := setAll_len [] (es.take i)
        simp at this; omega
      obtain ⟨S, hS⟩ : ∃ S, setAll [] (es.take i) = S := ⟨_, rfl⟩
      rw [hS] at T hsl
      have HE2 : Hid (setAll [] (es.take (i + 1)) = setS OI S e.1 e.2) := by rw [← hS]; exact HE
      clear he HE hS
      obtain ⟨wb, hwb⟩ : ∃ wb, wb = wr := ⟨wr, rfl⟩
      subst hwb
      go_wp2_with fail
      go_loopw [11] (fun u wr => ∃ (j : Nat), j ≤ 40 ∧ u = .int .i64 j ∧ TaR w wr (.slice (some ⟨pg, 0, none⟩) 40 pc) ps (mix S (setS OI S e.1 e.2) j)) (fun u _ => 41 - (intOf u).toNat)
      case atStart => exact ⟨0, Nat.zero_le _, rfl, by rw [mix_zero]; exact T⟩
      case round =>
        clear T
        obtain ⟨j, hj40, rfl, T⟩ := hrel
        by_cases hj : j < 40
        · have c1 : (j : Int) < 40 := by omega
          have c2 : (0 : Int) ≤ j := by omega
          obtain ⟨a, ha⟩ : ∃ a, ps[j]? = some a := ⟨_, List.getElem?_eq_getElem (by rw [HL.out]; exact hj)⟩
          have y0 := (T.bel.cell (p := ⟨g, p + i * 2, none⟩) hgl).trans x0
          have y1 := (T.bel.cell (p := ⟨g, p + i * 2 + 1, none⟩) hgl).trans x1
          have y2 : wr.cell? ⟨pg, j, none⟩ = some (.pointer (some ⟨a, 0, none⟩)) := by
            have hr := T.row
            rw [HL.out] at hr
            refine (hr.cellAt j (by omega)).trans ?_
            simp [pv, ha]
          have HT : Hid (Calls Try.prog 9 #[.pointer (some ⟨a, 0, none⟩), .int .i64 e.1, .int .i64 e.2] wr.drew fun x w' => x = .returned (.tuple #[]) ∧ TaR w w' (.slice (some ⟨pg, 0, none⟩) 40 pc) ps (mix S (setS OI S e.1 e.2) (j + 1))) := (T.drew 1).set ha hpin.k hsl
          have HLR : Hid (ps.length = 40 ∧ ps[j]? = some a) := ⟨HL.out, ha⟩
          clear T ha
          go_wp2_with fail
          go_region_held3 (fun w' => w'.cell? ⟨g, p + i * 2, none⟩ = some (.int .i64 e.1) ∧ w'.cell? ⟨g, p + i * 2 + 1, none⟩ = some (.int .i64 e.2) ∧ w'.cell? ⟨pg, j, none⟩ = some (.pointer (some ⟨a, 0, none⟩)))
            (first | exact ⟨y0, y1, y2⟩ | exact ⟨z0, z1, z2⟩)
            (first
              | (go_at_call 9; refine HT.out.mono ?_; rintro e' wT ⟨rfl, rT⟩; have z0 : wT.cell? ⟨g, p + i * 2, none⟩ = some (.int .i64 e.1) := (rT.bel.cell (p := ⟨g, p + i * 2, none⟩) hgl).trans x0; have z1 : wT.cell? ⟨g, p + i * 2 + 1, none⟩ = some (.int .i64 e.2) := (rT.bel.cell (p := ⟨g, p + i * 2 + 1, none⟩) hgl).trans x1; have z2 : wT.cell? ⟨pg, j, none⟩ = some (.pointer (some ⟨a, 0, none⟩)) := (by { have hr := rT.row; rw [HLR.out.1] at hr; refine (hr.cellAt j (by omega)).trans ?_; simp [pv, HLR.out.2] })))
          go_wp2_with fail
          go_roundw
          case rel => exact ⟨j + 1, by omega, by go_num, rT⟩
          case measure => simp [intOf]; omega
        · have c1 : ¬ (j : Int) < 40 := by omega
          have T2 : TaR w wr (.slice (some ⟨pg, 0, none⟩) 40 pc) ps (fun _ => setAll [] (es.take (i + 1))) := by
            rw [HE2.out]
            obtain rfl : j = ps.length := by rw [HL.out]; omega
            exact T.all
          clear T
          go_wp2_with fail
          go_roundw
          case rel => exact ⟨i + 1, by omega, by omega, by go_num, T2⟩
          case measure => simp [intOf]; omega
    · have a1 : (i : Int) < n := by omega
      have a2 : ¬ (i : Int) < 300 := by omega
      have HI : Hid (es.take i = es.take 300) := by
        show _ = _
        have hlen := HP.out.hlen
        first
          | (rw [List.take_of_length_le (by omega), List.take_of_length_le (by omega)]; done)
          | (rw [show i = 300 by omega])
      have hsl := setAll_len [] (es.take 300)
      have hsl2 : (setAll [] (es.take 300)).length ≤ 300 := by simp at hsl; omega
      clear hsl
      rw [HI.out] at T
      clear HI
      have HW2 := HW.out
      generalize setAll [] (es.take 300) = S at T hsl2 HW2
      have T1 := T.lists (leftS S now) ((dueS S now).map Prod.fst)
      have HW3 : Hid (Li w aW nW cW ((dueS S now).map Prod.fst)) := HW2
      have hdl : ((dueS S now).map Prod.fst).length ≤ 300 := by have := due_len S now; simp; omega
      clear T HW HW2 hsl2
      obtain ⟨wz, hwz⟩ : ∃ wz, wz = wr := ⟨wr, rfl⟩
      subst hwz
      go_wp2_with fail
      go_loopw [12, 13] (fun v u wr => ∃ (vs : List Value), u = .int .i64 vs.length ∧ vs.length ≤ 40 ∧ TlR w wr (.slice (some ⟨pg, 0, none⟩) 40 pc) ps S (leftS S now) ((dueS S now).map Prod.fst) v vs vs) (fun _ u _ => 41 - (intOf u).toNat)
      case atStart => exact ⟨[], rfl, by simp, T1⟩
      case round =>
      clear T1
      obtain ⟨vs, rfl, hvs, T⟩ := hrel
      by_cases h40 : vs.length < 40
      · have a1 : (vs.length : Int) < 40 := by omega
        have a2 : (0 : Int) ≤ vs.length := by omega
        obtain ⟨a, ha⟩ : ∃ a, ps[vs.length]? = some a := ⟨_, List.getElem?_eq_getElem (by rw [HL.out]; exact h40)⟩
        have y2 : wr.cell? ⟨pg, vs.length, none⟩ = some (.pointer (some ⟨a, 0, none⟩)) := by
          have hr := T.rowA
          rw [HL.out] at hr
          refine (hr.cellAt vs.length (by omega)).trans ?_
          simp [pv, ha]
        have hrow := T.row
        obtain ⟨la, lc, hv⟩ := own_slice hrow
        subst hv
        have HD : Hid (Calls Try.prog 10 #[.pointer (some ⟨a, 0, none⟩), .int .i64 now] wr fun e w' => ∃ v, e = .returned v ∧ TlR w w' (.slice (some ⟨pg, 0, none⟩) 40 pc) ps S (leftS S now) ((dueS S now).map Prod.fst) (.slice la vs.length lc) vs (vs ++ [v])) := T.due ha
        clear T hrow ha
        obtain ⟨M, hM⟩ : ∃ M, vs.length = M := ⟨_, rfl⟩
        have HM : Hid (vs.length = M) := hM
        rw [hM] at y2 HD a1 a2 h40 ⊢
        clear hM hvs
        go_wp2_with (first
          | (go_at_call 10; refine HD.out.mono ?_; rintro e' w1 ⟨v1, rfl, T1⟩; have hrow : w1.ownsRow 0 29 1 (.slice la M lc) M vs := (by { have := T1.row; rw [HM.out] at this; exact this }); obtain ⟨b1, N1, d1, hv1⟩ : ∃ b1 N1 d1, v1 = .slice b1 N1 d1 := (by { obtain ⟨lx, Tx⟩ := T1; obtain ⟨x1, x2, x3⟩ := own_slice (Tx.ent vs.length v1 (by simp)).1; exact ⟨x1, _, x2, x3⟩ }); subst hv1)
          | (at_builtin; refine wpList_append_own_split _ rfl _ _ 69 rfl 0 29 j0 (.slice none 0 0) 1 24 Try.underlying69 ji jz0 jz1 jz2 rfl (by decide) _ M _ rfl (World.ownsRow.alloc hrow _) ⟨w1.heap.size, 0, none⟩ 1 1 [.slice b1 N1 d1] (by decide) rfl rfl (cell_one_new _ _ _) (by intro u hu; simp at hu; subst hu; rfl) (by unfold maxLen; omega) (by omega) (Nat.zero_le _) ?_; intro v2 w2 o2 l2))
        have T2 : TlR w w2 (.slice (some ⟨pg, 0, none⟩) 40 pc) ps S (leftS S now) ((dueS S now).map Prod.fst) v2 (vs ++ [.slice b1 N1 d1]) (vs ++ [.slice b1 N1 d1]) := by
          have hM := HM.out
          subst hM
          exact T1.append o2 l2
        go_roundw
        case rel => exact ⟨vs ++ [.slice b1 N1 d1], by rw [List.length_append, HM.out]; go_num, by rw [List.length_append, HM.out]; simp; omega, T2⟩
        case measure => have hM := HM.out; simp [intOf]; omega
      · have a1 : ¬ (vs.length : Int) < 40 := by omega
        have h40e : vs.length = 40 := by omega
        have HV : Hid (vs.length = 40) := h40e
        have hrow := T.row
        obtain ⟨la, lc, hv⟩ := own_slice hrow
        subst hv
        rw [h40e] at hrow T a1 ⊢
        obtain ⟨lg, rfl, hlc⟩ : ∃ lg, la = some ⟨lg, 0, none⟩ ∧ 40 ≤ lc := by
          rcases own_shape hrow with ⟨q, _⟩ | ⟨g, cap, q, r, _⟩
          · cases q
          · cases q; exact ⟨g, rfl, r⟩
        clear hrow h40e hvs h40
        have hW4 := HW3.out.below T.bel (Nat.le_refl _)
        have hnW : nW ≤ 300 := by rw [← HW3.out.hlen]; exact hdl
        have hHl := HW3.out.hlen
        go_wp2_with fail
        refine (ints_any aW nW cW _ _ hW4 (by omega)).mono ?_
        rintro e w4 ⟨v4, rfl, o4, b4⟩
        rw [← hHl] at o4
        obtain ⟨a4, c4, hv4⟩ := own_slice o4
        subst hv4
        have T4 := T.book o4 b4
        clear T hW4 o4 b4 HW3 hHl
        generalize (dueS S now).map Prod.fst = D at T4 hdl
        go_wp2_with fail
        go_loopw [16] (fun u wr => ∃ (j : Nat), j ≤ 40 ∧ u = .int .i64 j ∧ TbR w wr D (.slice (some ⟨lg, 0, none⟩) 40 lc) vs (.slice a4 D.length c4) w4.heap.size j) (fun u _ => 41 - (intOf u).toNat)
        case atStart => exact ⟨0, Nat.zero_le _, rfl, T4⟩
        case round =>
          clear T4
          obtain ⟨j, hj40, rfl, T⟩ := hrel
          by_cases hj : j < 40
          · have c1 : (j : Int) < 40 := by omega
            have c2 : (0 : Int) ≤ j := by omega
            obtain ⟨v, hv⟩ : ∃ v, vs[j]? = some v := ⟨_, List.getElem?_eq_getElem (by rw [HV.out]; exact hj)⟩
            have y2 : wr.cell? ⟨lg, j, none⟩ = some v := by
              have hr := T.row
              rw [HV.out] at hr
              exact (hr.cellAt j (by omega)).trans hv
            have HS : Hid (vs.length = 40 ∧ vs[j]? = some v) := ⟨HV.out, hv⟩
            have hD1 : D.length ≤ 200000000000000 := by omega
            have hD2 : D.length ≤ 3000000 := by omega
            clear hv
            go_wp2_with (first
              | (go_at_call 37; refine (T.same HS.out.2 hD1).mono ?_; rintro e' w5 ⟨rfl, T5⟩; have y3 : w5.cell? ⟨lg, j, none⟩ = some v := (by { have hr := T5.row; rw [HS.out.1] at hr; exact (hr.cellAt j (by omega)).trans HS.out.2 }))
              | (go_at_call 35; refine (T5.keep HS.out.2 hD2 hj).mono ?_; rintro e' w6 ⟨rfl, T6⟩))
            go_roundw
            case rel => exact ⟨j + 1, by omega, by go_num, T6⟩
            case measure => simp [intOf]; omega
          · have c1 : ¬ (j : Int) < 40 := by omega
            go_wp2_with (go_at_call 36; refine T.whole.mono ?_; rintro e' w7 ⟨rfl, b7⟩)
            go_ret
            exact ⟨rfl, b7⟩
end Go.Proofs.Ytbopghpfghaoeaa
