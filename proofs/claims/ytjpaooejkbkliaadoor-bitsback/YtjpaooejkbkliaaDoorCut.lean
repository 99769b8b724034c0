/- BitsCut: the walk. -/
import Derived.Test.YtjpaooejkbkliaaDoorBack2
import Derived.Test.YtjpaooejkbkliaaDoorHead
namespace Go.Proofs.YtjpaooejkbkliaaDoor
open Go.RowKit
set_option maxRecDepth 100000

theorem own_form {w : World} {base e size n : Nat} {v : Value} {xs : List Value} (h : w.ownsRow base e size v n xs) : ∃ ao c, v = .slice ao n c ∧ (0 < n → ∃ g, ao = some ⟨g, 0, none⟩) := by
  rcases h.2 with ⟨rfl, rfl⟩ | ⟨g', cap', cur, rfl, _⟩
  · exact ⟨none, 0, rfl, fun h => absurd h (by omega)⟩
  · exact ⟨_, _, rfl, fun _ => ⟨_, rfl⟩⟩

theorem cut_in (cut : Int) (L : Nat) (h0 : 0 < L) (h1 : L ≤ 209716800) : ∃ c : Nat, (wrap64 (cut.tmod (L : Int) + (L : Int))).tmod (L : Int) = (c : Int) ∧ c < L := by
  have hlt : cut.tmod (L : Int) < L := Int.tmod_lt_of_pos _ (by omega)
  have hge : -(L : Int) < cut.tmod (L : Int) := by
    have := Int.lt_tmod_of_pos cut (show (0 : Int) < L by omega)
    omega
  have hw : wrap64 (cut.tmod (L : Int) + L) = cut.tmod (L : Int) + L := by unfold wrap64; omega
  rw [hw]
  have h2 : 0 ≤ (cut.tmod (L : Int) + L).tmod L := Int.tmod_nonneg _ (by omega)
  have h3 : (cut.tmod (L : Int) + L).tmod L < L := Int.tmod_lt_of_pos _ (by omega)
  exact ⟨((cut.tmod (L : Int) + L).tmod L).toNat, by omega, by omega⟩

theorem from_cell {w : World} {base g n c : Nat} {ls : List Itm} (h : w.ownsRow base 3 1 (.slice (some ⟨g, 0, none⟩) n c) n ((froms ls ls.length).map (Value.int .i64))) (k : Nat) (hk : k < ls.length) : w.cell? ⟨g, k, none⟩ = some (.int .i64 (lenTo ls k)) := by
  have hl : ((froms ls ls.length).map (Value.int .i64)).length = n * 1 := h.1
  simp [froms] at hl
  rw [h.cellAt k (by omega)]
  simp [froms, hk]

/-- What fit answers, in whatever later world. -/
def Fits (w : World) (vi : Value) : Prop := ∀ w1, Below w.heap.size w w1 → Calls Tryd.prog 25 #[vi] w1 fun e w' => ∃ v ls, e = .returned v ∧ w'.ownsRow w1.heap.size 32 4 v ls.length (flat ls) ∧ ls.length ≤ 200 ∧ (∀ x ∈ ls, Good x ∧ Came w1 x) ∧ Below w1.heap.size w1 w'

set_option maxHeartbeats 4000000 in
theorem cut_any (vi : Value) (cut : Int) (er : Nat → Addr) (w : World) (hE : Errs w er) (hF : Fits w vi) (_hc0 : -9223372036854775808 ≤ cut) (_hc1 : cut ≤ 9223372036854775807) :
    Calls Tryd.prog 5 #[vi, .int .i64 cut] w fun e w' => e = .returned (.bool true) ∧ Below w.heap.size w w' := by
  go_enter Tryd.func5, Tryd.ntmps5
  go_wp2_with fail
  refine (head_any er w hE).mono ?_
  rintro e w1 ⟨rfl, hb1⟩
  go_wp2_with fail
  refine (hF w1 hb1).mono ?_
  rintro e w2 ⟨v, ls, rfl, hov, hls, hgood, hb12⟩
  have hb2 := hb1.trans (hb12.mono hb1.size)
  have hgood2 : ∀ x ∈ ls, Good x ∧ Came w2 x := fun x hx => ⟨(hgood x hx).1, (hgood x hx).2.below hb12 (Nat.le_refl _)⟩
  have hold : ∀ x ∈ ls, ∀ ad, x.bo = some ad → 0 < x.dl → ad.block < w2.heap.size := fun x hx ad had h0 => (hgood2 x hx).2.lies.blk ad had h0
  go_wp2_with fail
  refine (all_any _ v ls _ hov hls hgood2).mono ?_
  rintro e w3 ⟨ab, cb, vf, rfl, hob, hof, hb23⟩
  have hb3 := hb2.trans (hb23.mono hb2.size)
  have hov3 := own_later hov hb23
  have hgood3 : ∀ x ∈ ls, Good x ∧ Came w3 x := fun x hx => ⟨(hgood2 x hx).1, (hgood2 x hx).2.below hb23 (Nat.le_refl _)⟩
  obtain ⟨av, cv, rfl, hav⟩ := own_form hov
  obtain ⟨af, cf, rfl, haf⟩ := own_form hof
  have hLb : (putsL ls).length ≤ 209716800 := by
    have h1 := putsL_le ls (fun x hx => by have := hgood x hx; rw [this.2.lies.hlen]; exact this.1.d20)
    omega
  have hLbi : ((putsL ls).length : Int) ≤ 209716800 := by omega
  clear hgood hgood2 hb12 hb23 hb1 hb2 hov hF
  by_cases hL0 : (putsL ls).length = 0
  · have hnil := putsL_nil ls w3 hgood3 hL0
    subst hnil
    have hLz : (((putsL []).length : Int) == 0) = true := rfl
    go_wp2
    go_ret
    exact ⟨rfl, hb3⟩
  · have hLp : 0 < (putsL ls).length := by omega
    have hLn : (((putsL ls).length : Int) == 0) = false := beq_eq_false_iff_ne.2 (by omega)
    obtain ⟨c, hcut, hcL⟩ := cut_in cut (putsL ls).length hLp hLb
    have hcb : c ≤ cb := by have := (Lies.owned hob).hle; omega
    have hcu : c ≤ (putsL ls).length := by omega
    go_wp2_with fail
    refine (newReader_any ab c cb ((putsL ls).take c) _ (by omega) ((Lies.owned hob).upto c hcu)).mono ?_
    rintro e w4 ⟨rb, g, rfl, hR4, hrb, hg4, hb34⟩
    have hlpos : 0 < ls.length := by
      rcases Nat.eq_zero_or_pos ls.length with h | h
      · rw [List.eq_nil_of_length_eq_zero h] at hLp; simp [putsL] at hLp
      · exact h
    obtain ⟨gv, rfl⟩ := hav hlpos
    obtain ⟨gf, rfl⟩ := haf hlpos
    have hlsi : (ls.length : Int) ≤ 200 := by omega
    have hsm : ∀ y ∈ (putsL ls).take c, 0 ≤ y ∧ y ≤ 255 := fun y hy => putsL_small ls w3 hgood3 y (List.mem_of_mem_take hy)
    clear hcut
    go_wp2_with fail
    go_loopw [10] (fun i wr => ∃ k : Nat, k ≤ ls.length ∧ i = .int .i64 k ∧ lenTo ls k ≤ c ∧ Rdr wr rb g c c (lenTo ls k) 0 ((putsL ls).take c) ∧ Below w3.heap.size w3 wr) (fun i _ => ls.length - (intOf i).toNat)
    case atStart => exact ⟨0, Nat.zero_le _, rfl, Nat.zero_le _, hR4, hb34⟩
    case round =>
      obtain ⟨k, hk, rfl, hkc, hR, hb⟩ := hrel
      by_cases hlt : k < ls.length
      · have hb0 := hb3.trans (hb.mono hb3.size)
        have hx := hgood3 ls[k] (List.getElem_mem hlt)
        have q0 := cell_later hb (flat_cell hov3 k 0 hlt _ rfl)
        have q1 := cell_later hb (flat_cell hov3 k 1 hlt _ rfl)
        have q2 := cell_later hb (flat_cell hov3 k 2 hlt _ rfl)
        have q3 := cell_later hb (flat_cell hov3 k 3 hlt _ rfl)
        simp only [Nat.add_zero] at q0
        have fk := from_cell hof k hlt
        have fk1 := cell_later hb fk
        have fk2 := fun h => cell_later hb (from_cell hof (k + 1) h)
        have hxne : ∀ ad, ls[k].bo = some ad → 0 < ls[k].dl → ad.block ≠ rb := fun ad had h0 => by
          have := hx.2.lies.blk ad had h0
          omega
        have hS := lenTo_succ ls k hlt
        rw [hx.2.lies.hlen] at hS
        have hpc := fun h => piece_cut ls k c hlt hx.1 h
        have hpw := fun h => piece_whole ls k c hlt h
        rw [hx.2.lies.hlen] at hpw
        have hlk1 := lenTo_mono ls (k + 1)
        have hall := lenTo_all ls
        generalize ls[k] = x at hx q0 q1 q2 q3 hxne hS hpc hpw
        have HS : Hid (lenTo ls (k + 1) = lenTo ls k + putN x.K x.dl) := hS
        clear hS
        by_cases hlast : k + 1 < ls.length
        · have fk2' := fk2 hlast
          clear fk2
          by_cases hce : c < lenTo ls (k + 1)
          · go_wp2_with fail
            refine (back_cut rb g c c (lenTo ls k) ((putsL ls).take c) x er wr hR (hE.below hb0 (Nat.le_refl _)) (by omega) hsm hx.1 (hx.2.below hb (Nat.le_refl _)) hxne hkc (by rw [← HS.out]; exact hce) hpc).mono ?_
            rintro e w5 ⟨bb, rfl, hR5, hg5⟩
            have hb5 := hb.grown hg5 hb.size (fun k hk => by cases hk; exact hrb)
            have fk5 := cell_later hb5 fk
            clear q0 q1 q2 q3
            go_wp2_with fail
            refine (err_any rb g c c _ _ _ _ hR5).mono ?_
            rintro e w6 ⟨rfl, m6, hw6⟩
            subst w6
            have hC := close_any rb g c c (lenTo ls k) 11 _ _ (hR5.drewN m6)
            rw [held_close _ _ _ rfl] at hC
            go_wp2_with fail
            refine hC.mono ?_
            rintro e w7 ⟨rfl, hR7, hg7⟩
            have hb7 := (below_drewN hb5 m6).grown hg7 (below_drewN hb5 m6).size (fun k hk => by cases hk; exact hrb)
            have fk7 := cell_later hb7 fk
            go_wp2_with (go_at_call 21; refine (num_id _ _).mono ?_; rintro e w8 ⟨rfl, hw8⟩; subst w8)
            go_ret
            exact ⟨rfl, hb3.trans (hb7.mono hb3.size)⟩
          · go_wp2_with fail
            refine (back_ok rb g c c (lenTo ls k) ((putsL ls).take c) x er wr hR (hE.below hb0 (Nat.le_refl _)) (by omega) hsm hx.1 (hx.2.below hb (Nat.le_refl _)) hxne (by rw [← HS.out]; omega) (hpw (by omega))).mono ?_
            rintro e w5 ⟨rfl, hR5, hg5⟩
            rw [← HS.out] at hR5
            have hb5 := hb.grown hg5 hb.size (fun k hk => by cases hk; exact hrb)
            clear q0 q1 q2 q3
            go_wp2
            go_roundw
            case rel => exact ⟨k + 1, by omega, by go_num, by omega, hR5, hb5⟩
            case measure => simp [intOf]; omega
        · have hkl : k + 1 = ls.length := by omega
          have hLe : (putsL ls).length = lenTo ls (k + 1) := by rw [hkl, hall]
          have HL : Hid ((putsL ls).length = lenTo ls (k + 1)) := hLe
          have HK : Hid (k + 1 = ls.length) := hkl
          clear fk2 hall
          by_cases hce : c < lenTo ls (k + 1)
          · have hcl : c < (putsL ls).length := by rw [HL.out]; exact hce
            clear hkl hLe
            go_wp2_with fail
            refine (back_cut rb g c c (lenTo ls k) ((putsL ls).take c) x er wr hR (hE.below hb0 (Nat.le_refl _)) (by omega) hsm hx.1 (hx.2.below hb (Nat.le_refl _)) hxne hkc (by rw [← HS.out]; exact hce) hpc).mono ?_
            rintro e w5 ⟨bb, rfl, hR5, hg5⟩
            have hb5 := hb.grown hg5 hb.size (fun k hk => by cases hk; exact hrb)
            have fk5 := cell_later hb5 fk
            clear q0 q1 q2 q3
            go_wp2_with fail
            refine (err_any rb g c c _ _ _ _ hR5).mono ?_
            rintro e w6 ⟨rfl, m6, hw6⟩
            subst w6
            have hC := close_any rb g c c (lenTo ls k) 11 _ _ (hR5.drewN m6)
            rw [held_close _ _ _ rfl] at hC
            go_wp2_with fail
            refine hC.mono ?_
            rintro e w7 ⟨rfl, hR7, hg7⟩
            have hb7 := (below_drewN hb5 m6).grown hg7 (below_drewN hb5 m6).size (fun k hk => by cases hk; exact hrb)
            have fk7 := cell_later hb7 fk
            go_wp2_with (go_at_call 21; refine (num_id _ _).mono ?_; rintro e w8 ⟨rfl, hw8⟩; subst w8)
            go_ret
            exact ⟨rfl, hb3.trans (hb7.mono hb3.size)⟩
          · exact absurd hcL (by rw [HL.out]; omega)
      · obtain rfl : k = ls.length := by omega
        rw [lenTo_all] at hkc
        omega
end Go.Proofs.YtjpaooejkbkliaaDoor
