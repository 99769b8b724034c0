/- BitsBack: the walk. -/
import Derived.Test.YtjpaooejkbkliaaDoorCut
import Derived.Test.YtjpaooejkbkliaaDoorJoin
namespace Go.Proofs.YtjpaooejkbkliaaDoor
open Go.RowKit
set_option maxRecDepth 100000

theorem piece_tail (ls : List Itm) (ts : List Int) (k : Nat) (hk : k < ls.length) : ((putsL ls ++ ts).drop (lenTo ls k)).take (putN ls[k].K ls[k].ds.length) = putL ls[k].K ls[k].X ls[k].S ls[k].ds := by
  have h1 := lenTo_mono ls k
  rw [List.drop_append_of_le_length h1, putsL_drop ls k hk, List.append_assoc, List.take_append_of_le_length (by rw [putL_length]; omega)]
  exact List.take_of_length_le (by rw [putL_length]; omega)

set_option maxHeartbeats 4000000 in
theorem backW_any (vi : Value) (ao : Option Addr) (lt ct : Nat) (ts : List Int) (er : Nat → Addr) (w : World) (hE : Errs w er) (hF : Fits w vi) (hT : Lies w ao lt ct ts) (hts : ∀ y ∈ ts, 0 ≤ y ∧ y ≤ 255) (hlt : lt ≤ 140737488351232) :
    Calls Tryd.prog 6 #[vi, .slice ao lt ct] w fun e w' => e = .returned (.bool true) ∧ Below w.heap.size w w' := by
  have hlti : (lt : Int) ≤ 140737488351232 := by omega
  go_enter Tryd.func6, Tryd.ntmps6
  go_wp2_with fail
  refine (head_any er w hE).mono ?_
  rintro e w1 ⟨rfl, hb1⟩
  go_wp2_with fail
  refine (hF w1 hb1).mono ?_
  rintro e w2 ⟨v, ls, rfl, hov, hls, hgood, hb12⟩
  have hb2 := hb1.trans (hb12.mono hb1.size)
  have hgood2 : ∀ x ∈ ls, Good x ∧ Came w2 x := fun x hx => ⟨(hgood x hx).1, (hgood x hx).2.below hb12 (Nat.le_refl _)⟩
  go_wp2_with fail
  refine (all_any _ v ls _ hov hls hgood2).mono ?_
  rintro e w3 ⟨ab, cb, vf, rfl, hob, hof, hb23⟩
  have hb3 := hb2.trans (hb23.mono hb2.size)
  have hov3 := own_later hov hb23
  have hgood3 : ∀ x ∈ ls, Good x ∧ Came w3 x := fun x hx => ⟨(hgood2 x hx).1, (hgood2 x hx).2.below hb23 (Nat.le_refl _)⟩
  obtain ⟨av, cv, rfl, hav⟩ := own_form hov
  have hLb : (putsL ls).length ≤ 209716800 := by
    have h1 := putsL_le ls (fun x hx => by have := hgood x hx; rw [this.2.lies.hlen]; exact this.1.d20)
    omega
  have hLbi : ((putsL ls).length : Int) ≤ 209716800 := by omega
  have hlsi : (ls.length : Int) ≤ 200 := by omega
  clear hgood hgood2 hb12 hb23 hb1 hb2 hov hF hof
  go_wp2_with fail
  refine (join_any ab ao (putsL ls).length cb lt ct (putsL ls) ts _ (by omega) hlt (Lies.owned hob) (hT.below hb3 (Nat.le_refl _))).mono ?_
  rintro e w4 ⟨aj, cj, rfl, hoj, hb34⟩
  have hb4 := hb3.trans (hb34.mono hb3.size)
  go_wp2_with fail
  refine (newReader_any aj ((putsL ls).length + lt) cj (putsL ls ++ ts) _ (by omega) (Lies.owned hoj)).mono ?_
  rintro e w5 ⟨rb, g, rfl, hR5, hrb, hg5, hb45⟩
  have hb35 := hb34.trans (hb45.mono hb34.size)
  have hrb3 : w3.heap.size ≤ rb := Nat.le_trans hb34.size hrb
  have hsm : ∀ y ∈ putsL ls ++ ts, 0 ≤ y ∧ y ≤ 255 := fun y hy => by
    rcases List.mem_append.1 hy with h | h
    · exact putsL_small ls w3 hgood3 y h
    · exact hts y h
  clear hb34 hb45 hb4 hoj hob hrb hg5
  go_wp2_with fail
  go_loopw [11] (fun i wr => ∃ k : Nat, k ≤ ls.length ∧ i = .int .i64 k ∧ Rdr wr rb g ((putsL ls).length + lt) ((putsL ls).length + lt) (lenTo ls k) 0 (putsL ls ++ ts) ∧ Below w3.heap.size w3 wr) (fun i _ => ls.length - (intOf i).toNat)
  case atStart => exact ⟨0, Nat.zero_le _, rfl, hR5, hb35⟩
  case round =>
    obtain ⟨k, hk, rfl, hR, hb⟩ := hrel
    have hb0 := hb3.trans (hb.mono hb3.size)
    clear hR5 hb35
    by_cases hlk : k < ls.length
    · obtain ⟨gv, rfl⟩ := hav (by omega)
      have hx := hgood3 ls[k] (List.getElem_mem hlk)
      have q0 := cell_later hb (flat_cell hov3 k 0 hlk _ rfl)
      have q1 := cell_later hb (flat_cell hov3 k 1 hlk _ rfl)
      have q2 := cell_later hb (flat_cell hov3 k 2 hlk _ rfl)
      have q3 := cell_later hb (flat_cell hov3 k 3 hlk _ rfl)
      simp only [Nat.add_zero] at q0
      have hxne : ∀ ad, ls[k].bo = some ad → 0 < ls[k].dl → ad.block ≠ rb := fun ad had h0 => by
        have := hx.2.lies.blk ad had h0
        omega
      have hS := lenTo_succ ls k hlk
      rw [hx.2.lies.hlen] at hS
      have hpw := piece_tail ls ts k hlk
      rw [hx.2.lies.hlen] at hpw
      have hlk1 := lenTo_mono ls (k + 1)
      generalize ls[k] = x at hx q0 q1 q2 q3 hxne hS hpw
      have HS : Hid (lenTo ls (k + 1) = lenTo ls k + putN x.K x.dl) := hS
      clear hS
      go_wp2_with fail
      refine (back_ok rb g _ _ (lenTo ls k) (putsL ls ++ ts) x er wr hR (hE.below hb0 (Nat.le_refl _)) (by omega) hsm hx.1 (hx.2.below hb (Nat.le_refl _)) hxne (by rw [← HS.out]; omega) hpw).mono ?_
      rintro e w6 ⟨rfl, hR6, hg6⟩
      rw [← HS.out] at hR6
      have hb6 := hb.grown hg6 hb.size (fun k hk => by cases hk; exact hrb3)
      clear q0 q1 q2 q3
      go_wp2
      go_roundw
      case rel => exact ⟨k + 1, by omega, by go_num, hR6, hb6⟩
      case measure => simp [intOf]; omega
    · obtain rfl : k = ls.length := by omega
      rw [lenTo_all] at hR
      by_cases h0 : 0 < lt
      · have hc1 : rdClose ((putsL ls).length + lt) (putsL ls).length 0 = 16 := by unfold rdClose; rw [if_pos ⟨rfl, by omega⟩]
        have hc2 : rdClose ((putsL ls).length + lt) (putsL ls).length 16 = 16 := by unfold rdClose; rw [if_neg (fun hh => by omega)]
        have hu : (rdNum 4 ((putsL ls).length + lt) (putsL ls ++ ts) (putsL ls).length 16 9223372036854775807).1 = 0 := by unfold rdNum; rw [if_pos (by decide)]
        have h0i : (0 : Int) < lt := by omega
        have h0d : decide ((0 : Int) < (lt : Int)) = true := by simpa using h0
        go_wp2_with fail
        refine (err_any rb g _ _ _ _ _ _ hR).mono ?_
        rintro e w6 ⟨rfl, m6, hw6⟩
        subst w6
        have hR6 := hR.drewN m6
        have hb6 := below_drewN hb m6
        clear hR hb
        generalize wr.drewN m6 = W6 at hR6 hb6 ⊢
        have hC1 := close_any rb g _ _ (putsL ls).length 0 _ _ hR6
        rw [hc1] at hC1
        go_wp2_with (go_at_call 21; refine (num_id _ _).mono ?_; rintro e w8 ⟨rfl, hw8⟩; subst w8)
        refine hC1.mono ?_
        rintro e w7 ⟨rfl, hR7, hg7⟩
        have hb7 := hb6.grown hg7 hb6.size (fun k hk => by cases hk; exact hrb3)
        have hC2 := close_any rb g _ _ (putsL ls).length 16 _ _ hR7
        rw [hc2] at hC2
        clear hC1 hg7 hR6 hb6
        go_wp2_with fail
        refine hC2.mono ?_
        rintro e w8 ⟨rfl, hR8, hg8⟩
        have hb8 := hb7.grown hg8 hb7.size (fun k hk => by cases hk; exact hrb3)
        clear hC2 hg8 hR7 hb7
        go_wp2_with fail
        refine (err_any rb g _ _ _ _ _ _ hR8).mono ?_
        rintro e w9 ⟨rfl, m9, hw9⟩
        subst w9
        have hb9 := below_drewN hb8 m9
        have hU := u32_any rb g _ _ (putsL ls).length 16 9223372036854775807 _ er _ (hR8.drewN m9) (hE.below (hb3.trans (hb9.mono hb3.size)) (Nat.le_refl _)) (by omega) (by omega) hsm (by omega)
        rw [hu] at hU
        go_wp2_with fail
        refine hU.mono ?_
        rintro e w10 ⟨rfl, hR10, hg10⟩
        have hb10 := hb9.grown hg10 hb9.size (fun k hk => by cases hk; exact hrb3)
        clear hU hg10
        go_wp2_with (go_at_call 21; refine (num_id _ _).mono ?_; rintro e w8 ⟨rfl, hw8⟩; subst w8)
        go_ret
        exact ⟨rfl, hb3.trans (hb10.mono hb3.size)⟩
      · have hc1 : rdClose ((putsL ls).length + lt) (putsL ls).length 0 = 0 := by unfold rdClose; rw [if_neg (fun hh => by omega)]
        have hc2 : rdClose ((putsL ls).length + lt) (putsL ls).length 0 = 0 := hc1
        have hu : (rdNum 4 ((putsL ls).length + lt) (putsL ls ++ ts) (putsL ls).length 0 9223372036854775807).1 = 0 := by unfold rdNum; rw [if_neg (by simp), if_pos (by omega)]
        have h0i : (lt : Int) ≤ 0 := by omega
        have h0d : decide ((0 : Int) < (lt : Int)) = false := by simp; omega
        go_wp2_with fail
        refine (err_any rb g _ _ _ _ _ _ hR).mono ?_
        rintro e w6 ⟨rfl, m6, hw6⟩
        subst w6
        have hR6 := hR.drewN m6
        have hb6 := below_drewN hb m6
        clear hR hb
        generalize wr.drewN m6 = W6 at hR6 hb6 ⊢
        have hC1 := close_any rb g _ _ (putsL ls).length 0 _ _ hR6
        rw [hc1] at hC1
        go_wp2_with (go_at_call 21; refine (num_id _ _).mono ?_; rintro e w8 ⟨rfl, hw8⟩; subst w8)
        refine hC1.mono ?_
        rintro e w7 ⟨rfl, hR7, hg7⟩
        have hb7 := hb6.grown hg7 hb6.size (fun k hk => by cases hk; exact hrb3)
        have hC2 := close_any rb g _ _ (putsL ls).length 0 _ _ hR7
        rw [hc2] at hC2
        clear hC1 hg7 hR6 hb6
        go_wp2_with fail
        refine hC2.mono ?_
        rintro e w8 ⟨rfl, hR8, hg8⟩
        have hb8 := hb7.grown hg8 hb7.size (fun k hk => by cases hk; exact hrb3)
        clear hC2 hg8 hR7 hb7
        go_wp2_with fail
        refine (err_any rb g _ _ _ _ _ _ hR8).mono ?_
        rintro e w9 ⟨rfl, m9, hw9⟩
        subst w9
        have hb9 := below_drewN hb8 m9
        have hU := u32_any rb g _ _ (putsL ls).length 0 9223372036854775807 _ er _ (hR8.drewN m9) (hE.below (hb3.trans (hb9.mono hb3.size)) (Nat.le_refl _)) (by omega) (by omega) hsm (by omega)
        rw [hu] at hU
        go_wp2_with fail
        refine hU.mono ?_
        rintro e w10 ⟨rfl, hR10, hg10⟩
        have hb10 := hb9.grown hg10 hb9.size (fun k hk => by cases hk; exact hrb3)
        clear hU hg10
        go_wp2_with (go_at_call 21; refine (num_id _ _).mono ?_; rintro e w8 ⟨rfl, hw8⟩; subst w8)
        go_ret
        exact ⟨rfl, hb3.trans (hb10.mono hb3.size)⟩
end Go.Proofs.YtjpaooejkbkliaaDoor
