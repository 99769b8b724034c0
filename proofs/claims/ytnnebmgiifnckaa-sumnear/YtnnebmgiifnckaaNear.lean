/- annexlaw2.SumNear by its walk. -/
import Derived.Test.YtnnebmgiifnckaaNearList
import Derived.Test.YtnnebmgiifnckaaKnown
import Derived.Test.YtnnebmgiifnckaaBytes
namespace Go.Proofs.Ytnnebmgiifnckaa
open Go.RowKit
set_option maxRecDepth 100000

/-- '(at%n + n) % n' is a place of a list of n. -/
theorem place_at (x : Int) (n : Nat) (h0 : 0 < n) (hn : n ≤ 140737488351232) : ∃ a : Nat, (wrap64 (x.tmod n + n)).tmod n = (a : Int) ∧ a < n := by
  have h1 : (x.tmod n).natAbs < n := by
    rw [Int.natAbs_tmod]
    exact Nat.mod_lt _ h0
  have h2 : wrap64 (x.tmod n + n) = x.tmod n + n := by
    unfold wrap64
    omega
  rw [h2, Int.tmod_eq_emod_of_nonneg (by omega)]
  have h3 := Int.emod_nonneg (x.tmod n + n) (show (n : Int) ≠ 0 by omega)
  have h4 := Int.emod_lt_of_pos (x.tmod n + n) (show (0 : Int) < n by omega)
  exact ⟨((x.tmod n + n) % n).toNat, by omega, by omega⟩

set_option maxHeartbeats 400000 in
theorem near_zero (h at0 x0 x1 x2 x3 : Int) (ao : Option Addr) (c : Nat) (w : World) :
    Calls Try.prog 5 #[.int .u64 h, .slice ao 0 c, .int .i64 at0, .agg #[.int .u8 x0, .int .u8 x1, .int .u8 x2, .int .u8 x3]] w fun e w' => e = .returned (.bool true) ∧ Below w.heap.size w w' := by
  go_enter Try.func5, Try.ntmps5
  go_wp2_with fail
  refine (known_any _).mono ?_
  rintro e w1 ⟨rfl, hb⟩
  have hb0 := ((Below.refl w.heap.size w).alloc (Nat.le_refl _) _).trans (hb.mono (by simp))
  clear hb
  go_wp2_with fail
  go_ret
  exact ⟨rfl, hb0⟩

set_option maxHeartbeats 800000 in
theorem near_pos (h at0 x0 x1 x2 x3 : Int) (b o n c : Nat) (bs : List Int) (w : World) (hh : U h) (hn : n ≤ 140737488351232) (h0 : 0 < n) (hL : Lies w (some ⟨b, o, none⟩) n c bs) (hby : ∀ x ∈ bs, By x)
    (hx0 : By x0) (hx1 : By x1) (hx2 : By x2) (hx3 : By x3) :
    Calls Try.prog 5 #[.int .u64 h, .slice (some ⟨b, o, none⟩) n c, .int .i64 at0, .agg #[.int .u8 x0, .int .u8 x1, .int .u8 x2, .int .u8 x3]] w fun e w' => e = .returned (.bool true) ∧ Below w.heap.size w w' := by
  have hni : (n : Int) ≤ 140737488351232 := by omega
  have hn0 : (0 : Int) < n := by omega
  have hnz : ((n : Int) == 0) = false := by simp; omega
  go_enter Try.func5, Try.ntmps5
  go_wp2_with fail
  refine (known_any _).mono ?_
  rintro e w1 ⟨rfl, hb⟩
  go_wp2_with fail
  obtain ⟨a, hae, han⟩ := place_at at0 n h0 (by omega)
  rw [hae]
  clear hae
  have hani : (a : Int) < n := by omega
  have hLw : Lies (w.alloc (.cells #[.int .u8 x0, .int .u8 x1, .int .u8 x2, .int .u8 x3] 28)) (some ⟨b, o, none⟩) n c bs := hL.boxed _
  have hL1 := hLw.below hb (Nat.le_refl _)
  have hxc : ∀ k, k < 4 → w1.cell? ⟨w.heap.size, k, none⟩ = some (.int .u8 ([x0, x1, x2, x3].getD k 0)) := by
    intro k hk
    refine cell_later hb ?_
    rw [World.cell?_alloc_new]
    match k, hk with
    | 0, _ => rfl
    | 1, _ => rfl
    | 2, _ => rfl
    | 3, _ => rfl
  have hsz : w.heap.size < w1.heap.size := Nat.lt_of_lt_of_le (by simp) hb.size
  have hb1 := ((Below.refl w.heap.size w).alloc (Nat.le_refl _) _).trans (hb.mono (by simp))
  have hxby : ∀ j, By ([x0, x1, x2, x3].getD j 0) := by
    intro j
    match j with
    | 0 => exact hx0
    | 1 => exact hx1
    | 2 => exact hx2
    | 3 => exact hx3
    | j + 4 => exact (by decide : By 0)
  clear hL hLw hb
  generalize [x0, x1, x2, x3] = xs at hxc hxby
  refine (bytes_any _ n c bs _ (by omega) hL1).mono ?_
  rintro e w2 ⟨co, cc, rfl, hown0, hb2⟩
  obtain ⟨g, rfl⟩ : ∃ g, co = some ⟨g, 0, none⟩ := by
    rcases hown0.2 with ⟨hv, hn0⟩ | ⟨g, cap, cur, hv, r⟩
    · omega
    · cases hv; exact ⟨g, rfl⟩
  have HX : Hid (∀ j, By (xs.getD j 0)) := hxby
  have HL1 : Hid (Lies w1 (some ⟨b, o, none⟩) n c bs) := hL1
  have HB1 : Hid (Below w.heap.size w w1) := hb1
  have HBY : Hid (∀ x ∈ bs, By x) := hby
  have hlen := hL1.hlen
  clear hxby hL1 hb1 hby hx0 hx1 hx2 hx3
  go_wp2_with fail
  go_loopw [11, 12] (fun u i wr => ∃ k : Nat, k ≤ 4 ∧ a + k ≤ n ∧ i = .int .i64 k ∧ u = .bool (unl xs k) ∧ wr.ownsRow w1.heap.size 5 1 (.slice (some ⟨g, 0, none⟩) n cc) n ((mix bs a xs k).map (Value.int .u8)) ∧ Below w1.heap.size w1 wr) (fun _ i _ => 4 - (intOf i).toNat)
  case atStart => exact ⟨0, Nat.zero_le _, by omega, rfl, rfl, by rw [mix_zero]; exact hown0, hb2⟩
  case round =>
    obtain ⟨k, hk, hak, rfl, rfl, hown, hbr⟩ := hrel
    clear hown0 hb2
    have hki : (k : Int) ≤ 4 := by omega
    by_cases hlt : k < 4 ∧ a + k < n
    · obtain ⟨hk4, hj⟩ := hlt
      have hk4i : (k : Int) < 4 := by omega
      have hcx1 := hxc k hk4
      have hcx := cell_later hbr hcx1
      have hcell : wr.cell? ⟨g, a + k, none⟩ = some (.int .u8 ((mix bs a xs k).getD (a + k) 0)) := by
        rw [hown.cellAt (a + k) (by omega)]
        have : a + k < (mix bs a xs k).length := by rw [mix_length]; omega
        simp [List.getD, this]
      have hfz := hown.frozenAt (a + k)
      have hst := hown.stored (a + k) (.int .u8 (bits .xor .u8 ((mix bs a xs k).getD (a + k) 0) (xs.getD k 0)))
      rw [← List.map_set, mix_succ bs a xs k (by omega)] at hst
      have HST : Hid _ := hst
      have HUN : Hid _ := unl_succ xs k
      clear hst hxc
      generalize (mix bs a xs k).getD (a + k) 0 = C at *
      generalize xs.getD k 0 = x at *
      have hjn : (a : Int) + k < n := by omega
      go_wp2_with fail
      go_region
      have hown3 := HST.out.1.drew
      have hb3 : Below w1.heap.size w1 ((wr.setCell ⟨g, a + k, none⟩ (.int .u8 (bits .xor .u8 C x))).drew) := (hbr.grown HST.out.2 hbr.size (fun k hk => by cases hk; exact (hown.lt g rfl).1)).drew
      have hcx3 := cell_later hb3 hcx1
      clear HST hown hbr hcx hcell hfz
      generalize (wr.setCell ⟨g, a + k, none⟩ (.int .u8 (bits .xor .u8 C x))).drew = w3 at *
      have hu := HUN.out
      cases hun : unl xs k
      · rw [hun] at hu
        go_wp2_with fail
        go_roundw
        case rel => exact ⟨k + 1, by omega, by omega, by go_num, by rw [hu]; rfl, hown3, hb3⟩
        case measure => simp [intOf]; omega
      · rw [hun] at hu
        go_wp2_with fail
        go_roundw
        case rel => exact ⟨k + 1, by omega, by omega, by go_num, by rw [hu]; rfl, hown3, hb3⟩
        case measure => simp [intOf]; omega
    · have hC := Lies.owned hown
      have hL2 := HL1.out.below hbr (Nat.le_refl _)
      have hmb := mix_by a k HBY.out HX.out
      have hp := mix_told (h := h) hh HBY.out HX.out hk (by rw [hlen]; exact hak)
      have hq := mix_told (h := 14695981039346656037) (by decide) HBY.out HX.out hk (by rw [hlen]; exact hak)
      have hbb := HB1.out.trans (hbr.mono HB1.out.size)
      have HP : Hid (_ ∧ _) := ⟨hp, hq⟩
      have hbyy := HBY.out
      clear hp hq hown hbr hxc HB1 HL1 HBY HX
      generalize mix bs a xs k = cs at *
      generalize unl xs k = un at *
      by_cases hk4 : k < 4
      · have hk4i : (k : Int) < 4 := by omega
        have hge : (n : Int) ≤ a + k := by omega
        go_wp2_with fail
        refine (more_any _ _ n c bs _ (by omega) hL2 hbyy).mono ?_
        rintro e w3 ⟨rfl, hw3⟩
        subst w3
        go_wp2_with fail
        refine (more_any _ _ n cc cs _ (by omega) hC hmb).mono ?_
        rintro e w3 ⟨rfl, hw3⟩
        subst w3
        go_wp2_with fail
        refine (sum_any _ n c bs _ (by omega) hL2 hbyy).mono ?_
        rintro e w3 ⟨rfl, hw3⟩
        subst w3
        go_wp2_with fail
        refine (sum_any _ n cc cs _ (by omega) hC hmb).mono ?_
        rintro e w3 ⟨rfl, hw3⟩
        subst w3
        obtain ⟨hp, hq⟩ := HP.out
        generalize fwd h bs = z1 at *
        generalize fwd h cs = z2 at *
        generalize fwd 14695981039346656037 bs = z3 at *
        generalize fwd 14695981039346656037 cs = z4 at *
        go_wp2_with fail
        go_ret
        exact ⟨rfl, hbb⟩
      · have hk4i : (4 : Int) ≤ k := by omega
        go_wp2_with fail
        refine (more_any _ _ n c bs _ (by omega) hL2 hbyy).mono ?_
        rintro e w3 ⟨rfl, hw3⟩
        subst w3
        go_wp2_with fail
        refine (more_any _ _ n cc cs _ (by omega) hC hmb).mono ?_
        rintro e w3 ⟨rfl, hw3⟩
        subst w3
        go_wp2_with fail
        refine (sum_any _ n c bs _ (by omega) hL2 hbyy).mono ?_
        rintro e w3 ⟨rfl, hw3⟩
        subst w3
        go_wp2_with fail
        refine (sum_any _ n cc cs _ (by omega) hC hmb).mono ?_
        rintro e w3 ⟨rfl, hw3⟩
        subst w3
        obtain ⟨hp, hq⟩ := HP.out
        generalize fwd h bs = z1 at *
        generalize fwd h cs = z2 at *
        generalize fwd 14695981039346656037 bs = z3 at *
        generalize fwd 14695981039346656037 cs = z4 at *
        go_wp2_with fail
        go_ret
        exact ⟨rfl, hbb⟩

theorem near_any (h : Int) (ao : Option Addr) (n c : Nat) (bs : List Int) (at0 x0 x1 x2 x3 : Int) (w : World) (hh : U h) (hn : n ≤ 140737488351232) (hL : Lies w ao n c bs) (hby : ∀ x ∈ bs, By x) (hx0 : By x0) (hx1 : By x1) (hx2 : By x2) (hx3 : By x3) :
    Calls Try.prog 5 #[.int .u64 h, .slice ao n c, .int .i64 at0, .agg #[.int .u8 x0, .int .u8 x1, .int .u8 x2, .int .u8 x3]] w fun e w' => e = .returned (.bool true) ∧ Below w.heap.size w w' := by
  by_cases h0 : 0 < n
  · obtain ⟨b, o, rfl, _⟩ := hL.at h0
    exact near_pos h at0 x0 x1 x2 x3 b o n c bs w hh hn h0 hL hby hx0 hx1 hx2 hx3
  · obtain rfl : n = 0 := by omega
    exact near_zero h at0 x0 x1 x2 x3 ao c w
end Go.Proofs.Ytnnebmgiifnckaa
