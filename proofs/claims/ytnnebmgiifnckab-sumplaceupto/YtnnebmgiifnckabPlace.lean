/- annexlaw2.SumPlace by its walk. -/
import Derived.Test.YtnnebmgiifnckabInv
import Derived.Test.YtnnebmgiifnckabAlike
import Derived.Test.YtnnebmgiifnckabPlays
import Derived.Test.YtnnebmgiifnckabMores
namespace Go.Proofs.Ytnnebmgiifnckab
open Go.RowKit
set_option maxRecDepth 100000

/-- '(at%n + n) % n' is a place of a list of n. -/
theorem place_of (x : Int) (n : Nat) (h0 : 0 < n) (hn : n ≤ 140737488351232) : ∃ a : Nat, (wrap64 (x.tmod n + n)).tmod n = (a : Int) ∧ a < n := by
  have h1 : (x.tmod n).natAbs < n := by
    rw [Int.natAbs_tmod]
    exact Nat.mod_lt _ h0
  have h2 : wrap64 (x.tmod n + n) = x.tmod n + n := by
    unfold wrap64
    omega
  rw [h2, Int.tmod_eq_emod_of_nonneg (by omega)]
  have h3 := Int.emod_nonneg (x.tmod n + n) (show (n : Int) ≠ 0 by omega)
  have h4 := Int.emod_lt_of_pos (x.tmod n + n) (show (0 : Int) < n by omega)
  exact ⟨((x.tmod n + n) % n).toNat, by omega, by omega⟩
theorem set_by {bs : List Int} {k : Nat} {y : Int} (hby : ∀ x ∈ bs, By x) (hy : By y) : ∀ x ∈ bs.set k y, By x := fun x hx => by
  rcases List.mem_or_eq_of_mem_set hx with h | rfl
  · exact hby x h
  · exact hy
theorem cell_own {w : World} {base g n c : Nat} {L : List Int} (h : w.ownsRow base 5 1 (.slice (some ⟨g, 0, none⟩) n c) n (L.map (Value.int .u8))) (j : Nat) (hj : j < n) : w.cell? ⟨g, j, none⟩ = some (.int .u8 (L.getD j 0)) := by
  have hL : L.length = n := by simpa using h.1
  rw [h.cellAt j (by omega)]
  have : j < L.length := by omega
  simp [List.getD, this]
theorem getD_front (xs ys : List Int) (j : Nat) (hj : j < xs.length) : (xs ++ ys).getD j 0 = xs.getD j 0 := by
  simp [List.getD, List.getElem?_append_left hj]

set_option maxHeartbeats 400000 in
theorem place_zero (h at0 : Int) (ao : Option Addr) (c : Nat) (w : World) :
    Calls Try.prog 8 #[.int .u64 h, .slice ao 0 c, .int .i64 at0] w fun e w' => e = .returned (.bool true) ∧ Below w.heap.size w w' := by
  go_enter Try.func8, Try.ntmps8
  go_wp2_with fail
  refine (known_any w).mono ?_
  rintro e w1 ⟨rfl, hb⟩
  go_wp2_with fail
  refine wp_loop_rounds 1 ?_
  rw [rounds_succ]
  go_wp2_with fail
  refine wp_loop_rounds 1 ?_
  rw [rounds_succ]
  go_wp2_with fail
  refine (known_any w1).mono ?_
  rintro e w2 ⟨rfl, hb2⟩
  go_wp2_with fail
  go_ret
  exact ⟨rfl, hb.trans (hb2.mono hb.size)⟩

set_option maxHeartbeats 2000000 in
theorem place_pos (h at0 : Int) (ao : Option Addr) (n c : Nat) (A : Nat → Option Addr) (L C : Nat → Nat) (B : Nat → List Int) (w : World) (h0 : 0 < n) (hn : n ≤ 1048576) (hLs : Lists w ao n c A L C B) (hsm : ∀ r, r < n → L r ≤ 1048576) :
    Calls Try.prog 8 #[.int .u64 h, .slice ao n c, .int .i64 at0] w fun e w' => e = .returned (.bool true) ∧ Below w.heap.size w w' := by
  obtain ⟨i0, hi, hz0, hz1, hz2⟩ := info_parts Try.infoTB
  have hni : (n : Int) ≤ 1048576 := by omega
  obtain ⟨b, o, rfl, _⟩ := hLs.at h0
  go_enter Try.func8, Try.ntmps8
  go_wp2_with fail
  refine (known_any w).mono ?_
  rintro e w1 ⟨rfl, hb⟩
  have hL1 := hLs.below hb
  obtain ⟨b', o', hbo, hcs⟩ := hL1.at h0
  cases hbo
  clear hLs
  go_wp2_with fail
  go_loopw [8, 9, 10] (fun vg vw i wr => ∃ (k : Nat) (Vg Vw : List Value), k ≤ n ∧ i = .int .i64 k ∧ Inv w1.heap.size k k wr vg vw Vg Vw ∧ Below w1.heap.size w1 wr) (fun _ _ i _ => n - (intOf i).toNat)
  case atStart => exact ⟨0, [], [], Nat.zero_le _, rfl, ⟨World.ownsRow_nil _ _ _ _, World.ownsRow_nil _ _ _ _, (fun b hb => by cases hb), fun j x y hx => by simp at hx⟩, Below.refl _ _⟩
  case round =>
    obtain ⟨k, Vg, Vw, hk, rfl, hI, hbr⟩ := hrel
    by_cases hlt : k < n
    · have hkn : (k : Int) < n := by omega
      have hck := cell_later hbr (hcs k hlt)
      have hR := (hL1.hrow k hlt).below hbr (Nat.le_refl _)
      have hby := hL1.hby k hlt
      have hlr := hsm k hlt
      clear hL1 hcs hsm
      generalize A k = ak at *
      generalize L k = lk at *
      generalize C k = ck at *
      generalize B k = bk at *
      have hlri : (lk : Int) ≤ 1048576 := by omega
      go_wp2_with fail
      refine (roomy_any ak lk ck bk _ (by omega) hR).mono ?_
      rintro e w2 ⟨g, cap, rfl, hown, hb2⟩
      have hW := Lies.own hown
      have hR2 := hR.below hb2 (Nat.le_refl _)
      have hcap : lk ≤ cap := Nat.le_trans (Nat.le_add_right _ _) hW.hle
      have hcapi : (lk : Int) ≤ cap := by omega
      have hF := hW.front hR2.hlen (by omega)
      have hck2 := cell_later hb2 hck
      have hgl := (hown.lt g rfl).1
      go_wp2_with fail
      refine (rsum_any ak lk ck bk _ (by omega) hR2 hby).mono ?_
      rintro e w3 ⟨rfl, hw3⟩
      subst w3
      go_wp2_with fail
      refine (alike_any h _ _ lk cap bk _ hlr hF hby).mono ?_
      rintro e w3 ⟨rfl, hb3⟩
      have hown3 := own_below hown hb3
      have hb23 := hb2.trans (hb3.mono hb2.size)
      have hlb := hR.hlen
      generalize fwd 14695981039346656037 bk = want at *
      clear hW hR2 hF hck2 hown hb2 hb3 hR hck
      by_cases hl0 : 0 < lk
      · have hl0i : (0 : Int) < lk := by omega
        obtain ⟨a, hae, han⟩ := place_of at0 lk hl0 (by omega)
        have hani : (a : Int) < (lk : Int) + 9 := by omega
        have hcell := cell_own hown3 a (by omega)
        have hfz := hown3.frozenAt a
        have hst := hown3.stored a (.int .u8 (bits .xor .u8 ((bk ++ marks 9).getD a 0) 255))
        rw [← List.map_set, List.set_append_left _ _ (by omega)] at hst
        have hba : By ((bk ++ marks 9).getD a 0) := by
          rw [getD_front _ _ _ (by omega)]
          exact by_getD hby (by omega)
        have hcb := set_by (k := a) hby (hba.xor (show By 255 by decide))
        have hcl : (bk.set a (bits .xor .u8 ((bk ++ marks 9).getD a 0) 255)).length = lk := by simp [hlb]
        have HST : Hid _ := hst
        have HCB : Hid (∀ x ∈ bk.set a (bits .xor .u8 ((bk ++ marks 9).getD a 0) 255), By x) := hcb
        have HCL : Hid _ := hcl
        clear hst hcb hba hby hcl
        generalize (bk ++ marks 9).getD a 0 = ba at *
        generalize hcsd : bk.set a (bits .xor .u8 ba 255) = cs at *
        clear hcsd
        go_wp2_with fail
        have hown5 := HST.out.1
        have hbr5 : Below wr.heap.size wr (w3.setCell ⟨g, a, none⟩ (.int .u8 (bits .xor .u8 ba 255))) := hb23.grown HST.out.2 hb23.size (fun k hk => by cases hk; exact hgl)
        have hcb := HCB.out
        have hcl := HCL.out
        clear HST HCB HCL hown3 hb23 hcell hfz hae
        generalize w3.setCell ⟨g, a, none⟩ (.int .u8 (bits .xor .u8 ba 255)) = w5 at *
        have hW5 := Lies.own hown5
        have hF5 := hW5.front hcl (by omega)
        refine (alike_any h want _ lk cap cs _ hlr hF5 hcb).mono ?_
        rintro e w6 ⟨rfl, hb6⟩
        have hown6 := own_below hown5 hb6
        have hbr6 := hbr5.trans (hb6.mono hbr5.size)
        have hbw6 := hbr.trans (hbr6.mono hbr.size)
        have hI6 := hI.below hbr6
        have hB6 : w1.heap.size ≤ w6.heap.size := hbw6.size
        have hB0 : w1.heap.size ≤ wr.heap.size := hbr.size
        have hI6a := hI6.below ((Below.refl _ _).alloc (Nat.le_refl _) (.cells #[.slice (some ⟨g, 0, none⟩) (lk + 9) cap] 26))
        clear hW5 hF5 hown5 hb6 hbr5 hI hI6
        go_wp2_with (at_builtin; refine wpList_append_own_split _ rfl (.tmp 78) (.tmp 80) 23 rfl w1.heap.size 26 i0 (.slice none 0 0) 1 24 Try.underlying23 hi hz0 hz1 hz2 rfl (by decide) _ k Vg rfl hI6a.og ⟨w6.heap.size, 0, none⟩ 1 1 [.slice (some ⟨g, 0, none⟩) (lk + 9) cap] (by decide) rfl rfl (cell_one_new _ _ _) (by intro u hu; simp at hu; subst hu; rfl) (by unfold maxLen; omega) (by omega) (by simp; omega) ?_; intro vg' w7 hog7 hlaid7)
        have hI7 := hI6a.given hog7 hlaid7
        have hown7 := own_laid (hown6.alloc _) hI6a.og hlaid7
        have hbw7 := laid_below (hbw6.alloc hB6 _) (by simp; omega) hI6a.og hlaid7
        clear hI6a hog7 hlaid7 hown6 hbw6 hbr6
        refine (bytes_any _ (lk + 9) cap (cs ++ marks 9) _ (by omega) (Lies.own hown7)).mono ?_
        rintro e w8 ⟨ao8, c8, rfl, hown8, hb8⟩
        have hB7 : w1.heap.size ≤ w7.heap.size := hbw7.size
        have hbw8 := hbw7.trans (hb8.mono hB7)
        have hB8 : w1.heap.size ≤ w8.heap.size := hbw8.size
        have hP8 : Pair w1.heap.size w8 (.slice (some ⟨g, 0, none⟩) (lk + 9) cap) (.slice ao8 (lk + 9) c8) := ⟨lk + 9, cs ++ marks 9, by omega, ownsRow_mono (own_below hown7 hb8) hB0, ownsRow_mono hown8 hB7⟩
        have hal := (Below.refl w8.heap.size w8).alloc (Nat.le_refl _) (.cells #[.slice ao8 (lk + 9) c8] 26)
        have hI8 := (hI7.below hb8).below hal
        have hP8a := hP8.below hal
        have hlgk : Vg.length = k := by
          have := hI7.og.1
          simpa using this
        clear hI7 hown7 hown8 hb8 hP8 hbw7
        go_wp2_with (at_builtin; refine wpList_append_own_split _ rfl (.tmp 82) (.tmp 85) 23 rfl w1.heap.size 26 i0 (.slice none 0 0) 1 24 Try.underlying23 hi hz0 hz1 hz2 rfl (by decide) _ k Vw rfl hI8.ow ⟨w8.heap.size, 0, none⟩ 1 1 [.slice ao8 (lk + 9) c8] (by decide) rfl rfl (cell_one_new _ _ _) (by intro u hu; simp at hu; subst hu; rfl) (by unfold maxLen; omega) (by omega) (by simp; omega) ?_; intro vw' w9 how9 hlaid9)
        have hI9 := hI8.was how9 hlaid9 (fun x hx => by
          rw [List.getElem?_append_right (by omega)] at hx
          simp [hlgk] at hx
          subst hx
          exact hP8a)
        have hbw9 := laid_below (hbw8.alloc hB8 _) (by simp; omega) hI8.ow hlaid9
        clear hI8 how9 hlaid9 hbw8 hP8a hal
        go_roundw
        case rel => exact ⟨k + 1, _, _, by omega, by go_num, hI9, hbw9⟩
        case measure => simp [intOf]; omega
      · obtain rfl : lk = 0 := by omega
        have hcl := hlb
        have hcb := hby
        have hown5 := hown3
        have hbr5 := hb23
        clear hown3 hb23 hby hlb
        generalize bk = cs at *
        go_wp2_with fail
        have hW5 := Lies.own hown5
        have hF5 := hW5.front hcl (by omega)
        refine (alike_any h want _ 0 cap cs _ hlr hF5 hcb).mono ?_
        rintro e w6 ⟨rfl, hb6⟩
        have hown6 := own_below hown5 hb6
        have hbr6 := hbr5.trans (hb6.mono hbr5.size)
        have hbw6 := hbr.trans (hbr6.mono hbr.size)
        have hI6 := hI.below hbr6
        have hB6 : w1.heap.size ≤ w6.heap.size := hbw6.size
        have hB0 : w1.heap.size ≤ wr.heap.size := hbr.size
        have hI6a := hI6.below ((Below.refl _ _).alloc (Nat.le_refl _) (.cells #[.slice (some ⟨g, 0, none⟩) (0 + 9) cap] 26))
        clear hW5 hF5 hown5 hb6 hbr5 hI hI6
        go_wp2_with (at_builtin; refine wpList_append_own_split _ rfl (.tmp 78) (.tmp 80) 23 rfl w1.heap.size 26 i0 (.slice none 0 0) 1 24 Try.underlying23 hi hz0 hz1 hz2 rfl (by decide) _ k Vg rfl hI6a.og ⟨w6.heap.size, 0, none⟩ 1 1 [.slice (some ⟨g, 0, none⟩) (0 + 9) cap] (by decide) rfl rfl (cell_one_new _ _ _) (by intro u hu; simp at hu; subst hu; rfl) (by unfold maxLen; omega) (by omega) (by simp; omega) ?_; intro vg' w7 hog7 hlaid7)
        have hI7 := hI6a.given hog7 hlaid7
        have hown7 := own_laid (hown6.alloc _) hI6a.og hlaid7
        have hbw7 := laid_below (hbw6.alloc hB6 _) (by simp; omega) hI6a.og hlaid7
        clear hI6a hog7 hlaid7 hown6 hbw6 hbr6
        refine (bytes_any _ (0 + 9) cap (cs ++ marks 9) _ (by omega) (Lies.own hown7)).mono ?_
        rintro e w8 ⟨ao8, c8, rfl, hown8, hb8⟩
        have hB7 : w1.heap.size ≤ w7.heap.size := hbw7.size
        have hbw8 := hbw7.trans (hb8.mono hB7)
        have hB8 : w1.heap.size ≤ w8.heap.size := hbw8.size
        have hP8 : Pair w1.heap.size w8 (.slice (some ⟨g, 0, none⟩) (0 + 9) cap) (.slice ao8 (0 + 9) c8) := ⟨0 + 9, cs ++ marks 9, by omega, ownsRow_mono (own_below hown7 hb8) hB0, ownsRow_mono hown8 hB7⟩
        have hal := (Below.refl w8.heap.size w8).alloc (Nat.le_refl _) (.cells #[.slice ao8 (0 + 9) c8] 26)
        have hI8 := (hI7.below hb8).below hal
        have hP8a := hP8.below hal
        have hlgk : Vg.length = k := by
          have := hI7.og.1
          simpa using this
        clear hI7 hown7 hown8 hb8 hP8 hbw7
        go_wp2_with (at_builtin; refine wpList_append_own_split _ rfl (.tmp 82) (.tmp 85) 23 rfl w1.heap.size 26 i0 (.slice none 0 0) 1 24 Try.underlying23 hi hz0 hz1 hz2 rfl (by decide) _ k Vw rfl hI8.ow ⟨w8.heap.size, 0, none⟩ 1 1 [.slice ao8 (0 + 9) c8] (by decide) rfl rfl (cell_one_new _ _ _) (by intro u hu; simp at hu; subst hu; rfl) (by unfold maxLen; omega) (by omega) (by simp; omega) ?_; intro vw' w9 how9 hlaid9)
        have hI9 := hI8.was how9 hlaid9 (fun x hx => by
          rw [List.getElem?_append_right (by omega)] at hx
          simp [hlgk] at hx
          subst hx
          exact hP8a)
        have hbw9 := laid_below (hbw8.alloc hB8 _) (by simp; omega) hI8.ow hlaid9
        clear hI8 how9 hlaid9 hbw8 hP8a hal
        go_roundw
        case rel => exact ⟨k + 1, _, _, by omega, by go_num, hI9, hbw9⟩
        case measure => simp [intOf]; omega
    · have hkn : (n : Int) ≤ k := by omega
      obtain rfl : k = n := by omega
      obtain ⟨gg, cg, rfl⟩ : ∃ g cc, u8 = .slice (some ⟨g, 0, none⟩) k cc := by
        rcases hI.og.2 with ⟨hv, hn0⟩ | ⟨g, cap, cur, hv, r⟩
        · omega
        · exact ⟨g, cap, hv⟩
      obtain ⟨gw, cw, rfl⟩ : ∃ g cc, u9 = .slice (some ⟨g, 0, none⟩) k cc := by
        rcases hI.ow.2 with ⟨hv, hn0⟩ | ⟨g, cap, cur, hv, r⟩
        · omega
        · exact ⟨g, cap, hv⟩
      have hbz := hb.trans (hbr.mono hb.size)
      have HI : Hid (Inv w1.heap.size k k wr (.slice (some ⟨gg, 0, none⟩) k cg) (.slice (some ⟨gw, 0, none⟩) k cw) Vg Vw) := hI
      clear hI hcs hL1 hsm
      obtain ⟨W, hWr⟩ : ∃ W, W = wr := ⟨_, rfl⟩
      subst hWr
      go_wp2_with fail
      go_loopw [17] (fun i wx => ∃ j m : Nat, j ≤ k ∧ i = .int .i64 j ∧ wx = W.drewN m) (fun i _ => k - (intOf i).toNat)
      case atStart => exact ⟨0, 0, Nat.zero_le _, rfl, rfl⟩
      case round =>
        obtain ⟨j, m, hj, rfl, hwx⟩ := hrel
        subst wr
        by_cases hjk : j < k
        · have hjki : (j : Int) < k := by omega
          have hlg : Vg.length = k := by simpa using HI.out.og.1
          have hlw : Vw.length = k := by simpa using HI.out.ow.1
          have hxg : Vg[j]? = some Vg[j] := List.getElem?_eq_getElem (by omega)
          have hxw : Vw[j]? = some Vw[j] := List.getElem?_eq_getElem (by omega)
          have hcg := HI.out.og.cellAt j (by omega)
          have hcw := HI.out.ow.cellAt j (by omega)
          rw [hxg] at hcg
          rw [hxw] at hcw
          obtain ⟨q, xs, hq, hox, hoy⟩ := HI.out.pr j _ _ hxg hxw
          generalize Vg[j] = x at *
          generalize Vw[j] = y at *
          obtain ⟨ax, cx, rfl⟩ := own_len hox
          obtain ⟨ay, cy, rfl⟩ := own_len hoy
          have hS : ∀ t, Calls Try.prog 22 #[.slice ax q cx, .slice ay q cy] (W.drewN (m + t)) fun e w'' => e = .returned (.bool true) ∧ ∃ m', w'' = W.drewN (m + m') := fun t => by
            have hbt := below_drewN (Below.refl W.heap.size W) (m + t)
            refine (same_any ax ay q q cx cy xs xs _ (by omega) ((Lies.owned hox).below hbt (Nat.le_refl _)) ((Lies.owned hoy).below hbt (Nat.le_refl _))).mono ?_
            rintro e w'' ⟨rfl, m', rfl⟩
            exact ⟨by simp, t + m', by rw [World.drewN_drewN, Nat.add_assoc]⟩
          clear hox hoy hxg hxw hlg hlw HI
          go_wp2_with fail
          go_quiet ((go_at_call 22; exact hS _))
          go_wp2_with fail
          go_roundw
          case rel => exact ⟨j + 1, m + nq, by omega, by go_num, by first | exact World.drewN_drewN _ _ _ | simp⟩
          case measure => simp [intOf]; omega
        · have hjki : (k : Int) ≤ j := by omega
          clear HI
          have hbd := below_drewN hbz m
          go_wp2_with fail
          refine (known_any _).mono ?_
          rintro e w2 ⟨rfl, hb2⟩
          go_wp2_with fail
          go_ret
          exact ⟨rfl, hbd.trans (hb2.mono hbd.size)⟩

theorem place_any (h : Int) (ao : Option Addr) (n c : Nat) (A : Nat → Option Addr) (L C : Nat → Nat) (B : Nat → List Int) (at0 : Int) (w : World) (hn : n ≤ 1048576) (hLs : Lists w ao n c A L C B) (hsm : ∀ r, r < n → L r ≤ 1048576) :
    Calls Try.prog 8 #[.int .u64 h, .slice ao n c, .int .i64 at0] w fun e w' => e = .returned (.bool true) ∧ Below w.heap.size w w' := by
  by_cases h0 : 0 < n
  · exact place_pos h at0 ao n c A L C B w h0 hn hLs hsm
  · obtain rfl : n = 0 := by omega
    exact place_zero h at0 ao c w
end Go.Proofs.Ytnnebmgiifnckab
