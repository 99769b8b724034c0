/- annexlaw2.SumFinds by its walk. -/
import Derived.Test.YtnnebmgiifnckaaMended
namespace Go.Proofs.Ytnnebmgiifnckaa
open Go.RowKit
set_option maxRecDepth 100000

set_option maxHeartbeats 400000 in
theorem finds_zero (ao : Option Addr) (c : Nat) (z : Int) (w : World) (hL : Lies w ao 0 c []) :
    Calls Try.prog 8 #[.slice ao 0 c, .int .u64 z] w fun e w' => e = .returned (.bool true) ∧ Below w.heap.size w w' := by
  have hnil : ∀ x ∈ ([] : List Int), By x := fun x hx => by cases hx
  go_enter Try.func8, Try.ntmps8
  go_wp2_with fail
  refine (known_any _).mono ?_
  rintro e w1 ⟨rfl, hb1⟩
  have hL1 := hL.below hb1 (Nat.le_refl _)
  go_wp2_with fail
  refine (mend_any z _ 0 c [] _ (by omega) hL1 hnil).mono ?_
  rintro e w2 ⟨⟨i, y, r, rfl, hM⟩, hb2⟩
  have HM : Hid (Mended [] z i y r) := hM
  have hb := hb1.trans (hb2.mono hb1.size)
  clear hM hL hL1 hb1 hb2
  go_wp2_with fail
  refine (bytes_zero ao c _).mono ?_
  rintro e w3 ⟨rfl, hw3⟩
  subst w3
  go_wp2_with fail
  refine (sum_any none 0 0 [] _ (by omega) (Lies.nil _) hnil).mono ?_
  rintro e w3 ⟨rfl, hw3⟩
  subst w3
  rcases HM.out with ⟨h1, rfl, rfl, rfl⟩ | ⟨_, k, hk, _⟩ | ⟨h1, _, rfl, rfl, rfl⟩
  · have hbe : (fwd 14695981039346656037 [] == z) = true := by simpa using h1
    clear h1 HM
    generalize fwd 14695981039346656037 [] = F at *
    go_wp2_with fail
    go_ret
    exact ⟨rfl, hb⟩
  · simp at hk
  · have hbe : (fwd 14695981039346656037 [] != z) = true := by simpa using h1
    clear h1 HM
    generalize fwd 14695981039346656037 [] = F at *
    go_wp2_with fail
    refine wp_loop_rounds 1 ?_
    rw [rounds_succ]
    go_wp2_with fail
    go_ret
    exact ⟨rfl, hb⟩

theorem cell_own {w : World} {base g n c : Nat} {L : List Int} (h : w.ownsRow base 5 1 (.slice (some ⟨g, 0, none⟩) n c) n (L.map (Value.int .u8))) (j : Nat) (hj : j < n) : w.cell? ⟨g, j, none⟩ = some (.int .u8 (L.getD j 0)) := by
  have hL : L.length = n := by simpa using h.1
  rw [h.cellAt j (by omega)]
  have : j < L.length := by omega
  simp [List.getD, this]

set_option maxHeartbeats 2000000 in
theorem finds_pos (b o n c : Nat) (bs : List Int) (z : Int) (w : World) (hn : n ≤ 1048576) (h0 : 0 < n) (hL : Lies w (some ⟨b, o, none⟩) n c bs) (hby : ∀ x ∈ bs, By x) (hz : U z)
    (hc : ∀ t, t < n → w.cell? ⟨b, o + t, none⟩ = some (.int .u8 (bs.getD t 0))) :
    Calls Try.prog 8 #[.slice (some ⟨b, o, none⟩) n c, .int .u64 z] w fun e w' => e = .returned (.bool true) ∧ Below w.heap.size w w' := by
  have hni : (n : Int) ≤ 1048576 := by omega
  have hlen := hL.hlen
  go_enter Try.func8, Try.ntmps8
  go_wp2_with fail
  refine (known_any _).mono ?_
  rintro e w1 ⟨rfl, hb1⟩
  have hL1 := hL.below hb1 (Nat.le_refl _)
  go_wp2_with fail
  refine (mend_any z _ n c bs _ hn hL1 hby).mono ?_
  rintro e w2 ⟨⟨i, y, r, rfl, hM⟩, hb2⟩
  have HM : Hid (Mended bs z i y r) := hM
  have hyb := hM.byte
  have hL2 := hL1.below hb2 (Nat.le_refl _)
  have hb := hb1.trans (hb2.mono hb1.size)
  have hc2 : ∀ t, t < n → w2.cell? ⟨b, o + t, none⟩ = some (.int .u8 (bs.getD t 0)) := fun t ht => cell_later hb (hc t ht)
  clear hM hL hL1 hb1 hb2 hc
  go_wp2_with fail
  refine (bytes_any _ n c bs _ (by omega) hL2).mono ?_
  rintro e w3 ⟨co, cc, rfl, hown, hb3⟩
  obtain ⟨g, rfl⟩ : ∃ g, co = some ⟨g, 0, none⟩ := by
    rcases hown.2 with ⟨hv, hn0⟩ | ⟨g, cap, cur, hv, r⟩
    · omega
    · cases hv; exact ⟨g, rfl⟩
  have hbb := hb.trans (hb3.mono hb.size)
  go_wp2_with fail
  refine (sum_any _ n cc bs _ (by omega) (Lies.owned hown) hby).mono ?_
  rintro e w4 ⟨rfl, hw4⟩
  subst w4
  rcases HM.out with ⟨h1, rfl, rfl, rfl⟩ | ⟨h1, k, hk, _, hck, rfl, rfl, rfl⟩ | ⟨h1, h2, rfl, rfl, rfl⟩
  · have hbe : (fwd 14695981039346656037 bs == z) = true := by simpa using h1
    clear h1 HM hc2
    generalize fwd 14695981039346656037 bs = F at hbe ⊢
    go_wp2_with fail
    go_ret
    exact ⟨rfl, hbb⟩
  · have hbe : (fwd 14695981039346656037 bs == z) = false := by simpa using h1
    have hkn : (k : Int) < n := by omega
    have hkN : k < n := by omega
    have hk1 : ((k : Int) == -1) = false := by simp
    have hsum := (set_sum hby hz hyb hk).2 rfl
    have hcell := cell_own hown k hkN
    have hfz := hown.frozenAt k
    have hst := hown.stored k (.int .u8 (cand bs z k))
    rw [← List.map_set] at hst
    have HST : Hid _ := hst
    have hcs := set_by (k := k) hby hyb
    have HS : Hid _ := hsum
    have HCS : Hid (∀ x ∈ bs.set k (cand bs z k), By x) := hcs
    clear hst hsum hcs h1 HM hc2 hck
    generalize fwd 14695981039346656037 bs = F at hbe ⊢
    generalize cand bs z k = y at *
    generalize bs.getD k 0 = bk at *
    go_wp2_with fail
    refine (sum_any _ n cc (bs.set k y) _ (by omega) (Lies.owned HST.out.1) HCS.out).mono ?_
    rintro e w6 ⟨rfl, hw6⟩
    subst w6
    rw [HS.out]
    go_wp2_with fail
    go_ret
    refine ⟨rfl, hb.trans (Below.mono ?_ hb.size)⟩
    exact hb3.grown HST.out.2 hb3.size (fun k hk => by cases hk; exact (hown.lt g rfl).1)
  · have hbe : (fwd 14695981039346656037 bs != z) = true := by simpa using h1
    have H2 : Hid (∀ j, j < bs.length → 256 ≤ cand bs z j) := h2
    have HBY : Hid (∀ x ∈ bs, By x) := hby
    clear h1 h2 HM hyb
    generalize fwd 14695981039346656037 bs = F at hbe ⊢
    go_wp2_with fail
    go_loopw [12] (fun i wr => ∃ k : Nat, k ≤ n ∧ k ≤ 64 ∧ i = .int .i64 k ∧ wr.ownsRow w2.heap.size 5 1 (.slice (some ⟨g, 0, none⟩) n cc) n (bs.map (Value.int .u8)) ∧ Below w2.heap.size w2 wr) (fun i _ => 64 - (intOf i).toNat)
    case atStart => exact ⟨0, Nat.zero_le _, by omega, rfl, hown, hb3⟩
    case round =>
      obtain ⟨k, hk, hk64, rfl, hown1, hbr⟩ := hrel
      clear hown hbb hb3
      have hk64i : (k : Int) ≤ 64 := by omega
      by_cases hgo : k < n ∧ k < 64 ∧ n ≤ 1000
      · obtain ⟨hkN, hk6, hn1⟩ := hgo
        have hkn : (k : Int) < n := by omega
        have hk6i : (k : Int) < 64 := by omega
        have hn1i : (n : Int) ≤ 1000 := by omega
        have hcb := hc2 k hkN
        have hbk := by_getD HBY.out (show k < bs.length by omega)
        have hcand := H2.out k (by omega)
        have HSet : Hid (∀ v : Int, By v → (fwd 14695981039346656037 (bs.set k v) == z) = false) := fun v hv => by
          have := set_sum (k := k) HBY.out hz hv (show k < bs.length by omega)
          have hne : ¬ fwd 14695981039346656037 (bs.set k v) = z := fun h => by
            have e := this.1 h
            have := hv.2
            omega
          simpa using hne
        have HREST : Hid (∀ u : Int, (bs.set k u).set k (bs.getD k 0) = bs) := fun u => set_back (by omega)
        clear hc2 H2 hcand
        go_wp2_with fail
        go_loopw [13] (fun j wx => ∃ (v : Nat) (u : Int), v ≤ 256 ∧ j = .int .i64 v ∧ wx.ownsRow w2.heap.size 5 1 (.slice (some ⟨g, 0, none⟩) n cc) n ((bs.set k u).map (Value.int .u8)) ∧ Below w2.heap.size w2 wx) (fun j _ => 256 - (intOf j).toNat)
        case atStart =>
          refine ⟨0, bs.getD k 0, by omega, rfl, ?_, hbr⟩
          have e : bs.set k (bs.getD k 0) = bs := by
            have := set_back (bs := bs) (a := k) (y := bs.getD k 0) (by omega)
            rwa [List.set_set] at this
          rw [e]; exact hown1
        case round =>
          obtain ⟨v, u, hv, rfl, hown2, hbx⟩ := hrel
          clear hown1 hbr
          have hv256 : (v : Int) ≤ 256 := by omega
          by_cases hvlt : v < 256
          · have hvi : (v : Int) < 256 := by omega
            have hvm : (v : Int) % 256 = v := by omega
            have hvb : By (v : Int) := ⟨by omega, by omega⟩
            have hcell := cell_own hown2 k hkN
            have hfz := hown2.frozenAt k
            have hst := hown2.stored k (.int .u8 (v : Int))
            rw [← List.map_set, List.set_set] at hst
            have HST : Hid _ := hst
            have hne := HSet.out v hvb
            have HCS : Hid (∀ x ∈ bs.set k (v : Int), By x) := set_by HBY.out hvb
            clear hst
            generalize (bs.set k u).getD k 0 = ck at *
            go_wp2_with fail
            refine (sum_any _ n cc (bs.set k (v : Int)) _ (by omega) (Lies.owned HST.out.1) HCS.out).mono ?_
            rintro e w6 ⟨rfl, hw6⟩
            subst w6
            generalize fwd 14695981039346656037 (bs.set k (v : Int)) = FF at *
            go_wp2_with fail
            go_roundw
            case rel => exact ⟨v + 1, v, by omega, by go_num, HST.out.1, hbx.grown HST.out.2 hbx.size (fun k hk => by cases hk; exact (hown2.lt g rfl).1)⟩
            case measure => simp [intOf]; omega
          · have hvi : (256 : Int) ≤ v := by omega
            have hcb2 := cell_later hbx hcb
            have hcell := cell_own hown2 k hkN
            have hfz := hown2.frozenAt k
            have hst := hown2.stored k (.int .u8 (bs.getD k 0))
            rw [← List.map_set, HREST.out u] at hst
            have HST : Hid _ := hst
            clear hst HREST HSet
            generalize (bs.set k u).getD k 0 = ck at *
            generalize bs.getD k 0 = bk at *
            go_wp2_with fail
            go_roundw
            case rel => exact ⟨k + 1, by omega, by omega, by go_num, HST.out.1, hbx.grown HST.out.2 hbx.size (fun k hk => by cases hk; exact (hown2.lt g rfl).1)⟩
            case measure => simp [intOf]; omega
      · have hbz := hb.trans (hbr.mono hb.size)
        clear hc2 H2
        by_cases hkN : k < n
        · have hkn : (k : Int) < n := by omega
          by_cases hk6 : k < 64
          · have hk6i : (k : Int) < 64 := by omega
            have hn1 : (1000 : Int) < n := by omega
            go_wp2_with fail
            go_ret
            exact ⟨rfl, hbz⟩
          · have hk6i : (64 : Int) ≤ k := by omega
            go_wp2_with fail
            go_ret
            exact ⟨rfl, hbz⟩
        · have hkn : (n : Int) ≤ k := by omega
          go_wp2_with fail
          go_ret
          exact ⟨rfl, hbz⟩

theorem finds_any (ao : Option Addr) (n c : Nat) (bs : List Int) (z : Int) (w : World) (hn : n ≤ 1048576) (hL : Lies w ao n c bs) (hby : ∀ x ∈ bs, By x) (hz : U z) :
    Calls Try.prog 8 #[.slice ao n c, .int .u64 z] w fun e w' => e = .returned (.bool true) ∧ Below w.heap.size w w' := by
  by_cases h0 : 0 < n
  · obtain ⟨b, o, rfl, hc⟩ := hL.at h0
    exact finds_pos b o n c bs z w hn h0 hL hby hz hc
  · obtain rfl : n = 0 := by omega
    obtain rfl := List.eq_nil_of_length_eq_zero hL.hlen
    exact finds_zero ao c z w hL
end Go.Proofs.Ytnnebmgiifnckaa
