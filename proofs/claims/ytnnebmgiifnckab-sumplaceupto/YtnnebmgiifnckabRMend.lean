/- The document's own Mend (annexref2) by its contract. -/
import Derived.Test.YtnnebmgiifnckabMendMath
import Derived.Test.YtnnebmgiifnckabBegs
import Derived.Test.YtnnebmgiifnckabRef
namespace Go.Proofs.Ytnnebmgiifnckab
open Go.RowKit
set_option maxRecDepth 100000

theorem getD_append_one (L : List Int) (v : Int) (t : Nat) (ht : t ≤ L.length) : (L ++ [v]).getD t 0 = if t = L.length then v else L.getD t 0 := by
  by_cases h : t = L.length
  · subst h; simp [List.getD]
  · have h2 : t < L.length := by omega
    rw [if_neg h]
    simp [List.getD, List.getElem?_append_left h2]

theorem own_cell {w : World} {base g m c : Nat} {L : List Int} (h : w.ownsRow base 22 1 (.slice (some ⟨g, 0, none⟩) m c) m (L.map (Value.int .u64))) (j : Nat) (hj : j < m) : w.cell? ⟨g, j, none⟩ = some (.int .u64 (L.getD j 0)) := by
  have hL : L.length = m := by simpa using h.1
  rw [h.cellAt j (by omega)]
  have : j < L.length := by omega
  simp [List.getD, this]

set_option maxHeartbeats 1000000 in
theorem rmend_pos (z : Int) (b o c n : Nat) (bs : List Int) (w : World) (hn : n ≤ 1048576) (h0 : 0 < n) (hL : Lies w (some ⟨b, o, none⟩) n c bs) (hby : ∀ x ∈ bs, By x)
    (hc : ∀ t, t < n → w.cell? ⟨b, o + t, none⟩ = some (.int .u8 (bs.getD t 0))) :
    Calls Try.prog 19 #[.slice (some ⟨b, o, none⟩) n c, .int .u64 z] w fun e w' => (∃ i y r, e = .returned (.tuple #[.int .i64 i, .int .u8 y, .bool r]) ∧ Mended bs z i y r) ∧ Below w.heap.size w w' := by
  obtain ⟨i0, hi, hz0, hz1, hz2⟩ := info_parts Try.info22
  have hni : (n : Int) ≤ 1048576 := by omega
  have hlen := hL.hlen
  have hcap : n ≤ c := hL.hle
  go_enter Try.func19, Try.ntmps19
  go_wp2_with fail
  refine (rsum_any _ n c bs _ (by omega) hL hby).mono ?_
  rintro e w1 ⟨rfl, hw1⟩
  subst w1
  clear hL
  by_cases heq : fwd 14695981039346656037 bs = z
  · have hbe : (fwd 14695981039346656037 bs == z) = true := by simpa using heq
    clear hc
    have HE : Hid _ := heq
    clear heq
    generalize fwd 14695981039346656037 bs = F at hbe ⊢
    go_wp2_with fail
    go_ret3
    exact ⟨⟨_, _, _, rfl, Or.inl ⟨HE.out, rfl, rfl, rfl⟩⟩, Below.refl _ _⟩
  · have hbe : (fwd 14695981039346656037 bs == z) = false := by simpa using heq
    have HE : Hid (¬ fwd 14695981039346656037 bs = z) := heq
    clear heq
    generalize fwd 14695981039346656037 bs = F at hbe ⊢
    go_wp2_with fail
    go_loopw [7, 8, 9] (fun v g i wr => ∃ (k : Nat) (L : List Int), k ≤ n ∧ i = .int .i64 ((k : Int) - 1) ∧ g = .int .u64 (bwd z (bs.drop k)) ∧ wr.ownsRow w.heap.size 22 1 v (n - k) (L.map (Value.int .u64)) ∧ L.length = n - k ∧ (∀ t, t < n - k → L.getD t 0 = bwd z (bs.drop (n - t))) ∧ Below w.heap.size w wr) (fun _ _ i _ => (intOf i + 1).toNat)
    case atStart =>
      refine ⟨n, [], Nat.le_refl _, rfl, by simp [bwd, ← hlen], by simpa using World.ownsRow_nil _ _ _ _, by simp, fun t ht => by omega, Below.refl _ _⟩
    case round =>
      obtain ⟨k, L, hk, rfl, rfl, hown, hLl, hLv, hb⟩ := hrel
      by_cases hlt : 0 < k
      · obtain ⟨k, rfl⟩ : ∃ j, k = j + 1 := ⟨k - 1, by omega⟩
        have hi1 : (((k + 1 : Nat) : Int) - 1) = (k : Int) := by omega
        rw [hi1]
        clear hi1
        have hkN : k < n := by omega
        have hkn : (k : Int) < n := by omega
        have hkc : (k : Int) + 1 ≤ c := by omega
        have hck := hc k hkN
        have hx := by_getD hby (show k < bs.length by omega)
        have hs : bwd z (bs.drop k) = bwd (bwd z (bs.drop (k + 1))) [bs.getD k 0] := by
          rw [drop_getD bs (by omega)]; rfl
        have HS : Hid _ := hs
        have HLV : Hid (∀ t, t < n - (k + 1) → L.getD t 0 = bwd z (bs.drop (n - t))) := hLv
        have HG : Hid (bwd z (bs.drop (k + 1)) = bwd z (bs.drop (n - (n - (k + 1))))) := by
          have : n - (n - (k + 1)) = k + 1 := by omega
          rw [this]; exact rfl
        have hck2 := hck
        clear hs hc hby hLv
        generalize bwd z (bs.drop (k + 1)) = G at *
        generalize bs.getD k 0 = x at *
        go_wp2_with (at_builtin; refine wpList_append_own _ rfl (.tmp 25) (.tmp 27) 41 rfl w.heap.size 22 i0 (.int .u64 0) 1 8 Try.underlying41 hi hz0 hz1 hz2 rfl (by decide) _ _ _ rfl (hown.alloc _) ⟨wr.heap.size, 0, none⟩ 1 1 [.int .u64 G] rfl rfl (cell_one_new _ _ _) (by intro u hu; simp at hu; subst hu; rfl) (by unfold maxLen; omega) (by omega) (by have := hb.size; simp; omega) ?_; intro v' w1 hown1 hgrow1 hnil1)
        have hbn : Below w.heap.size w w1 := (hb.alloc hb.size _).grown hgrow1 (by simp; have := hb.size; omega) (fun k hk => (hown.lt k hk).1)
        have hck1 := cell_later hbn hck
        have hbk := rback_any G (some ⟨b, o + k, none⟩) 1 (c - k) [x] w1 (by omega) ⟨rfl, by omega, (fun h => by cases h), fun ad had t u hu => by
          obtain rfl := Option.some.inj had
          have ht : t = 0 := by
            have := (List.getElem?_eq_some_iff.1 hu).1
            simp at this; exact this
          subst ht
          simp at hu
          subst hu
          rw [Addr.add_lit, Nat.add_zero]
          exact hck1⟩ (fun y hy => by simp at hy; subst hy; exact hx)
        refine hbk.mono ?_
        rintro e w2 ⟨rfl, hw2⟩
        subst w2
        clear hbk
        go_wp2_with fail
        go_roundw
        case rel =>
          have en : n - k = n - (k + 1) + 1 := by omega
          refine ⟨k, L ++ [G], by omega, by go_num, by rw [HS.out], ?_, by simp; omega, fun t ht => ?_, hbn⟩
          · rw [en, List.map_append]; exact hown1
          · rw [getD_append_one _ _ _ (by omega), hLl]
            by_cases h : t = n - (k + 1)
            · subst h
              rw [if_pos rfl, HG.out]
            · rw [if_neg h]
              exact HLV.out t (by omega)
        case measure => simp [intOf]
      · have hk0 : (k : Int) ≤ 0 := by omega
        obtain rfl : k = 0 := by omega
        obtain ⟨g, cc, rfl⟩ : ∃ g cc, u7 = .slice (some ⟨g, 0, none⟩) n cc := by
          rcases hown.2 with ⟨hv, hn0⟩ | ⟨g, cap, cur, hv, r⟩
          · omega
          · exact ⟨g, cap, hv⟩
        have hE : ∀ j, j < n → wr.cell? ⟨g, n - 1 - j, none⟩ = some (.int .u64 (bwd z (bs.drop (j + 1)))) := fun j hj => by
          have h1 := own_cell hown (n - 1 - j) (by omega)
          rw [hLv (n - 1 - j) (by omega), show n - (n - 1 - j) = j + 1 by omega] at h1
          exact h1
        have hcC : ∀ t, t < n → wr.cell? ⟨b, o + t, none⟩ = some (.int .u8 (bs.getD t 0)) := fun t ht => cell_later hb (hc t ht)
        clear hown hLl hLv hc hbe
        simp only [List.drop_zero, Int.natCast_zero, Int.zero_sub]
        go_wp2_with fail
        go_loopw [10, 11] (fun f i wx => ∃ k : Nat, k ≤ n ∧ i = .int .i64 k ∧ f = .int .u64 (fwd 14695981039346656037 (bs.take k)) ∧ (∀ j, j < k → 256 ≤ cand bs z j) ∧ wx = wr) (fun _ i _ => n - (intOf i).toNat)
        case atStart => exact ⟨0, Nat.zero_le _, rfl, by simp [fwd], fun j hj => by omega, rfl⟩
        case round =>
          obtain ⟨k, hk, rfl, rfl, hno, hwx⟩ := hrel
          subst hwx
          have HNO : Hid (∀ j, j < k → 256 ≤ cand bs z j) := hno
          clear hno
          by_cases hlt : k < n
          · have hkn : (k : Int) < n := by omega
            have hsub : (n : Int) - 1 - k = ((n - 1 - k : Nat) : Int) := by omega
            have hnk : n - 1 - k < n := by omega
            have hA := hE k hlt
            have hC := hcC k hlt
            have hx := by_getD hby (show k < bs.length by omega)
            have hcd : cand bs z k = bits .xor .u64 (IntKind.u64.wrap (bwd z (bs.drop (k + 1)) * 14886173955864302971)) (fwd 14695981039346656037 (bs.take k)) := rfl
            have hcu := cand_u bs z k
            have hs : fwd 14695981039346656037 (bs.take (k + 1)) = stp (fwd 14695981039346656037 (bs.take k)) (bs.getD k 0) := by
              rw [take_succ_getD bs (by omega), fwd_append]; rfl
            have HS : Hid _ := hs
            clear hs hE hcC hby
            by_cases hcand : cand bs z k < 256
            · have HC : Hid _ := hcd
              rw [hcd] at hcu
              have hc1 := hcu.1
              have hc2 : bits .xor .u64 (IntKind.u64.wrap (bwd z (bs.drop (k + 1)) * 14886173955864302971)) (fwd 14695981039346656037 (bs.take k)) < 256 := by rw [← hcd]; exact hcand
              clear hcu hcd
              generalize fwd 14695981039346656037 (bs.take k) = F1 at *
              generalize bwd z (bs.drop (k + 1)) = G at *
              generalize bs.getD k 0 = x at *
              go_wp2_with fail
              go_ret3
              refine ⟨⟨_, _, _, rfl, Or.inr (Or.inl ⟨HE.out, k, by omega, HNO.out, hcand, rfl, ?_, rfl⟩)⟩, hb⟩
              rw [HC.out]
            · have hcand : 256 ≤ cand bs z k := by omega
              have hc2 : 256 ≤ bits .xor .u64 (IntKind.u64.wrap (bwd z (bs.drop (k + 1)) * 14886173955864302971)) (fwd 14695981039346656037 (bs.take k)) := by rw [← hcd]; exact hcand
              clear hcu hcd
              generalize fwd 14695981039346656037 (bs.take k) = F1 at *
              generalize bwd z (bs.drop (k + 1)) = G at *
              generalize bs.getD k 0 = x at *
              go_wp2_with (go_at_call 24; refine (rstep_any _ _ _ hx).mono ?_; rintro e w9 ⟨rfl, hw9⟩; subst w9)
              go_roundw
              case rel =>
                refine ⟨k + 1, by omega, by go_num, by rw [HS.out], fun j hj => ?_, by trivial⟩
                by_cases h : j < k
                · exact HNO.out j h
                · obtain rfl : j = k := by omega
                  exact hcand
              case measure => simp [intOf]; omega
          · have hkn : (n : Int) ≤ k := by omega
            clear hE hcC hby
            go_wp2_with fail
            go_ret3
            exact ⟨⟨_, _, _, rfl, Or.inr (Or.inr ⟨HE.out, fun j hj => HNO.out j (by omega), rfl, rfl, rfl⟩)⟩, hb⟩

set_option maxHeartbeats 400000 in
theorem rmend_zero (z : Int) (ao : Option Addr) (c : Nat) (w : World) (hL : Lies w ao 0 c []) :
    Calls Try.prog 19 #[.slice ao 0 c, .int .u64 z] w fun e w' => (∃ i y r, e = .returned (.tuple #[.int .i64 i, .int .u8 y, .bool r]) ∧ Mended [] z i y r) ∧ Below w.heap.size w w' := by
  have hnil : ∀ x ∈ ([] : List Int), By x := fun x hx => by cases hx
  go_enter Try.func19, Try.ntmps19
  go_wp2_with fail
  refine (rsum_any _ 0 c [] _ (by omega) hL hnil).mono ?_
  rintro e w1 ⟨rfl, hw1⟩
  subst w1
  by_cases heq : fwd 14695981039346656037 [] = z
  · have hbe : (fwd 14695981039346656037 [] == z) = true := by simpa using heq
    have HE : Hid _ := heq
    clear heq
    generalize fwd 14695981039346656037 [] = F at hbe ⊢
    go_wp2_with fail
    go_ret3
    exact ⟨⟨_, _, _, rfl, Or.inl ⟨HE.out, rfl, rfl, rfl⟩⟩, Below.refl _ _⟩
  · have hbe : (fwd 14695981039346656037 [] == z) = false := by simpa using heq
    have HE : Hid (¬ fwd 14695981039346656037 [] = z) := heq
    clear heq
    generalize fwd 14695981039346656037 [] = F at hbe ⊢
    go_wp2_with fail
    refine wp_loop_rounds 1 ?_
    rw [rounds_succ]
    go_wp2_with fail
    refine wp_loop_rounds 1 ?_
    rw [rounds_succ]
    go_wp2_with fail
    go_ret3
    exact ⟨⟨_, _, _, rfl, Or.inr (Or.inr ⟨HE.out, fun j hj => by simp at hj, rfl, rfl, rfl⟩)⟩, Below.refl _ _⟩

/-- The document's Mend, of any list and any number. -/
theorem rmend_any (z : Int) (ao : Option Addr) (n c : Nat) (bs : List Int) (w : World) (hn : n ≤ 1048576) (hL : Lies w ao n c bs) (hby : ∀ x ∈ bs, By x) :
    Calls Try.prog 19 #[.slice ao n c, .int .u64 z] w fun e w' => (∃ i y r, e = .returned (.tuple #[.int .i64 i, .int .u8 y, .bool r]) ∧ Mended bs z i y r) ∧ Below w.heap.size w w' := by
  by_cases h0 : 0 < n
  · obtain ⟨b, o, rfl, hc⟩ := hL.at h0
    exact rmend_pos z b o c n bs w hn h0 hL hby hc
  · obtain rfl : n = 0 := by omega
    obtain rfl := List.eq_nil_of_length_eq_zero hL.hlen
    exact rmend_zero z ao c w hL
end Go.Proofs.Ytnnebmgiifnckab
