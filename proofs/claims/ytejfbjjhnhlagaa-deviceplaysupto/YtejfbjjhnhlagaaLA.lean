/- full, num, AllZero, SamePendings by their contracts. -/
import Derived.Test.YtejfbjjhnhlagaaDK
namespace Go.Proofs.Ytejfbjjhnhlagaa
open Go.RowKit Go.Maps
set_option maxRecDepth 100000

theorem num_id (x : Int) (w : World) : Calls Try.prog 18 #[.int .i64 x] w fun e w' => e = .returned (.int .i64 x) ∧ w' = w := by
  go_enter Try.func18, Try.ntmps18
  go_wp2
  go_ret
  exact ⟨rfl, rfl⟩
theorem set_full (j : Nat) (x : Int) (hj : j < 512) : ((List.replicate j x ++ List.replicate (512 - j) 0).map (Value.int .u8)).toArray.setIfInBounds j (.int .u8 x) = ((List.replicate (j + 1) x ++ List.replicate (512 - (j + 1)) 0).map (Value.int .u8)).toArray := by
  have e1 : List.replicate (512 - j) (0 : Int) = 0 :: List.replicate (512 - (j + 1)) 0 := by
    rw [show 512 - j = 512 - (j + 1) + 1 by omega, List.replicate_succ]
  rw [e1, List.replicate_succ']
  simp
theorem getD_full (j : Nat) (x : Int) (hj : j < 512) : ∃ v, (((List.replicate j x ++ List.replicate (512 - j) 0).map (Value.int .u8)).toArray)[j]? = some v := by
  exact ⟨_, Array.getElem?_eq_getElem (by simp; omega)⟩

set_option maxHeartbeats 1000000 in
theorem full_any (x : Int) (w : World) :
    Calls Try.prog 12 #[.int .u8 x] w fun e w' => ∃ g, e = .returned (.slice (some ⟨g, 0, none⟩) 512 512) ∧ w.heap.size ≤ g ∧ w'.heap[g]? = some (bl (List.replicate 512 x)) ∧ Below w.heap.size w w' := by
  obtain ⟨i0, hi, hz0, hz1, hz2⟩ := info_parts Try.info5
  have hz := zeros_bl w 512
  have hb1 : Below w.heap.size w (w.alloc (.cells (madeCells #[.int .u8 0] 512) 5)) := (Below.refl _ w).alloc (Nat.le_refl _) _
  generalize hW : w.alloc (.cells (madeCells #[.int .u8 0] 512) 5) = W at *
  go_enter Try.func12, Try.ntmps12
  go_wp2_with (at_make; refine wpList_make_row _ rfl _ _ 33 rfl 5 i0 (.int .u8 0) Try.underlying33 hi hz0 hz1 rfl _ _ 512 rfl rfl (by rw [hz2]; omega) (by omega) ?_)
  try rw [hW]
  go_loopw [4] (fun i wr => ∃ j : Nat, j ≤ 512 ∧ i = .int .i64 j ∧ wr.heap[w.heap.size]? = some (bl (List.replicate j x ++ List.replicate (512 - j) 0)) ∧ Below w.heap.size w wr) (fun i _ => 512 - (intOf i).toNat)
  case atStart => exact ⟨0, Nat.zero_le _, rfl, by simpa using hz, hb1⟩
  case round =>
    obtain ⟨j, hj, rfl, hr, hB⟩ := hrel
    by_cases hlt : j < 512
    · have hji : (j : Int) < 512 := by omega
      obtain ⟨v, hv⟩ := getD_full j x hlt
      have k0 : wr.cell? ⟨w.heap.size, j, none⟩ = some v := by simp only [World.cell?, hr]; exact hv
      have f0 : wr.frozen? ⟨w.heap.size, j, none⟩ = false := by simp [World.frozen?, hr]
      have hr2 : (wr.setCell ⟨w.heap.size, j, none⟩ (.int .u8 x)).heap[w.heap.size]? = some (bl (List.replicate (j + 1) x ++ List.replicate (512 - (j + 1)) 0)) := by
        rw [heap_setCell_same _ _ _ _ _ _ hr, set_full j x hlt]
      have hB2 : Below w.heap.size w (wr.setCell ⟨w.heap.size, j, none⟩ (.int .u8 x)) := hB.trans ((Turns.cell wr w.heap.size j (.int .u8 x)).below (fun i e => by omega) hB.size)
      have HR2 : Hid _ := hr2
      clear hr hr2 hv
      go_wp2
      go_roundw
      case rel => exact ⟨j + 1, by omega, by go_num, HR2.out, hB2⟩
      case measure => simp [intOf]; omega
    · obtain rfl : j = 512 := by omega
      have hr' : wr.heap[w.heap.size]? = some (bl (List.replicate 512 x)) := by simpa using hr
      clear hr
      go_wp2
      go_ret
      exact ⟨_, rfl, Nat.le_refl _, hr', hB⟩

set_option maxHeartbeats 400000 in
theorem zero_pos (b o c n : Nat) (xs : List Int) (w : World) (hn : n ≤ 200000000000000) (hl : xs.length = n)
    (ha : ∀ t, t < n → w.cell? ⟨b, o + t, none⟩ = some (.int .u8 (xs.getD t 0))) :
    Calls Try.prog 17 #[.slice (some ⟨b, o, none⟩) n c] w fun e w' => e = .returned (.bool (decide (∀ t, t < n → xs.getD t 0 = 0))) ∧ w' = w := by
  have hni : (n : Int) ≤ 200000000000000 := by omega
  go_enter Try.func17, Try.ntmps17
  go_wp2
  go_loopw [3] (fun i wr => ∃ k : Nat, k ≤ n ∧ i = .int .i64 k ∧ wr = w ∧ (∀ t, t < k → xs.getD t 0 = 0)) (fun i _ => n - (intOf i).toNat)
  case atStart => exact ⟨0, Nat.zero_le _, rfl, rfl, fun t ht => by omega⟩
  case round =>
    obtain ⟨k, hk, rfl, hwr, hz⟩ := hrel
    subst wr
    have HZ : Hid (∀ t, t < k → xs.getD t 0 = 0) := hz
    clear hz
    by_cases hlt : k < n
    · have ga := ha k hlt
      have hki : (k : Int) < n := by omega
      clear ha
      by_cases hx : xs.getD k 0 = 0
      · have hxb : (xs.getD k 0 != 0) = false := by simpa using hx
        have HX : Hid (xs.getD k 0 = 0) := hx
        clear hx
        generalize hC : xs.getD k 0 = C at ga hxb
        clear hC
        go_wp2
        go_roundw
        case rel =>
          refine ⟨k + 1, by omega, by go_num, by trivial, fun t ht => ?_⟩
          by_cases h : t < k
          · exact HZ.out t h
          · obtain rfl : t = k := by omega
            exact HX.out
        case measure => simp [intOf]; omega
      · have hxb : (xs.getD k 0 != 0) = true := by simpa using hx
        have HX : Hid (¬ xs.getD k 0 = 0) := hx
        clear hx
        generalize hC : xs.getD k 0 = C at ga hxb
        clear hC
        go_wp2
        go_ret
        refine ⟨?_, rfl⟩
        rw [decide_eq_false (fun h => HX.out (h k hlt))]
        rfl
    · have hki : (n : Int) ≤ k := by omega
      clear ha
      go_wp2
      go_ret
      refine ⟨?_, rfl⟩
      rw [decide_eq_true (fun t ht => HZ.out t (by omega))]
      rfl

set_option maxHeartbeats 400000 in
theorem zero_nil (ao : Option Addr) (c : Nat) (w : World) :
    Calls Try.prog 17 #[.slice ao 0 c] w fun e w' => e = .returned (.bool true) ∧ w' = w := by
  go_enter Try.func17, Try.ntmps17
  go_wp2
  refine wp_loop_rounds 1 ?_
  rw [rounds_succ]
  go_wp2
  go_ret
  exact ⟨rfl, rfl⟩

/-- AllZero, of any list. -/
theorem zero_any (ao : Option Addr) (n c : Nat) (xs : List Int) (w : World) (hn : n ≤ 200000000000000) (hL : Lies w ao n c xs) :
    Calls Try.prog 17 #[.slice ao n c] w fun e w' => e = .returned (.bool (decide (∀ t, t < n → xs.getD t 0 = 0))) ∧ w' = w := by
  by_cases h0 : 0 < n
  · obtain ⟨b, o, rfl, hc⟩ := hL.at h0
    exact zero_pos b o c n xs w hn hL.hlen hc
  · obtain rfl : n = 0 := by omega
    refine (zero_nil ao c w).mono ?_
    rintro e w' ⟨rfl, rfl⟩
    exact ⟨by simp, rfl⟩

/-- The slice reads as these writes. -/
structure PRead (w : World) (ao : Option Addr) (n : Nat) (ps : List (Nat × List Int)) : Prop where
  len : ps.length = n
  at_ : ∀ (j : Nat) (p : Nat × List Int), ps[j]? = some p → ∃ G da m mc, ao = some ⟨G, 0, none⟩ ∧ w.cell? ⟨G, j * 2, none⟩ = some (.int .i64 p.1) ∧ w.cell? ⟨G, j * 2 + 1, none⟩ = some (.slice da m mc) ∧ Lies w da m mc p.2 ∧ m ≤ 200000000000000
theorem PRead.drewN {w : World} {ao : Option Addr} {n : Nat} {ps : List (Nat × List Int)} (h : PRead w ao n ps) (m : Nat) : PRead (w.drewN m) ao n ps :=
  ⟨h.len, fun j p hp => by
    obtain ⟨G, da, m', mc, e, h1, h2, h3, h4⟩ := h.at_ j p hp
    exact ⟨G, da, m', mc, e, h1, h2, ⟨h3.hlen, h3.hle, h3.hnone, h3.hcells⟩, h4⟩⟩
theorem PList.read {w : World} {G : Nat} {gs : List Nat} {ps : List (Nat × List Int)} {n : Nat} (h : PList w G gs ps) (hn : ps.length = n) (hd : ∀ p ∈ ps, p.2.length = 512) : PRead w (some ⟨G, 0, none⟩) n ps :=
  ⟨hn, fun j p hp => by
    have hj := (List.getElem?_eq_some_iff.1 hp).1
    have hg : gs[j]? = some (gs[j]'(by rw [h.len]; exact hj)) := List.getElem?_eq_getElem _
    obtain ⟨e1, e2⟩ := pc_at _ _ j p _ hp hg
    refine ⟨G, _, 512, 512, rfl, ?_, ?_, Lies.full (h.dat j p _ hp hg) (hd p (List.mem_of_getElem? hp)), by omega⟩
    · simp only [World.cell?, h.row]; simpa using e1
    · simp only [World.cell?, h.row]; simpa using e2⟩
theorem take_both2 {α : Type} {xs ys : List α} {k : Nat} {x y : α} (ht : xs.take k = ys.take k) (h1 : xs[k]? = some x) (h2 : ys[k]? = some y) (h : x = y) : xs.take (k + 1) = ys.take (k + 1) := by
  obtain ⟨l1, e1⟩ := List.getElem?_eq_some_iff.1 h1
  obtain ⟨l2, e2⟩ := List.getElem?_eq_some_iff.1 h2
  rw [List.take_succ_eq_append_getElem l1, List.take_succ_eq_append_getElem l2, ht, e1, e2, h]

set_option maxHeartbeats 1000000 in
theorem samePend_len (ao bo : Option Addr) (n m c1 c2 : Nat) (w : World) (hne : ¬ n = m) :
    Calls Try.prog 30 #[.slice ao n c1, .slice bo m c2] w fun e w' => e = .returned (.bool false) ∧ w' = w := by
  have h : ((n : Int) != (m : Int)) = true := by simp; omega
  go_enter Try.func30, Try.ntmps30
  go_wp2
  go_ret
  exact ⟨rfl, rfl⟩

set_option maxHeartbeats 2000000 in
theorem samePend_any (ao bo : Option Addr) (n c1 c2 : Nat) (ps qs : List (Nat × List Int)) (w : World) (hn : n ≤ 1099511627776) (hA : PRead w ao n ps) (hB : PRead w bo n qs) :
    Calls Try.prog 30 #[.slice ao n c1, .slice bo n c2] w fun e w' => e = .returned (.bool (decide (ps = qs))) ∧ ∃ m, w' = w.drewN m := by
  have hni : (n : Int) ≤ 1099511627776 := by omega
  go_enter Try.func30, Try.ntmps30
  go_wp2
  go_loopw [5] (fun i wr => ∃ k m : Nat, k ≤ n ∧ i = .int .i64 k ∧ wr = w.drewN m ∧ ps.take k = qs.take k) (fun i _ => n - (intOf i).toNat)
  case atStart => exact ⟨0, 0, Nat.zero_le _, rfl, rfl, by simp⟩
  case round =>
    obtain ⟨j, m, hj, rfl, rfl, ht⟩ := hrel
    have HT : Hid (ps.take j = qs.take j) := ht
    clear ht
    by_cases hlt : j < n
    · obtain ⟨p, hp⟩ : ∃ p, ps[j]? = some p := ⟨_, List.getElem?_eq_getElem (by rw [hA.len]; exact hlt)⟩
      obtain ⟨q, hq⟩ : ∃ q, qs[j]? = some q := ⟨_, List.getElem?_eq_getElem (by rw [hB.len]; exact hlt)⟩
      obtain ⟨G1, d1, m1, k1, rfl, a0, a1, aL, am⟩ := hA.at_ j p hp
      obtain ⟨G2, d2, m2, k2, rfl, b0, b1, bL, bm⟩ := hB.at_ j q hq
      have hji : (j : Int) < n := by omega
      have HS : Hid (∀ W : World, (∀ a, W.cell? a = w.cell? a) → Calls Try.prog 19 #[.slice d1 m1 k1, .slice d2 m2 k2] W fun e w' => e = .returned (.bool (decide (p.2 = q.2))) ∧ ∃ m, w' = W.drewN m) := fun W hW => same_any d1 d2 m1 m2 k1 k2 p.2 q.2 _ am ⟨aL.hlen, aL.hle, aL.hnone, fun ad had t u hu => (hW _).trans (aL.hcells ad had t u hu)⟩ ⟨bL.hlen, bL.hle, bL.hnone, fun ad had t u hu => (hW _).trans (bL.hcells ad had t u hu)⟩
      have HY : Hid (p = q → ps.take (j + 1) = qs.take (j + 1)) := fun e => take_both2 HT.out hp hq e
      have HN : Hid (¬ p = q → ¬ ps = qs) := fun h e => h (by rw [e, hq] at hp; exact (Option.some.inj hp).symm)
      clear hA hB hp hq aL bL
      obtain ⟨pb, pd⟩ := p
      obtain ⟨qb, qd⟩ := q
      simp only at a0 b0
      by_cases hd : pd = qd
      · have e1 : decide (pd = qd) = true := by simpa using hd
        simp only [e1] at HS
        by_cases hb : pb = qb
        · subst hd; subst hb
          have HY' : Hid (ps.take (j + 1) = qs.take (j + 1)) := HY.out rfl
          clear HY HN e1
          go_wp2_with fail
          go_quiet (first | (go_at_call 19; refine (HS.out _ ?_).mono ?_; exact fun _ => rfl; rintro e w4 ⟨rfl, t, rfl⟩; exact ⟨rfl, _, by rw [World.drewN_drewN, Nat.add_assoc]⟩))
          go_wp2_with fail
          go_quiet (fail)
          go_wp2
          go_roundw
          case rel => exact ⟨j + 1, _, by omega, by go_num, rfl, HY'.out⟩
          case measure => simp [intOf]; omega
        · have hbi : ((pb : Int) != (qb : Int)) = true := by simp; omega
          have hne := HN.out (fun e => hb (by cases e; rfl))
          clear HY HN e1
          go_wp2_with fail
          go_quiet (first | (go_at_call 19; refine (HS.out _ ?_).mono ?_; exact fun _ => rfl; rintro e w4 ⟨rfl, t, rfl⟩; exact ⟨rfl, _, by rw [World.drewN_drewN, Nat.add_assoc]⟩))
          go_wp2_with fail
          go_quiet (fail)
          go_wp2
          go_ret
          exact ⟨by rw [decide_eq_false hne]; rfl, _, by rw [World.drewN_drewN, World.drewN_drewN]⟩
      · have e1 : decide (pd = qd) = false := by simpa using hd
        simp only [e1] at HS
        have hne := HN.out (fun e => hd (by cases e; rfl))
        clear HY HN e1
        go_wp2_with fail
        go_quiet (first | (go_at_call 19; refine (HS.out _ ?_).mono ?_; exact fun _ => rfl; rintro e w4 ⟨rfl, t, rfl⟩; exact ⟨rfl, _, by rw [World.drewN_drewN, Nat.add_assoc]⟩))
        go_wp2_with fail
        go_quiet (fail)
        go_wp2
        go_ret
        exact ⟨by rw [decide_eq_false hne]; rfl, _, by rw [World.drewN_drewN, World.drewN_drewN]⟩
    · have e1 : ps = qs := by
        have := HT.out
        rwa [List.take_of_length_le (by rw [hA.len]; omega), List.take_of_length_le (by rw [hB.len]; omega)] at this
      clear hA hB
      go_wp2
      go_ret
      exact ⟨by simp [e1], m, rfl⟩
end Go.Proofs.Ytejfbjjhnhlagaa
