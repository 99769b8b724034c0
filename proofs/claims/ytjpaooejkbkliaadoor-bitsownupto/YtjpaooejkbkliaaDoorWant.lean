/- annexref1's Puts, annexlaw1.want and annexlaw1.room by their contracts. -/
import Derived.Test.YtjpaooejkbkliaaDoorRef
import Derived.Test.YtjpaooejkbkliaaDoorAll
namespace Go.Proofs.YtjpaooejkbkliaaDoor
open Go.RowKit
set_option maxRecDepth 100000

theorem Fresh.later {w w1 w' : World} {e : Ending} {n : Nat} {bs : List Int} (hb : Below w.heap.size w w1) (h : Fresh w1 e w' n bs) : Fresh w e w' n bs := by
  obtain ⟨ao, c, h1, h2, h3⟩ := h
  exact ⟨ao, c, h1, ownsRow_mono h2 hb.size, hb.trans (h3.mono hb.size)⟩

set_option maxHeartbeats 400000 in
theorem refSum (ao : Option Addr) (n cap : Nat) (xs : List Int) (S : Int) (w : World) (hs0 : 0 ≤ S) (hs1 : S ≤ 18446744073709551615) (hn : n ≤ 268435456) (hA : Lies w ao n cap xs) :
    Calls Tryd.prog 52 #[.slice ao n cap, .int .u64 S] w fun e w' => Fresh w e w' (n + 8) (xs ++ be S 8) := by
  go_enter Tryd.func52, Tryd.ntmps52
  go_wp2_with fail
  refine (digits61 S 8 _ (by omega) (by omega) hs0 hs1).mono ?_
  rintro e w1 ⟨g, c, rfl, ho1, hb1⟩
  go_wp2_with fail
  refine (join_any ao _ n cap 8 c xs _ w1 hn (by omega) (hA.below hb1 (Nat.le_refl _)) (Lies.own ho1)).mono ?_
  rintro e w2 ⟨a2, c2, rfl, ho2, hb2⟩
  go_wp2
  go_ret
  exact Fresh.later hb1 ⟨a2, c2, rfl, ho2, hb2⟩

set_option maxHeartbeats 400000 in
theorem ref32 (ao : Option Addr) (n cap : Nat) (xs : List Int) (X : Int) (w : World) (hn : n ≤ 268435456) (hA : Lies w ao n cap xs) :
    Calls Tryd.prog 50 #[.slice ao n cap, .int .i64 X] w fun e w' => Fresh w e w' (n + 4) (xs ++ be (IntKind.u64.wrap X) 4) := by
  go_enter Tryd.func50, Tryd.ntmps50
  go_wp2_with fail
  refine (digits61 (IntKind.u64.wrap X) 4 _ (by omega) (by omega) (u64_wrap_bd X).1 (u64_wrap_bd X).2).mono ?_
  rintro e w1 ⟨g, c, rfl, ho1, hb1⟩
  go_wp2_with fail
  refine (join_any ao _ n cap 4 c xs _ w1 hn (by omega) (hA.below hb1 (Nat.le_refl _)) (Lies.own ho1)).mono ?_
  rintro e w2 ⟨a2, c2, rfl, ho2, hb2⟩
  go_wp2
  go_ret
  exact Fresh.later hb1 ⟨a2, c2, rfl, ho2, hb2⟩

set_option maxHeartbeats 400000 in
theorem ref64 (ao : Option Addr) (n cap : Nat) (xs : List Int) (X : Int) (w : World) (hn : n ≤ 268435456) (hA : Lies w ao n cap xs) :
    Calls Tryd.prog 51 #[.slice ao n cap, .int .i64 X] w fun e w' => Fresh w e w' (n + 8) (xs ++ be (IntKind.u64.wrap X) 8) := by
  go_enter Tryd.func51, Tryd.ntmps51
  go_wp2_with fail
  refine (digits61 (IntKind.u64.wrap X) 8 _ (by omega) (by omega) (u64_wrap_bd X).1 (u64_wrap_bd X).2).mono ?_
  rintro e w1 ⟨g, c, rfl, ho1, hb1⟩
  go_wp2_with fail
  refine (join_any ao _ n cap 8 c xs _ w1 hn (by omega) (hA.below hb1 (Nat.le_refl _)) (Lies.own ho1)).mono ?_
  rintro e w2 ⟨a2, c2, rfl, ho2, hb2⟩
  go_wp2
  go_ret
  exact Fresh.later hb1 ⟨a2, c2, rfl, ho2, hb2⟩

theorem wrap_nat (n : Nat) (h : n ≤ 268435456) : IntKind.u64.wrap (n : Int) = n := by
  simp [IntKind.wrap_u64]; omega
theorem rem_zero (n j : Nat) (hj : j ≤ padN n) : ((n + j) % 4 = 0 ↔ j = padN n) := by
  unfold padN at *; omega

set_option maxHeartbeats 400000 in
theorem refBytes (ao : Option Addr) (n cap : Nat) (xs : List Int) (bo : Option Addr) (dl dc : Nat) (ds : List Int) (w : World) (hn : n + 4 ≤ 268435456) (hd : n + dl + 4 ≤ 268435456) (hA : Lies w ao n cap xs) (hD : Lies w bo dl dc ds) :
    Calls Tryd.prog 54 #[.slice ao n cap, .slice bo dl dc] w fun e w' => Fresh w e w' (n + (4 + dl + padN dl)) (xs ++ (be dl 4 ++ ds ++ List.replicate (padN dl) 0)) := by
  obtain ⟨i0, hi, hz0, hz1, hz2⟩ := info_parts Tryd.info5
  have hdi : (dl : Int) ≤ 268435456 := by omega
  have hpl := padN_le dl
  go_enter Tryd.func54, Tryd.ntmps54
  go_wp2_with fail
  refine (ref32 ao n cap xs dl _ (by omega) hA).mono ?_
  rintro e w1 ⟨a1, c1, rfl, ho1, hb1⟩
  go_wp2_with fail
  refine (join_any a1 bo (n + 4) c1 dl dc _ ds w1 hn (by omega) (Lies.owned ho1) (hD.below hb1 (Nat.le_refl _))).mono ?_
  rintro e w2 ⟨a2, c2, rfl, ho2, hb2⟩
  rw [wrap_nat dl (by omega)] at ho2
  have hb12 : Below w.heap.size w w2 := hb1.trans (hb2.mono hb1.size)
  have ho12 := ownsRow_mono ho2 hb1.size
  clear ho1 ho2 hb1 hb2
  go_wp2
  go_loopw [5, 6] (fun v i wr => ∃ j : Nat, j ≤ padN dl ∧ i = .int .i64 ((dl + j : Nat) : Int) ∧ wr.ownsRow w.heap.size 5 1 v (n + 4 + dl + j) ((xs ++ be dl 4 ++ ds ++ List.replicate j (0 : Int)).map (Value.int .u8)) ∧ Below w.heap.size w wr) (fun _ i _ => dl + padN dl - (intOf i).toNat)
  case atStart => exact ⟨0, Nat.zero_le _, rfl, by simpa using ho12, hb12⟩
  case round =>
    obtain ⟨j, hj, rfl, hown, hb⟩ := hrel
    clear ho12 hb12
    have hr := rem_zero dl j hj
    by_cases hlt : j < padN dl
    · have hne : ¬ ((dl + j : Nat) : Int) % 4 = 0 := by omega
      have hneb : (((dl + j : Nat) : Int) % 4 != 0) = true := by simpa using hne
      have hji : ((dl + j : Nat) : Int) ≤ 268435460 := by omega
      clear hr hne
      generalize hz : dl + j = z at *
      go_wp2_with (at_builtin; refine wpList_append_own _ rfl (.tmp 21) (.tmp 22) 24 rfl w.heap.size 5 i0 (.int .u8 0) 1 1 Tryd.underlying24 hi hz0 hz1 hz2 rfl (by decide) _ _ _ rfl (hown.alloc _) ⟨wr.heap.size, 0, none⟩ 1 1 [.int .u8 0] rfl rfl (cell_one_new _ _ _) (by intro u hu; simp at hu; subst hu; rfl) (by unfold maxLen; omega) (by omega) (by have := hb.size; simp; omega) ?_; intro v' w1 hown1 hgrow1 hnil1)
      go_roundw
      case rel =>
        refine ⟨j + 1, by omega, by subst hz; go_num, ?_, ?_⟩
        · rw [List.replicate_succ', ← List.append_assoc, List.map_append, ← Nat.add_assoc]; simpa using hown1
        · exact (hb.alloc hb.size _).grown hgrow1 (by simp; have := hb.size; omega) (fun k hk => (hown.lt k hk).1)
      case measure => simp [intOf]; omega
    · have hne : ((dl + j : Nat) : Int) % 4 = 0 := by omega
      clear hr
      go_wp2
      go_ret
      obtain rfl : j = padN dl := by omega
      obtain ⟨a3, c3, rfl⟩ := own_len hown
      refine ⟨a3, c3, ?_, ?_, hb⟩
      · rw [← Nat.add_assoc, ← Nat.add_assoc]; rfl
      · rw [← Nat.add_assoc, ← Nat.add_assoc, ← List.append_assoc, ← List.append_assoc]; exact hown

set_option maxHeartbeats 400000 in
theorem refText (ao : Option Addr) (n cap : Nat) (xs : List Int) (s : ByteArray) (w : World) (hd : n + s.size + 4 ≤ 268435456) (hA : Lies w ao n cap xs) :
    Calls Tryd.prog 53 #[.slice ao n cap, .string s] w fun e w' => Fresh w e w' (n + (4 + s.size + padN s.size)) (xs ++ (be s.size 4 ++ nums s ++ List.replicate (padN s.size) 0)) := by
  have hcv := Lib.run_convert_string_bytes (P := Tryd.prog) w 9 24 5 s Tryd.underlying9 Tryd.underlying24 Tryd.underlying5
  have hb0 := bytesWorld_below w s
  go_enter Tryd.func53, Tryd.ntmps53
  go_wp2_with (go_at_call 54; refine (refBytes ao n cap xs _ _ _ (nums s) _ (by omega) hd (hA.below hb0 (Nat.le_refl _)) (bytesWorld_lies w s)).mono ?_; rintro e w1 ⟨a1, c1, rfl, hown, hb⟩)
  go_ret
  have hz : w.heap.size ≤ (Lib.bytesWorld w 5 s).heap.size := hb0.size
  exact ⟨a1, c1, rfl, ownsRow_mono hown hz, hb0.trans (hb.mono hz)⟩

theorem Fresh.of_box {w w' : World} {e : Ending} {n : Nat} {bs : List Int} (C : Array Value) (t : TypeId) (h : Fresh (w.alloc (.cells C t)) e w' n bs) : Fresh w e w' n bs :=
  Fresh.later ((Below.refl _ _).alloc (Nat.le_refl _) _) h

set_option maxHeartbeats 400000 in
theorem want_1 (ao : Option Addr) (len cap : Nat) (bs : List Int) (X S : Int) (bo : Option Addr) (dl dc : Nat) (w : World) (hbd : len ≤ 268435456) (hL : Lies w ao len cap bs) :
    Calls Tryd.prog 31 #[.slice ao len cap, itemV 1 X S bo dl dc] w fun e w' => Fresh w e w' (len + 4) (bs ++ be (IntKind.u64.wrap X) 4) := by
  go_enter Tryd.func31, Tryd.ntmps31
  go_wp2_with (go_at_call 50; refine (ref32 ao len cap bs X _ hbd (hL.boxed _)).mono ?_; rintro e w1 ⟨a1, cap1, rfl, hown, hb⟩)
  go_ret
  exact Fresh.of_box _ _ ⟨a1, cap1, rfl, hown, hb⟩

set_option maxHeartbeats 400000 in
theorem want_2 (ao : Option Addr) (len cap : Nat) (bs : List Int) (X S : Int) (bo : Option Addr) (dl dc : Nat) (w : World) (hbd : len ≤ 268435456) (hL : Lies w ao len cap bs) :
    Calls Tryd.prog 31 #[.slice ao len cap, itemV 2 X S bo dl dc] w fun e w' => Fresh w e w' (len + 8) (bs ++ be (IntKind.u64.wrap X) 8) := by
  go_enter Tryd.func31, Tryd.ntmps31
  go_wp2_with (go_at_call 51; refine (ref64 ao len cap bs X _ hbd (hL.boxed _)).mono ?_; rintro e w1 ⟨a1, cap1, rfl, hown, hb⟩)
  go_ret
  exact Fresh.of_box _ _ ⟨a1, cap1, rfl, hown, hb⟩

set_option maxHeartbeats 400000 in
theorem want_3 (ao : Option Addr) (len cap : Nat) (bs : List Int) (X S : Int) (bo : Option Addr) (dl dc : Nat) (w : World) (hs0 : 0 ≤ S) (hs1 : S ≤ 18446744073709551615) (hbd : len ≤ 268435456) (hL : Lies w ao len cap bs) :
    Calls Tryd.prog 31 #[.slice ao len cap, itemV 3 X S bo dl dc] w fun e w' => Fresh w e w' (len + 8) (bs ++ be S 8) := by
  go_enter Tryd.func31, Tryd.ntmps31
  go_wp2_with (go_at_call 52; refine (refSum ao len cap bs S _ hs0 hs1 hbd (hL.boxed _)).mono ?_; rintro e w1 ⟨a1, cap1, rfl, hown, hb⟩)
  go_ret
  exact Fresh.of_box _ _ ⟨a1, cap1, rfl, hown, hb⟩

set_option maxHeartbeats 400000 in
theorem want_4 (ao : Option Addr) (len cap : Nat) (bs : List Int) (X S : Int) (bo : Option Addr) (dl dc : Nat) (ds : List Int) (w : World) (hbd : len + dl + 4 ≤ 268435456) (hL : Lies w ao len cap bs) (hD : Lies w bo dl dc ds) (hby : ∀ x ∈ ds, 0 ≤ x ∧ x ≤ 255) :
    Calls Tryd.prog 31 #[.slice ao len cap, itemV 4 X S bo dl dc] w fun e w' => Fresh w e w' (len + (4 + dl + padN dl)) (bs ++ (be dl 4 ++ ds ++ List.replicate (padN dl) 0)) := by
  have hcv := run_string_any _ bo dl dc ds (hD.boxed (.cells #[.int .i64 4, .int .i64 X, .int .u64 S, .slice bo dl dc] 32))
  have hsz : (txt ds).size = dl := by rw [txt_size, hD.hlen]
  have hP := refText ao len cap bs (txt ds) _ (by rw [hsz]; omega) (hL.boxed (.cells #[.int .i64 4, .int .i64 X, .int .u64 S, .slice bo dl dc] 32))
  rw [hsz, nums_txt ds hby] at hP
  clear hsz
  go_enter Tryd.func31, Tryd.ntmps31
  go_wp2_with (go_at_call 53; refine hP.mono ?_; rintro e w1 ⟨a1, cap1, rfl, hown, hb⟩)
  go_ret
  exact Fresh.of_box _ _ ⟨a1, cap1, rfl, hown, hb⟩

set_option maxHeartbeats 400000 in
theorem want_5 (ao : Option Addr) (len cap : Nat) (bs : List Int) (X S : Int) (bo : Option Addr) (dl dc : Nat) (ds : List Int) (w : World) (hbd : len + dl + 4 ≤ 268435456) (hL : Lies w ao len cap bs) (hD : Lies w bo dl dc ds) :
    Calls Tryd.prog 31 #[.slice ao len cap, itemV 5 X S bo dl dc] w fun e w' => Fresh w e w' (len + (4 + dl + padN dl)) (bs ++ (be dl 4 ++ ds ++ List.replicate (padN dl) 0)) := by
  go_enter Tryd.func31, Tryd.ntmps31
  go_wp2_with (go_at_call 54; refine (refBytes ao len cap bs bo dl dc ds _ (by omega) hbd (hL.boxed _) (hD.boxed _)).mono ?_; rintro e w1 ⟨a1, cap1, rfl, hown, hb⟩)
  go_ret
  exact Fresh.of_box _ _ ⟨a1, cap1, rfl, hown, hb⟩

set_option maxHeartbeats 400000 in
theorem want_0 (ao : Option Addr) (len cap : Nat) (bs : List Int) (K X S : Int) (bo : Option Addr) (dl dc : Nat) (w : World) (hbd : len ≤ 268435456) (hL : Lies w ao len cap bs) (h1 : (K == 1) = false) (h2 : (K == 2) = false) (h3 : (K == 3) = false) (h4 : (K == 4) = false) (h5 : (K == 5) = false) :
    Calls Tryd.prog 31 #[.slice ao len cap, itemV K X S bo dl dc] w fun e w' => Fresh w e w' len bs := by
  go_enter Tryd.func31, Tryd.ntmps31
  go_wp2_with (go_at_call 29; refine (bytes29_any ao len cap bs _ (by omega) (hL.boxed _)).mono ?_; rintro e w1 ⟨g, cap1, rfl, hown, hb⟩)
  go_ret
  exact Fresh.of_box _ _ ⟨g, cap1, rfl, hown, hb⟩

theorem want_any (ao : Option Addr) (len cap : Nat) (bs : List Int) (K X S : Int) (bo : Option Addr) (dl dc : Nat) (ds : List Int) (w : World) (hs0 : 0 ≤ S) (hs1 : S ≤ 18446744073709551615) (hbd : len + dl + 4 ≤ 268435456) (hL : Lies w ao len cap bs) (hD : Lies w bo dl dc ds) (hby : ∀ x ∈ ds, 0 ≤ x ∧ x ≤ 255) :
    Calls Tryd.prog 31 #[.slice ao len cap, itemV K X S bo dl dc] w fun e w' => Fresh w e w' (len + putN K dl) (bs ++ putL K X S ds) := by
  unfold putN putL
  rw [hD.hlen]
  by_cases h1 : K = 1
  · subst h1
    exact want_1 ao len cap bs X S bo dl dc w (by omega) hL
  by_cases h2 : K = 2
  · subst h2
    exact want_2 ao len cap bs X S bo dl dc w (by omega) hL
  by_cases h3 : K = 3
  · subst h3
    exact want_3 ao len cap bs X S bo dl dc w hs0 hs1 (by omega) hL
  by_cases h4 : K = 4
  · subst h4
    exact want_4 ao len cap bs X S bo dl dc ds w (by omega) hL hD hby
  by_cases h5 : K = 5
  · subst h5
    exact want_5 ao len cap bs X S bo dl dc ds w (by omega) hL hD
  rw [if_neg h1, if_neg h2, if_neg h3, if_neg h4, if_neg h5, if_neg h1, if_neg h2, if_neg h3, if_neg h4, if_neg h5, List.append_nil]
  exact want_0 ao len cap bs K X S bo dl dc w (by omega) hL (by simpa using h1) (by simpa using h2) (by simpa using h3) (by simpa using h4) (by simpa using h5)

/-- The three bytes behind a list. -/
def three : List Int := [161, 162, 163]

set_option maxHeartbeats 400000 in
theorem room30 (ao : Option Addr) (n cap : Nat) (bs : List Int) (w : World) (hn : n ≤ 268435456) (hL : Lies w ao n cap bs) :
    Calls Tryd.prog 30 #[.slice ao n cap] w fun e w' => Made w e w' (n + 3) (bs ++ three) := by
  obtain ⟨i0, hi, hz0, hz1, hz2⟩ := info_parts Tryd.info5
  go_enter Tryd.func30, Tryd.ntmps30
  go_wp2_with fail
  refine (bytes29_any ao n cap bs w (by omega) hL).mono ?_
  rintro e w1 ⟨a1, c1, rfl, hown, hb⟩
  go_wp2_with (at_builtin; refine wpList_append_own _ rfl (.tmp 6) (.tmp 7) 24 rfl w.heap.size 5 i0 (.int .u8 0) 1 1 Tryd.underlying24 hi hz0 hz1 hz2 rfl (by decide) _ _ _ rfl (hown.alloc _) ⟨w1.heap.size, 0, none⟩ 3 3 [.int .u8 161, .int .u8 162, .int .u8 163] rfl rfl (cells_new _ _ _ _ rfl) (by intro u hu; simp at hu; rcases hu with rfl | rfl | rfl <;> rfl) (by unfold maxLen; omega) (by omega) (by have := hb.size; simp; omega) ?_; intro v' w2 hown1 hgrow1 hnil1)
  go_ret
  rcases hown1.2 with ⟨hv, hn0⟩ | ⟨g, cap, cur, hv, r⟩
  · omega
  · subst hv
    exact ⟨g, cap, rfl, by simpa [three] using hown1, (hb.alloc hb.size _).grown hgrow1 (by simp; have := hb.size; omega) (fun k hk => (hown.lt k hk).1)⟩
end Go.Proofs.YtjpaooejkbkliaaDoor
