/- annexlaw1.back by its contracts. -/
import Derived.Test.YtjpaooejkbkliaaDoorBackMath
import Derived.Deep.RegionWith
namespace Go.Proofs.YtjpaooejkbkliaaDoor
open Go.RowKit
set_option maxRecDepth 100000

abbrev itemW (w : World) (K X S : Int) (bo : Option Addr) (dl dc : Nat) : World := (w.alloc (.cells #[.int .i64 K, .int .i64 X, .int .u64 S, .slice bo dl dc] 32)).drew
theorem itemW_grown (w : World) (K X S : Int) (bo : Option Addr) (dl dc : Nat) (row : Option Nat) : w.grownBy (itemW w K X S bo dl dc) row := grown_trans (World.grownBy_alloc w _ row) (grown_drew _ _)

theorem Lies.grownIf {w w' : World} {row : Option Nat} {ao : Option Addr} {len cap : Nat} {bs : List Int} (h : Lies w ao len cap bs) (hg : w.grownBy w' row) (hne : ∀ ad, ao = some ad → 0 < len → some ad.block ≠ row) : Lies w' ao len cap bs :=
  ⟨h.hlen, h.hle, h.hnone, fun ad had t u hu => hg.cell (h.hcells ad had t u hu) (by
    rw [add_block]
    refine hne ad had ?_
    have := (List.getElem?_eq_some_iff.1 hu).1
    have hl := h.hlen
    simp at this
    omega)⟩
theorem Lies.blk {w : World} {ao : Option Addr} {len cap : Nat} {bs : List Int} (h : Lies w ao len cap bs) (ad : Addr) (had : ao = some ad) (h0 : 0 < len) : ad.block < w.heap.size := by
  have hc := h.hcells ad had 0 (.int .u8 (bs.getD 0 0)) (by
    have hl := h.hlen
    simp [List.getD, show 0 < bs.length by omega])
  have := World.block_lt_of_cell? _ _ hc
  rwa [add_block] at this

/-- A cell of the boxed field, behind a call at the reader. -/
theorem item_cell {w w3 : World} {rb : Nat} {K X S : Int} {bo : Option Addr} {dl dc : Nat} (hg : (itemW w K X S bo dl dc).grownBy w3 (some rb)) (hrb : rb < w.heap.size) (o : Nat) (v : Value) (hv : (#[Value.int .i64 K, .int .i64 X, .int .u64 S, .slice bo dl dc] : Array Value)[o]? = some v) : w3.cell? ⟨w.heap.size, o, none⟩ = some v := by
  refine hg.cell (a := ⟨w.heap.size, o, none⟩) ?_ (by simp; omega)
  show (w.alloc _).cell? _ = _
  rw [World.cell?_alloc_at _ _ _ _ rfl]; exact hv

set_option maxHeartbeats 400000 in
theorem back_1 (rb g n cap p' : Nat) (c' r : Int) (bs : List Int) (X S : Int) (bo : Option Addr) (dl dc : Nat) (w : World) (hrb : rb < w.heap.size)
    (hC : Calls Tryd.prog 14 #[.pointer (some ⟨rb, 0, none⟩), .int .i64 X] (itemW w 1 X S bo dl dc) fun e w' => e = .returned (.int .i64 r) ∧ Went (itemW w 1 X S bo dl dc) w' rb g n cap p' c' bs) :
    Calls Tryd.prog 27 #[.pointer (some ⟨rb, 0, none⟩), itemV 1 X S bo dl dc] w fun e w' => e = .returned (.bool (r == X)) ∧ Went w w' rb g n cap p' c' bs := by
  go_enter Tryd.func27, Tryd.ntmps27
  go_wp2
  go_region_with (go_at_call 14; refine hC.mono ?_; rintro e w3 ⟨rfl, hR3, hg3⟩; have cx := item_cell hg3 hrb 1 _ rfl)
  all_goals (try go_wp2)
  all_goals (go_ret; exact ⟨rfl, hR3, grown_trans (itemW_grown _ _ _ _ _ _ _ _) hg3⟩)

set_option maxHeartbeats 400000 in
theorem back_2 (rb g n cap p' : Nat) (c' r : Int) (bs : List Int) (X S : Int) (bo : Option Addr) (dl dc : Nat) (w : World) (hrb : rb < w.heap.size)
    (hC : Calls Tryd.prog 15 #[.pointer (some ⟨rb, 0, none⟩), .int .i64 X] (itemW w 2 X S bo dl dc) fun e w' => e = .returned (.int .i64 r) ∧ Went (itemW w 2 X S bo dl dc) w' rb g n cap p' c' bs) :
    Calls Tryd.prog 27 #[.pointer (some ⟨rb, 0, none⟩), itemV 2 X S bo dl dc] w fun e w' => e = .returned (.bool (r == X)) ∧ Went w w' rb g n cap p' c' bs := by
  go_enter Tryd.func27, Tryd.ntmps27
  go_wp2
  go_region_with (go_at_call 15; refine hC.mono ?_; rintro e w3 ⟨rfl, hR3, hg3⟩; have cx := item_cell hg3 hrb 1 _ rfl)
  all_goals (try go_wp2)
  all_goals (go_ret; exact ⟨rfl, hR3, grown_trans (itemW_grown _ _ _ _ _ _ _ _) hg3⟩)

set_option maxHeartbeats 400000 in
theorem back_3 (rb g n cap p' : Nat) (c' r : Int) (bs : List Int) (X S : Int) (bo : Option Addr) (dl dc : Nat) (w : World) (hrb : rb < w.heap.size)
    (hC : Calls Tryd.prog 16 #[.pointer (some ⟨rb, 0, none⟩)] (itemW w 3 X S bo dl dc) fun e w' => e = .returned (.int .u64 r) ∧ Went (itemW w 3 X S bo dl dc) w' rb g n cap p' c' bs) :
    Calls Tryd.prog 27 #[.pointer (some ⟨rb, 0, none⟩), itemV 3 X S bo dl dc] w fun e w' => e = .returned (.bool (r == S)) ∧ Went w w' rb g n cap p' c' bs := by
  go_enter Tryd.func27, Tryd.ntmps27
  go_wp2
  go_region_with (go_at_call 16; refine hC.mono ?_; rintro e w3 ⟨rfl, hR3, hg3⟩; have cx := item_cell hg3 hrb 2 _ rfl)
  all_goals (try go_wp2)
  all_goals (go_ret; exact ⟨rfl, hR3, grown_trans (itemW_grown _ _ _ _ _ _ _ _) hg3⟩)

set_option maxHeartbeats 1000000 in
theorem back_4 (rb g n cap p' : Nat) (c' : Int) (bs L : List Int) (X S : Int) (bo : Option Addr) (dl dc : Nat) (ds : List Int) (w : World) (hrb : rb < w.heap.size) (hD : Lies w bo dl dc ds) (hne : ∀ ad, bo = some ad → 0 < dl → ad.block ≠ rb)
    (hC : Calls Tryd.prog 17 #[.pointer (some ⟨rb, 0, none⟩), .int .i64 dl] (itemW w 4 X S bo dl dc) fun e w' => e = .returned (.string (txt L)) ∧ Went (itemW w 4 X S bo dl dc) w' rb g n cap p' c' bs) :
    Calls Tryd.prog 27 #[.pointer (some ⟨rb, 0, none⟩), itemV 4 X S bo dl dc] w fun e w' => e = .returned (.bool ((txt L).toList == (txt ds).toList)) ∧ Went w w' rb g n cap p' c' bs := by
  have hDI : Lies (itemW w 4 X S bo dl dc) bo dl dc ds := hD.grown (itemW_grown _ _ _ _ _ _ _ none) (fun _ _ => by simp)
  have hcv0 := run_string_any _ bo dl dc ds hDI
  go_enter Tryd.func27, Tryd.ntmps27
  go_wp2
  go_region_with (go_at_call 17; refine hC.mono ?_; rintro e w3 ⟨rfl, hR3, hg3⟩; have cx := item_cell hg3 hrb 3 _ rfl; have hcv3 := run_string_any w3 bo dl dc ds (hDI.grownIf hg3 (fun ad had h0 => by simpa using hne ad had h0)))
  all_goals (try go_wp2)
  all_goals (go_ret; exact ⟨rfl, hR3, grown_trans (itemW_grown _ _ _ _ _ _ _ _) hg3⟩)

set_option maxHeartbeats 1000000 in
theorem back_5 (rb g n cap p' : Nat) (c' : Int) (bs L : List Int) (K X S : Int) (bo : Option Addr) (dl dc : Nat) (ds : List Int) (w : World) (h1 : (K == 1) = false) (h2 : (K == 2) = false) (h3 : (K == 3) = false) (h4 : (K == 4) = false) (hrb : rb < w.heap.size) (hLl : L.length ≤ 200000000000000) (hD : Lies w bo dl dc ds) (hne : ∀ ad, bo = some ad → 0 < dl → ad.block ≠ rb)
    (hC : Calls Tryd.prog 18 #[.pointer (some ⟨rb, 0, none⟩), .int .i64 dl] (itemW w K X S bo dl dc) fun e w' => Handed (itemW w K X S bo dl dc) e w' L ∧ Went (itemW w K X S bo dl dc) w' rb g n cap p' c' bs) :
    Calls Tryd.prog 27 #[.pointer (some ⟨rb, 0, none⟩), itemV K X S bo dl dc] w fun e w' => e = .returned (.bool (decide (L = ds))) ∧ Went w w' rb g n cap p' c' bs := by
  have hDI : Lies (itemW w K X S bo dl dc) bo dl dc ds := hD.grown (itemW_grown _ _ _ _ _ _ _ none) (fun _ _ => by simp)
  go_enter Tryd.func27, Tryd.ntmps27
  go_wp2
  go_region_with (first
    | (go_at_call 18; refine hC.mono ?_; rintro e w3 ⟨⟨b5, d5, rfl, hown5⟩, hR3, hg3⟩; have cx := item_cell hg3 hrb 3 _ rfl)
    | (go_at_call 23; refine (same_any _ _ _ _ _ _ L ds _ hLl (Lies.owned hown5) (hDI.grownIf hg3 (fun ad had h0 => by simpa using hne ad had h0))).mono ?_; rintro e w4 ⟨rfl, m4, hw4⟩; subst w4))
  all_goals (try go_wp2)
  all_goals (go_ret; exact ⟨rfl, hR3.drewN _, grown_trans (grown_trans (itemW_grown _ _ _ _ _ _ _ _) hg3) (grown_drewN _ _ _)⟩)
end Go.Proofs.YtjpaooejkbkliaaDoor
