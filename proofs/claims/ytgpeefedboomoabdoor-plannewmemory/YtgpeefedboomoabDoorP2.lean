/- numbers, parts, inBounds, layOut, leastData by their contracts. -/
import Derived.Test.YtgpeefedboomoabDoorP1
import Derived.Laws.ResultCell
import Derived.BigQuiet
import Derived.Deep.QuietTactic
import Derived.Deep.RegionHeld3
import Derived.Laws.IdiomCopy
namespace Go.Proofs.YtgpeefedboomoabDoor
open Go.RowKit
set_option maxRecDepth 100000

theorem setCells_row (b : Nat) (t : TypeId) : ∀ (vs pre mid : List Value) (w : World), w.heap[b]? = some (.cells (pre ++ mid).toArray t (0, 0)) → mid.length = vs.length → (w.setCells b pre.length vs).heap[b]? = some (.cells (pre ++ vs).toArray t (0, 0))
  | [], pre, mid, w, h, hl => by
    obtain rfl : mid = [] := List.eq_nil_of_length_eq_zero hl
    exact h
  | v :: vs, pre, [], w, h, hl => by simp at hl
  | v :: vs, pre, m :: mid, w, h, hl => by
    have h1 : (w.setCell ⟨b, pre.length, none⟩ v).heap[b]? = some (.cells ((pre ++ [v]) ++ mid).toArray t (0, 0)) := by
      rw [heap_setCell_same w b _ _ t v h]; simp
    have h2 := setCells_row b t vs (pre ++ [v]) mid _ h1 (by simpa using hl)
    simpa [World.setCells] using h2
theorem setCells_below {B : Nat} {a : World} (b : Nat) (hb : B ≤ b) : ∀ (vs : List Value) (o : Nat) {w : World}, Below B a w → Below B a (w.setCells b o vs)
  | [], _, _, h => h
  | v :: vs, o, _, h => setCells_below b hb vs (o + 1) (h.setCell (p := ⟨b, o, none⟩) hb v)
theorem res2 {P : Program} {fn : Func} {p u : Tmp} {ty : TypeId} (h : fn.results = #[.cell p ty, .tmp u]) (tmps : Array Value) (w : World) (g : Nat) (t : TypeId) (cs : Array Value) (fr : Nat × Nat) (d : TypeDesc)
    (hp : tmps.getD p undef = .pointer (some ⟨g, 0, none⟩)) (hg : w.heap[g]? = some (.cells cs t fr))
    (hu : P.underlying ty = some d) (hd : (match d with | .struct _ | .array _ _ => true | _ => false) = true) (hi : (P.info? ty).map (·.size) = some cs.size) :
    (results fn tmps).run P w = .ok (.tuple #[.agg cs, tmps.getD u undef]) w := by
  rw [results_cell_tmp h, hp]
  simp [asAddr, run_loadVar_row w g t ty cs fr d hg hu hd hi, Result.andThen]

theorem heap_new2 (w : World) (p q : Obj) : ((w.alloc p).alloc q).heap[w.heap.size + 1]? = some q := by simpa using heap_alloc_new (w.alloc p) q

set_option maxHeartbeats 1000000 in
theorem numbers_any (s : Shp) (w : World) :
    Calls Tryd.prog 43 #[shV s] w fun e w' => e = .returned (.agg #[.int .i64 s.cl, .int .i64 s.wi, .int .i64 s.pl, .int .i64 s.ca, .int .i64 s.ino, .int .i64 s.qu, .int .i64 s.da, .int .i64 s.jo]) ∧ Below w.heap.size w w' := by
  go_enter Tryd.func43, Tryd.ntmps43
  go_wp2
  refine bodyPost_ret (results_cell_row rfl _ _ (w.heap.size + 1) 76 _ (0, 0) _ rfl (heap_new2 w _ _) Tryd.underlying76 rfl (by kernel_rfl)) rfl ?_
  exact ⟨rfl, (newBox w _).trans ((newBox _ _).mono (by simp))⟩

theorem tdiv_up (n k : Int) (hn : 0 ≤ n) (hk : 0 < k) : (n + k - 1).tdiv k = (n + k - 1) / k := Int.tdiv_eq_ediv_of_nonneg (by omega)
theorem parts_any (n k : Int) (w : World) (hn : 0 ≤ n) (hk : 0 < k) (hn1 : n ≤ 1000000) (hk1 : k ≤ 1000000) :
    Calls Tryd.prog 53 #[.int .i64 n, .int .i64 k] w fun e w' => e = .returned (.int .i64 ((n + k - 1) / k)) ∧ w' = w := by
  have e := tdiv_up n k hn hk
  have b0 : 0 ≤ (n + k - 1) / k := Int.ediv_nonneg (by omega) (by omega)
  have b1 : (n + k - 1) / k ≤ 2000000 := Int.le_trans (Int.ediv_le_self _ (by omega)) (by omega)
  have k0 : (k == 0) = false := by simpa using (by omega : ¬ k = 0)
  go_enter Tryd.func53, Tryd.ntmps53
  go_wp2
  go_ret
  exact ⟨rfl, rfl⟩

set_option maxHeartbeats 1000000 in
theorem leastData_any (s : Shp) (h : InB s) (w : World) :
    Calls Tryd.prog 42 #[shV s] w fun e w' => e = .returned (.int .i64 (leastD s)) ∧ Below w.heap.size w w' := by
  have q0 := h.qu0
  have q1 := h.qu1
  have i0 := h.ino0
  have i1 := h.ino1
  have d0 : 0 ≤ (s.qu + 512 - 1) / 512 := by omega
  have d1 : (s.qu + 512 - 1) / 512 ≤ 2000 := by omega
  clear h
  go_enter Tryd.func42, Tryd.ntmps42
  go_wp2
  go_quiet ((go_at_call 53; refine (parts_any s.qu 512 _ q0 (by omega) (by omega) (by omega)).mono ?_; rintro e w4 ⟨rfl, rfl⟩; exact ⟨rfl, _, rfl⟩))
  go_wp2
  go_ret
  refine ⟨?_, below_drewN (newBox w _) _⟩
  unfold leastD
  rw [show s.qu + 512 - 1 = s.qu + 511 by omega]
  rfl
end Go.Proofs.YtgpeefedboomoabDoor
