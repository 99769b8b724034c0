/- PlanWheres, walked. -/
import Derived.Test.YtgpeefedboomoabDoorP15
import Derived.Test.YtgpeefedboomoabDoorP24
import Derived.Test.YtgpeefedboomoabDoorPView2
namespace Go.Proofs.YtgpeefedboomoabDoor
open Go.RowKit
set_option maxRecDepth 100000

attribute [local go_sem ↓ 100000] ly_store ly_load
attribute [local go_sem] LyStore.new LyLoad.new LyStore.at LyLoad.at

/-- A layout's load, run. -/
def LyRun (P : Program) (p : Value) (w : World) := ((Instr.loadAt 40 p).run P w).andThen fun v w' => Result.ok (Next.value v) w'
theorem ly_run (r : Operand → Value) (d : Option Tmp) (x : Operand) (t : TypeId) (p : String) (f : Array Edge) (g : Option (Nat × Bool)) (w : World) : (execOp r ⟨d, .load 40 x, t, p, f, g⟩).run Tryd.prog w = LyRun Tryd.prog (r x) w := by
  unfold LyRun execOp
  simp only [Sem.run_bind, Sem.run_pure]
theorem LyRun.row {w : World} {b : Nat} {cs : Array Value} (hs : cs.size = 20) (h : w.heap[b]? = some (.cells cs 40 (0, 0))) : LyRun Tryd.prog (.pointer (some ⟨b, 0, none⟩)) w = .ok (.value (.agg cs)) w := by
  unfold LyRun
  simp only [ld_row w b cs hs h, Result.andThen_ok]
attribute [local go_sem ↓ 100000] ly_run
/-- A slice of numbers reads as them. -/
structure ILies (w : World) (ao : Option Addr) (n cap : Nat) (xs : List Int) : Prop where
  hlen : xs.length = n
  hle : n ≤ cap
  hnone : ao = none → n = 0 ∧ cap = 0
  hcells : ∀ ad, ao = some ad → ∀ t, t < n → w.cell? (ad.add t) = some (.int .i64 (xs.getD t 0))
theorem ILies.later {w w' : World} {ao : Option Addr} {n cap : Nat} {xs : List Int} (h : ILies w ao n cap xs) (hb : Below w.heap.size w w') : ILies w' ao n cap xs :=
  ⟨h.hlen, h.hle, h.hnone, fun ad had t ht => by
    have hc := h.hcells ad had t ht
    exact (hb.cell (World.block_lt_of_cell? w _ hc)).trans hc⟩
theorem ILies.at {w : World} {ao : Option Addr} {n cap : Nat} {xs : List Int} (h : ILies w ao n cap xs) {k : Nat} (hk : k < n) : ∃ b o, ao = some ⟨b, o, none⟩ ∧ w.cell? ⟨b, o + k, none⟩ = some (.int .i64 (xs.getD k 0)) := by
  cases ao with
  | none => have := (h.hnone rfl).1; omega
  | some ad =>
    have hc : ∀ i, i < xs.length → w.cell? (ad.add i) = some (.int .i64 (xs.getD i 0)) := fun i hi => h.hcells ad rfl i (by rw [← h.hlen]; exact hi)
    obtain ⟨b, off, rfl, hj⟩ := ints_at hc (by rw [h.hlen]; omega)
    exact ⟨b, off, rfl, hj k (by rw [h.hlen]; exact hk)⟩

set_option maxHeartbeats 8000000 in
theorem wheres_any (l : Lay) (ao : Option Addr) (n c : Nat) (xs : List Int) (w : World) (hB : Bds w) (hn : n ≤ 140737488351232) (hL : ILies w ao n c xs) (hx : ∀ x ∈ xs, -9223372036854775808 ≤ x ∧ x ≤ 9223372036854775807) : Calls Tryd.prog 4 #[lyV l, .slice ao n c] w fun e w' => e = .returned (.bool true) ∧ Below w.heap.size w w' := by
  have hni : (n : Int) ≤ 140737488351232 := by omega
  have hlen := hL.hlen
  have hle := hL.hle
  have hn0 := newBox w (.cells #[.int .i64 l.bo, .int .i64 l.jr, .int .i64 l.jl, .int .i64 l.le, .int .i64 l.ll, .int .i64 l.bi, .int .i64 l.bl, .int .i64 l.ta, .int .i64 l.tl, .int .i64 l.dt, .int .i64 l.dl, .int .i64 l.to, .int .i64 l.sh.cl, .int .i64 l.sh.wi, .int .i64 l.sh.pl, .int .i64 l.sh.ca, .int .i64 l.sh.ino, .int .i64 l.sh.qu, .int .i64 l.sh.da, .int .i64 l.sh.jo] 40)
  have hr0 : (w.alloc (.cells #[.int .i64 l.bo, .int .i64 l.jr, .int .i64 l.jl, .int .i64 l.le, .int .i64 l.ll, .int .i64 l.bi, .int .i64 l.bl, .int .i64 l.ta, .int .i64 l.tl, .int .i64 l.dt, .int .i64 l.dl, .int .i64 l.to, .int .i64 l.sh.cl, .int .i64 l.sh.wi, .int .i64 l.sh.pl, .int .i64 l.sh.ca, .int .i64 l.sh.ino, .int .i64 l.sh.qu, .int .i64 l.sh.da, .int .i64 l.sh.jo] 40)).heap[w.heap.size]? = some (.cells #[.int .i64 l.bo, .int .i64 l.jr, .int .i64 l.jl, .int .i64 l.le, .int .i64 l.ll, .int .i64 l.bi, .int .i64 l.bl, .int .i64 l.ta, .int .i64 l.tl, .int .i64 l.dt, .int .i64 l.dl, .int .i64 l.to, .int .i64 l.sh.cl, .int .i64 l.sh.wi, .int .i64 l.sh.pl, .int .i64 l.sh.ca, .int .i64 l.sh.ino, .int .i64 l.sh.qu, .int .i64 l.sh.da, .int .i64 l.sh.jo] 40 (0, 0)) := heap_alloc_last w _
  have hL0 := hL.later hn0
  have hB0 := hB.later hn0 (Nat.le_refl _)
  clear hL hB
  go_enter Tryd.func4, Tryd.ntmps4
  go_wp2_with fail
  generalize w.alloc (.cells #[.int .i64 l.bo, .int .i64 l.jr, .int .i64 l.jl, .int .i64 l.le, .int .i64 l.ll, .int .i64 l.bi, .int .i64 l.bl, .int .i64 l.ta, .int .i64 l.tl, .int .i64 l.dt, .int .i64 l.dl, .int .i64 l.to, .int .i64 l.sh.cl, .int .i64 l.sh.wi, .int .i64 l.sh.pl, .int .i64 l.sh.ca, .int .i64 l.sh.ino, .int .i64 l.sh.qu, .int .i64 l.sh.da, .int .i64 l.sh.jo] 40) = w0 at *
  refine (first_any _ hB0).mono ?_
  rintro e w1 ⟨rfl, hb1⟩
  have hr1 := (hb1.block _ (lt_of_block hr0)).trans hr0
  have hL1 := hL0.later hb1
  have hB1 := hB0.later hb1 (Nat.le_refl _)
  have hq1 := hn0.trans (hb1.mono hn0.size)
  clear hr0 hL0 hB0 hn0 hb1
  go_wp2_with fail
  go_loopw [6] (fun v wr => ∃ k : Nat, k ≤ n ∧ v = .int .i64 k ∧ wr.heap[w.heap.size]? = some (.cells #[.int .i64 l.bo, .int .i64 l.jr, .int .i64 l.jl, .int .i64 l.le, .int .i64 l.ll, .int .i64 l.bi, .int .i64 l.bl, .int .i64 l.ta, .int .i64 l.tl, .int .i64 l.dt, .int .i64 l.dl, .int .i64 l.to, .int .i64 l.sh.cl, .int .i64 l.sh.wi, .int .i64 l.sh.pl, .int .i64 l.sh.ca, .int .i64 l.sh.ino, .int .i64 l.sh.qu, .int .i64 l.sh.da, .int .i64 l.sh.jo] 40 (0, 0)) ∧ ILies wr ao n c xs ∧ Bds wr ∧ Below w.heap.size w wr) (fun v _ => n - (intOf v).toNat)
  case atStart => exact ⟨0, Nat.zero_le _, rfl, hr1, hL1, hB1, hq1⟩
  case round =>
    clear hr1 hL1 hB1 hq1
    obtain ⟨k, hk, rfl, hr, hL, hB, hq⟩ := hrel
    by_cases hlt : k < n
    · obtain ⟨b, o, rfl, hc⟩ := hL.at hlt
      have hxk : -9223372036854775808 ≤ xs.getD k 0 ∧ xs.getD k 0 ≤ 9223372036854775807 := by
        have hi : k < xs.length := by omega
        have e : xs.getD k 0 = xs[k] := by simp [List.getD, hi]
        rw [e]
        exact hx _ (List.getElem_mem hi)
      generalize xs.getD k 0 = x at *
      have kn : (k : Int) < n := by omega
      have k0 : (0 : Int) ≤ k := by omega
      have hlw := lt_of_block hr
      have hbw := World.block_lt_of_cell? wr _ hc
      have hrun : ∀ v : World, v.heap[w.heap.size]? = some (.cells #[.int .i64 l.bo, .int .i64 l.jr, .int .i64 l.jl, .int .i64 l.le, .int .i64 l.ll, .int .i64 l.bi, .int .i64 l.bl, .int .i64 l.ta, .int .i64 l.tl, .int .i64 l.dt, .int .i64 l.dl, .int .i64 l.to, .int .i64 l.sh.cl, .int .i64 l.sh.wi, .int .i64 l.sh.pl, .int .i64 l.sh.ca, .int .i64 l.sh.ino, .int .i64 l.sh.qu, .int .i64 l.sh.da, .int .i64 l.sh.jo] 40 (0, 0)) → LyRun Tryd.prog (.pointer (some ⟨w.heap.size, 0, none⟩)) v = .ok (.value (lyV l)) v := fun v hv => LyRun.row rfl hv
      have hc0 : wr.drew.cell? ⟨b, o + k, none⟩ = some (.int .i64 x) := hc
      have hr0 : wr.drew.heap[w.heap.size]? = some (.cells #[.int .i64 l.bo, .int .i64 l.jr, .int .i64 l.jl, .int .i64 l.le, .int .i64 l.ll, .int .i64 l.bi, .int .i64 l.bl, .int .i64 l.ta, .int .i64 l.tl, .int .i64 l.dt, .int .i64 l.dl, .int .i64 l.to, .int .i64 l.sh.cl, .int .i64 l.sh.wi, .int .i64 l.sh.pl, .int .i64 l.sh.ca, .int .i64 l.sh.ino, .int .i64 l.sh.qu, .int .i64 l.sh.da, .int .i64 l.sh.jo] 40 (0, 0)) := hr
      have hB0 : Bds wr.drew := hB.later (Below.refl wr.heap.size wr).drew (Nat.le_refl _)
      have hL0 : ILies wr.drew (some ⟨b, o, none⟩) n c xs := hL.later (Below.refl wr.heap.size wr).drew
      have hq0 : Below w.heap.size w wr.drew := hq.drew
      have hlw0 : w.heap.size < wr.drew.heap.size := hlw
      have hbw0 : b < wr.drew.heap.size := hbw
      clear hr hL hB hq hc hlw hbw
      go_wp2_with fail
      go_region_held3 (fun w' => w'.heap[w.heap.size]? = some (.cells #[.int .i64 l.bo, .int .i64 l.jr, .int .i64 l.jl, .int .i64 l.le, .int .i64 l.ll, .int .i64 l.bi, .int .i64 l.bl, .int .i64 l.ta, .int .i64 l.tl, .int .i64 l.dt, .int .i64 l.dl, .int .i64 l.to, .int .i64 l.sh.cl, .int .i64 l.sh.wi, .int .i64 l.sh.pl, .int .i64 l.sh.ca, .int .i64 l.sh.ino, .int .i64 l.sh.qu, .int .i64 l.sh.da, .int .i64 l.sh.jo] 40 (0, 0)) ∧ w'.cell? ⟨b, o + k, none⟩ = some (.int .i64 x))
        (first | with_reducible exact ⟨hr0, hc0⟩ | with_reducible exact ⟨hr1, hc1⟩)
        (first
          | (go_at_call 14; refine (where_any l x _ hB0 hxk.1 hxk.2).mono ?_; rintro e y1 ⟨rfl, hb1⟩; have hr1 := (hb1.block _ (lt_of_block hr0)).trans hr0; have hc1 := (hb1.cell (p := ⟨b, o + k, none⟩) hbw0).trans hc0))
      have hB1 := hB0.later hb1 (Nat.le_refl _)
      have hL1 := hL0.later hb1
      have hq1 := hq0.trans (hb1.mono hq0.size)
      clear hr0 hB0 hL0 hq0 hlw0 hbw0 hc0 hb1
      have hlw := lt_of_block hr1
      have hbw := World.block_lt_of_cell? y1 _ hc1
      have hc2 : y1.drew.cell? ⟨b, o + k, none⟩ = some (.int .i64 x) := hc1
      have hr2 : y1.drew.heap[w.heap.size]? = some (.cells #[.int .i64 l.bo, .int .i64 l.jr, .int .i64 l.jl, .int .i64 l.le, .int .i64 l.ll, .int .i64 l.bi, .int .i64 l.bl, .int .i64 l.ta, .int .i64 l.tl, .int .i64 l.dt, .int .i64 l.dl, .int .i64 l.to, .int .i64 l.sh.cl, .int .i64 l.sh.wi, .int .i64 l.sh.pl, .int .i64 l.sh.ca, .int .i64 l.sh.ino, .int .i64 l.sh.qu, .int .i64 l.sh.da, .int .i64 l.sh.jo] 40 (0, 0)) := hr1
      have hB2 : Bds y1.drew := hB1.later (Below.refl y1.heap.size y1).drew (Nat.le_refl _)
      have hL2 : ILies y1.drew (some ⟨b, o, none⟩) n c xs := hL1.later (Below.refl y1.heap.size y1).drew
      have hq2 : Below w.heap.size w y1.drew := hq1.drew
      have hbw2 : b < y1.drew.heap.size := hbw
      clear hr1 hL1 hB1 hq1 hc1 hlw hbw
      go_wp2_with fail
      go_region_held3 (fun w' => w'.heap[w.heap.size]? = some (.cells #[.int .i64 l.bo, .int .i64 l.jr, .int .i64 l.jl, .int .i64 l.le, .int .i64 l.ll, .int .i64 l.bi, .int .i64 l.bl, .int .i64 l.ta, .int .i64 l.tl, .int .i64 l.dt, .int .i64 l.dl, .int .i64 l.to, .int .i64 l.sh.cl, .int .i64 l.sh.wi, .int .i64 l.sh.pl, .int .i64 l.sh.ca, .int .i64 l.sh.ino, .int .i64 l.sh.qu, .int .i64 l.sh.da, .int .i64 l.sh.jo] 40 (0, 0)) ∧ w'.cell? ⟨b, o + k, none⟩ = some (.int .i64 x))
        (first | with_reducible exact ⟨hr2, hc2⟩ | with_reducible exact ⟨hr3, hc3⟩)
        (first
          | (go_at_call 15; refine (rwhere_any l x _ hxk.1 hxk.2).mono ?_; rintro e y2 ⟨rfl, hb2⟩; have hr3 := (hb2.block _ (lt_of_block hr2)).trans hr2; have hc3 := (hb2.cell (p := ⟨b, o + k, none⟩) hbw2).trans hc2))
      have hB3 := hB2.later hb2 (Nat.le_refl _)
      have hL3 := hL2.later hb2
      have hq3 := hq2.trans (hb2.mono hq2.size)
      clear hr2 hB2 hL2 hq2 hbw2 hc2 hb2 hrun
      have n1 : ((whA l x).1 != (whA l x).1) = false := by simp
      have n2 : ((whA l x).2 != (whA l x).2) = false := by simp
      go_wp2_with fail
      go_roundw
      case rel => exact ⟨k + 1, by omega, by go_num, hr3, hL3, hB3, hq3⟩
      case measure => simp [intOf]; omega
    · clear hr hL hB
      go_wp2_with fail
      go_ret
      exact ⟨rfl, hq⟩
end Go.Proofs.YtgpeefedboomoabDoor
