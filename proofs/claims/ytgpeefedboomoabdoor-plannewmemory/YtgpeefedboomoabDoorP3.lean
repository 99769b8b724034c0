/- layOut by its contract. -/
import Derived.Test.YtgpeefedboomoabDoorP2s
import Derived.Laws.CopyOwn
namespace Go.Proofs.YtgpeefedboomoabDoor
open Go.RowKit
set_option maxRecDepth 100000
attribute [local go_sem ↓ 100000] ly_store ly_load
attribute [local go_sem] LyStore.new LyStore.drew LyLoad.new LyLoad.drew

theorem parts_four (n : Int) (w : World) (hn : 0 ≤ n) (hn1 : n ≤ 1000000) :
    Calls Tryd.prog 53 #[.int .i64 n, .int .i64 4] w fun e w' => e = .returned (.int .i64 ((n + 3) / 4)) ∧ w' = w := by
  have h := parts_any n 4 w hn (by omega) hn1 (by omega)
  rwa [show n + 4 - 1 = n + 3 by omega] at h

set_option maxHeartbeats 2000000 in
theorem layOut_any (s : Shp) (h : InB s) (w : World) :
    Calls Tryd.prog 41 #[shV s] w fun e w' => e = .returned (lyV (layOf s)) ∧ Below w.heap.size w w' := by
  have j0 := h.jo0
  have j1 := h.jo1
  have c0 := h.ca0
  have c1 := h.ca1
  have i0 := h.ino0
  have i1 := h.ino1
  have da0 := h.da0
  have da1 := h.da1
  have d0 : 0 ≤ (s.ino + 3) / 4 := by omega
  have d1 : (s.ino + 3) / 4 ≤ 100 := by omega
  clear h
  go_enter Tryd.func41, Tryd.ntmps41
  go_wp2
  have hB0 : ShBox ((w.alloc (.cells #[.int .i64 s.cl, .int .i64 s.wi, .int .i64 s.pl, .int .i64 s.ca, .int .i64 s.ino, .int .i64 s.qu, .int .i64 s.da, .int .i64 s.jo] 33)).alloc (.cells #[.int .i64 0, .int .i64 0, .int .i64 0, .int .i64 0, .int .i64 0, .int .i64 0, .int .i64 0, .int .i64 0, .int .i64 0, .int .i64 0, .int .i64 0, .int .i64 0, .int .i64 0, .int .i64 0, .int .i64 0, .int .i64 0, .int .i64 0, .int .i64 0, .int .i64 0, .int .i64 0] 40)) w.heap.size s := (ShBox.new w s).later (newBox _ _) (by simp)
  have hZ0 : ((w.alloc (.cells #[.int .i64 s.cl, .int .i64 s.wi, .int .i64 s.pl, .int .i64 s.ca, .int .i64 s.ino, .int .i64 s.qu, .int .i64 s.da, .int .i64 s.jo] 33)).alloc (.cells #[.int .i64 0, .int .i64 0, .int .i64 0, .int .i64 0, .int .i64 0, .int .i64 0, .int .i64 0, .int .i64 0, .int .i64 0, .int .i64 0, .int .i64 0, .int .i64 0, .int .i64 0, .int .i64 0, .int .i64 0, .int .i64 0, .int .i64 0, .int .i64 0, .int .i64 0, .int .i64 0] 40)).heap[w.heap.size + 1]? = some (.cells #[.int .i64 0, .int .i64 0, .int .i64 0, .int .i64 0, .int .i64 0, .int .i64 0, .int .i64 0, .int .i64 0, .int .i64 0, .int .i64 0, .int .i64 0, .int .i64 0, .int .i64 0, .int .i64 0, .int .i64 0, .int .i64 0, .int .i64 0, .int .i64 0, .int .i64 0, .int .i64 0] 40 (0, 0)) := heap_new2 w _ _
  have hb0 : Below w.heap.size w ((w.alloc (.cells #[.int .i64 s.cl, .int .i64 s.wi, .int .i64 s.pl, .int .i64 s.ca, .int .i64 s.ino, .int .i64 s.qu, .int .i64 s.da, .int .i64 s.jo] 33)).alloc (.cells #[.int .i64 0, .int .i64 0, .int .i64 0, .int .i64 0, .int .i64 0, .int .i64 0, .int .i64 0, .int .i64 0, .int .i64 0, .int .i64 0, .int .i64 0, .int .i64 0, .int .i64 0, .int .i64 0, .int .i64 0, .int .i64 0, .int .i64 0, .int .i64 0, .int .i64 0, .int .i64 0] 40)) := (newBox w _).trans ((newBox _ _).mono (by simp))
  have hs0 : w.heap.size < ((w.alloc (.cells #[.int .i64 s.cl, .int .i64 s.wi, .int .i64 s.pl, .int .i64 s.ca, .int .i64 s.ino, .int .i64 s.qu, .int .i64 s.da, .int .i64 s.jo] 33)).alloc (.cells #[.int .i64 0, .int .i64 0, .int .i64 0, .int .i64 0, .int .i64 0, .int .i64 0, .int .i64 0, .int .i64 0, .int .i64 0, .int .i64 0, .int .i64 0, .int .i64 0, .int .i64 0, .int .i64 0, .int .i64 0, .int .i64 0, .int .i64 0, .int .i64 0, .int .i64 0, .int .i64 0] 40)).heap.size := by simp; omega
  generalize ((w.alloc (.cells #[.int .i64 s.cl, .int .i64 s.wi, .int .i64 s.pl, .int .i64 s.ca, .int .i64 s.ino, .int .i64 s.qu, .int .i64 s.da, .int .i64 s.jo] 33)).alloc (.cells #[.int .i64 0, .int .i64 0, .int .i64 0, .int .i64 0, .int .i64 0, .int .i64 0, .int .i64 0, .int .i64 0, .int .i64 0, .int .i64 0, .int .i64 0, .int .i64 0, .int .i64 0, .int .i64 0, .int .i64 0, .int .i64 0, .int .i64 0, .int .i64 0, .int .i64 0, .int .i64 0] 40)) = w0 at *
  have hB1 : ShBox w0.drew w.heap.size s := hB0.later (Below.refl w0.heap.size w0).drew hs0
  go_region_held3 (fun w' => w'.cell? ⟨w.heap.size, 0, none⟩ = some (.int .i64 s.cl) ∧ w'.cell? ⟨w.heap.size, 1, none⟩ = some (.int .i64 s.wi) ∧ w'.cell? ⟨w.heap.size, 2, none⟩ = some (.int .i64 s.pl) ∧ w'.cell? ⟨w.heap.size, 3, none⟩ = some (.int .i64 s.ca) ∧ w'.cell? ⟨w.heap.size, 4, none⟩ = some (.int .i64 s.ino) ∧ w'.cell? ⟨w.heap.size, 5, none⟩ = some (.int .i64 s.qu) ∧ w'.cell? ⟨w.heap.size, 6, none⟩ = some (.int .i64 s.da) ∧ w'.cell? ⟨w.heap.size, 7, none⟩ = some (.int .i64 s.jo))
    (first | with_reducible exact hB1.all | with_reducible exact hB0.all | with_reducible exact (hB0.later (newBox _ _).drew hs0).all | with_reducible exact (hB0.later (newBox _ _) hs0).all)
    (first
      | (go_at_call 53; refine (parts_four s.ino _ (by omega) (by omega)).mono ?_; rintro e wq ⟨rfl, hq⟩; subst wq))
  all_goals
    have hst : ∀ (u : Obj) (x0 x1 x2 x3 x4 x5 x6 x7 x8 x9 x10 x11 x12 x13 x14 x15 x16 x17 x18 x19 : Int) (o : Oper) (a : Act) (next : Act → World → Prop) (Q : Exit → Act → World → Prop), LyStore (.pointer (some ⟨w.heap.size + 1, 0, none⟩)) (.agg #[.int .i64 x0, .int .i64 x1, .int .i64 x2, .int .i64 x3, .int .i64 x4, .int .i64 x5, .int .i64 x6, .int .i64 x7, .int .i64 x8, .int .i64 x9, .int .i64 x10, .int .i64 x11, .int .i64 x12, .int .i64 x13, .int .i64 x14, .int .i64 x15, .int .i64 x16, .int .i64 x17, .int .i64 x18, .int .i64 x19]) o a (w0.alloc u).drew next Q = next (a.put o.dst undef) ((w0.alloc u).drew.setRow (w.heap.size + 1) #[.int .i64 x0, .int .i64 x1, .int .i64 x2, .int .i64 x3, .int .i64 x4, .int .i64 x5, .int .i64 x6, .int .i64 x7, .int .i64 x8, .int .i64 x9, .int .i64 x10, .int .i64 x11, .int .i64 x12, .int .i64 x13, .int .i64 x14, .int .i64 x15, .int .i64 x16, .int .i64 x17, .int .i64 x18, .int .i64 x19]) := fun u => LyStore.row (((newBox w0 u).block _ (lt_of_block hZ0)).trans hZ0) rfl
    go_wp2
    refine bodyPost_ret (results_cell_row rfl _ _ (w.heap.size + 1) 40 _ (0, 0) _ rfl (setRow_heap _ _ _ _ _ _ (((newBox w0 _).block _ (lt_of_block hZ0)).trans hZ0)) Tryd.underlying40 rfl ly_size) rfl ?_
    exact ⟨rfl, below_setRow (hb0.trans ((newBox w0 _).mono hb0.size)).drew (by omega) _⟩
end Go.Proofs.YtgpeefedboomoabDoor
