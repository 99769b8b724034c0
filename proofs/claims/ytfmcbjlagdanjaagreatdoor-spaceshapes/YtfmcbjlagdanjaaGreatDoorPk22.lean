/- num and small by their contracts. -/
import Derived.Test.YtfmcbjlagdanjaaGreatDoorPk21
namespace Go.Proofs.YtfmcbjlagdanjaaGreatDoor
open Go.RowKit
set_option maxRecDepth 100000

attribute [local go_sem ↓ 100000] ly_store ly_load sh_store
attribute [local go_sem] LyStore.new LyStore.drew LyLoad.new LyLoad.drew ShStore.new
theorem ShStore.at (b : Nat) (x0 x1 x2 x3 x4 x5 x6 x7 : Int) (o : Oper) (a : Act) (w : World) (next : Act → World → Prop) (Q : Exit → Act → World → Prop) (hb : b = w.heap.size) :
    ShStore (.pointer (some ⟨b, 0, none⟩)) (.agg #[.int .i64 x0, .int .i64 x1, .int .i64 x2, .int .i64 x3, .int .i64 x4, .int .i64 x5, .int .i64 x6, .int .i64 x7]) o a (w.alloc (.cells #[.int .i64 0, .int .i64 0, .int .i64 0, .int .i64 0, .int .i64 0, .int .i64 0, .int .i64 0, .int .i64 0] 27)) next Q = next (a.put o.dst undef) (w.alloc (.cells #[.int .i64 x0, .int .i64 x1, .int .i64 x2, .int .i64 x3, .int .i64 x4, .int .i64 x5, .int .i64 x6, .int .i64 x7] 27)) := by subst hb; exact ShStore.new _ _ _ _ _ _ _ _ o a w next Q
theorem LyStore.at (b : Nat) (x0 x1 x2 x3 x4 x5 x6 x7 x8 x9 x10 x11 x12 x13 x14 x15 x16 x17 x18 x19 : Int) (o : Oper) (a : Act) (w : World) (next : Act → World → Prop) (Q : Exit → Act → World → Prop) (hb : b = w.heap.size) :
    LyStore (.pointer (some ⟨b, 0, none⟩)) (.agg #[.int .i64 x0, .int .i64 x1, .int .i64 x2, .int .i64 x3, .int .i64 x4, .int .i64 x5, .int .i64 x6, .int .i64 x7, .int .i64 x8, .int .i64 x9, .int .i64 x10, .int .i64 x11, .int .i64 x12, .int .i64 x13, .int .i64 x14, .int .i64 x15, .int .i64 x16, .int .i64 x17, .int .i64 x18, .int .i64 x19]) o a (w.alloc (.cells #[.int .i64 0, .int .i64 0, .int .i64 0, .int .i64 0, .int .i64 0, .int .i64 0, .int .i64 0, .int .i64 0, .int .i64 0, .int .i64 0, .int .i64 0, .int .i64 0, .int .i64 0, .int .i64 0, .int .i64 0, .int .i64 0, .int .i64 0, .int .i64 0, .int .i64 0, .int .i64 0] 29)) next Q = next (a.put o.dst undef) (w.alloc (.cells #[.int .i64 x0, .int .i64 x1, .int .i64 x2, .int .i64 x3, .int .i64 x4, .int .i64 x5, .int .i64 x6, .int .i64 x7, .int .i64 x8, .int .i64 x9, .int .i64 x10, .int .i64 x11, .int .i64 x12, .int .i64 x13, .int .i64 x14, .int .i64 x15, .int .i64 x16, .int .i64 x17, .int .i64 x18, .int .i64 x19] 29)) := by subst hb; exact LyStore.new _ _ _ _ _ _ _ _ _ _ _ _ _ _ _ _ _ _ _ _ o a w next Q
theorem LyLoad.at (b : Nat) (x0 x1 x2 x3 x4 x5 x6 x7 x8 x9 x10 x11 x12 x13 x14 x15 x16 x17 x18 x19 : Int) (o : Oper) (a : Act) (w : World) (next : Act → World → Prop) (Q : Exit → Act → World → Prop) (hb : b = w.heap.size) :
    LyLoad (.pointer (some ⟨b, 0, none⟩)) o a (w.alloc (.cells #[.int .i64 x0, .int .i64 x1, .int .i64 x2, .int .i64 x3, .int .i64 x4, .int .i64 x5, .int .i64 x6, .int .i64 x7, .int .i64 x8, .int .i64 x9, .int .i64 x10, .int .i64 x11, .int .i64 x12, .int .i64 x13, .int .i64 x14, .int .i64 x15, .int .i64 x16, .int .i64 x17, .int .i64 x18, .int .i64 x19] 29)) next Q = next (a.put o.dst (.agg #[.int .i64 x0, .int .i64 x1, .int .i64 x2, .int .i64 x3, .int .i64 x4, .int .i64 x5, .int .i64 x6, .int .i64 x7, .int .i64 x8, .int .i64 x9, .int .i64 x10, .int .i64 x11, .int .i64 x12, .int .i64 x13, .int .i64 x14, .int .i64 x15, .int .i64 x16, .int .i64 x17, .int .i64 x18, .int .i64 x19])) (w.alloc (.cells #[.int .i64 x0, .int .i64 x1, .int .i64 x2, .int .i64 x3, .int .i64 x4, .int .i64 x5, .int .i64 x6, .int .i64 x7, .int .i64 x8, .int .i64 x9, .int .i64 x10, .int .i64 x11, .int .i64 x12, .int .i64 x13, .int .i64 x14, .int .i64 x15, .int .i64 x16, .int .i64 x17, .int .i64 x18, .int .i64 x19] 29)) := by subst hb; exact LyLoad.new _ _ _ _ _ _ _ _ _ _ _ _ _ _ _ _ _ _ _ _ o a w next Q
attribute [local go_sem] ShStore.at LyStore.at LyLoad.at

theorem res_cells {P : Program} {fn : Func} {p q : Tmp} {ty uy : TypeId} (h : fn.results = #[.cell p ty, .cell q uy]) (tmps : Array Value) (w : World) (g k : Nat) (cs ds : Array Value) (d d' : TypeDesc)
    (hp : tmps.getD p undef = .pointer (some ⟨g, 0, none⟩)) (hg : w.heap[g]? = some (.cells cs ty (0, 0))) (hu : P.underlying ty = some d) (hd : (match d with | .struct _ | .array _ _ => true | _ => false) = true) (hi : (P.info? ty).map (·.size) = some cs.size)
    (hq : tmps.getD q undef = .pointer (some ⟨k, 0, none⟩)) (hk : w.heap[k]? = some (.cells ds uy (0, 0))) (hu' : P.underlying uy = some d') (hd' : (match d' with | .struct _ | .array _ _ => true | _ => false) = true) (hi' : (P.info? uy).map (·.size) = some ds.size) :
    (results fn tmps).run P w = .ok (.tuple #[.agg cs, .agg ds]) w := by
  have hp' : tmps[p]?.getD undef = .pointer (some ⟨g, 0, none⟩) := by simpa using hp
  have hq' : tmps[q]?.getD undef = .pointer (some ⟨k, 0, none⟩) := by simpa using hq
  simp [results, h, hp', hq', asAddr, run_loadVar_row w g ty ty cs (0, 0) d hg hu hd hi, run_loadVar_row w k uy uy ds (0, 0) d' hk hu' hd' hi']

theorem cells8 {w : World} {b : Nat} {x0 x1 x2 x3 x4 x5 x6 x7 : Int} (h : w.heap[b]? = some (.cells #[.int .i64 x0, .int .i64 x1, .int .i64 x2, .int .i64 x3, .int .i64 x4, .int .i64 x5, .int .i64 x6, .int .i64 x7] 27 (0, 0))) : w.cell? ⟨b, 0, none⟩ = some (.int .i64 x0) ∧ w.cell? ⟨b, 1, none⟩ = some (.int .i64 x1) ∧ w.cell? ⟨b, 2, none⟩ = some (.int .i64 x2) ∧ w.cell? ⟨b, 3, none⟩ = some (.int .i64 x3) ∧ w.cell? ⟨b, 4, none⟩ = some (.int .i64 x4) ∧ w.cell? ⟨b, 5, none⟩ = some (.int .i64 x5) ∧ w.cell? ⟨b, 6, none⟩ = some (.int .i64 x6) ∧ w.cell? ⟨b, 7, none⟩ = some (.int .i64 x7) := by
  simp only [World.cell?, h]
  exact ⟨rfl, rfl, rfl, rfl, rfl, rfl, rfl, rfl⟩

end Go.Proofs.YtfmcbjlagdanjaaGreatDoor

/- The document's own numbers, lengths and begins by their contracts. -/
namespace Go.Proofs.YtfmcbjlagdanjaaGreatDoor
open Go.RowKit
set_option maxRecDepth 100000

/-- The lengths of the seven regions. -/
def lensL (s : Shp) : List Int := [1, 1, s.jo, 1 + 3 * s.ca, 1, (s.ino + 3) / 4, s.da]
/-- The first block of a region. -/
def beg (s : Shp) (r : Nat) : Int := ((lensL s).take r).foldl (· + ·) 0
theorem beg_succ (s : Shp) (r : Nat) (h : r < 7) : beg s (r + 1) = beg s r + (lensL s).getD r 0 := by
  obtain rfl | rfl | rfl | rfl | rfl | rfl | rfl : r = 0 ∨ r = 1 ∨ r = 2 ∨ r = 3 ∨ r = 4 ∨ r = 5 ∨ r = 6 := by omega
  all_goals rfl
theorem lens_bd {s : Shp} (h : InB s) (r : Nat) (hr : r < 7) : 0 ≤ (lensL s).getD r 0 ∧ (lensL s).getD r 0 ≤ 5000 := by
  have j0 := h.jo0
  have j1 := h.jo1
  have c0 := h.ca0
  have c1 := h.ca1
  have i0 := h.ino0
  have i1 := h.ino1
  have d0 := h.da0
  have d1 := h.da1
  obtain rfl | rfl | rfl | rfl | rfl | rfl | rfl : r = 0 ∨ r = 1 ∨ r = 2 ∨ r = 3 ∨ r = 4 ∨ r = 5 ∨ r = 6 := by omega
  all_goals
    simp only [lensL, List.getD_cons_zero, List.getD_cons_succ]
    omega
theorem beg_bd {s : Shp} (h : InB s) : ∀ (r : Nat), r ≤ 7 → 0 ≤ beg s r ∧ beg s r ≤ 5000 * r
  | 0, _ => by simp [beg]
  | r + 1, hr => by
    have ih := beg_bd h r (by omega)
    have hl := lens_bd h r (by omega)
    rw [beg_succ s r (by omega)]
    omega
theorem begsP (s : Shp) : beg s 1 = 1 ∧ beg s 2 = 2 ∧ beg s 3 = (layOf s).le ∧ beg s 4 = (layOf s).bi ∧ beg s 5 = (layOf s).ta ∧ beg s 6 = (layOf s).dt ∧ beg s 7 = (layOf s).to := by
  simp only [beg, lensL, layOf, List.take_succ_cons, List.take_zero, List.foldl_cons, List.foldl_nil]
  refine ⟨by omega, by omega, by omega, by omega, by omega, by omega, by omega⟩

set_option maxHeartbeats 1000000 in
theorem rlengths_any (s : Shp) (h : InB s) (w : World) :
    Calls Tryz.prog 58 #[shV s] w fun e w' => ∃ g, e = .returned (.slice (some ⟨g, 0, none⟩) 7 7) ∧ w.heap.size ≤ g ∧ w'.heap[g]? = some (.cells #[.int .i64 1, .int .i64 1, .int .i64 s.jo, .int .i64 (1 + 3 * s.ca), .int .i64 1, .int .i64 ((s.ino + 3) / 4), .int .i64 s.da] 3 (0, 0)) ∧ Below w.heap.size w w' := by
  have j0 := h.jo0
  have j1 := h.jo1
  have c0 := h.ca0
  have c1 := h.ca1
  have i0 := h.ino0
  have i1 := h.ino1
  have e4 : (s.ino + 3).tdiv 4 = (s.ino + 3) / 4 := Int.tdiv_eq_ediv_of_nonneg (by omega)
  clear h
  go_enter Tryz.func58, Tryz.ntmps58
  go_wp2
  go_ret
  exact ⟨_, rfl, by omega, heap_new2 w _ _, box2 w _ _⟩

set_option maxHeartbeats 1000000 in
theorem rnumbers_any (s : Shp) (w : World) :
    Calls Tryz.prog 56 #[shV s] w fun e w' => ∃ g, e = .returned (.slice (some ⟨g, 0, none⟩) 8 8) ∧ w.heap.size ≤ g ∧ w'.heap[g]? = some (.cells #[.int .i64 s.cl, .int .i64 s.wi, .int .i64 s.pl, .int .i64 s.ca, .int .i64 s.ino, .int .i64 s.qu, .int .i64 s.da, .int .i64 s.jo] 3 (0, 0)) ∧ Below w.heap.size w w' := by
  go_enter Tryz.func56, Tryz.ntmps56
  go_wp2
  go_ret
  exact ⟨_, rfl, by omega, heap_new2 w _ _, box2 w _ _⟩

theorem lens_cell {w : World} {g : Nat} {s : Shp} (h : w.heap[g]? = some (.cells #[.int .i64 1, .int .i64 1, .int .i64 s.jo, .int .i64 (1 + 3 * s.ca), .int .i64 1, .int .i64 ((s.ino + 3) / 4), .int .i64 s.da] 3 (0, 0))) (k : Nat) (hk : k < 7) : w.cell? ⟨g, k, none⟩ = some (.int .i64 ((lensL s).getD k 0)) := by
  simp only [World.cell?, h]
  obtain rfl | rfl | rfl | rfl | rfl | rfl | rfl : k = 0 ∨ k = 1 ∨ k = 2 ∨ k = 3 ∨ k = 4 ∨ k = 5 ∨ k = 6 := by omega
  all_goals rfl

set_option maxHeartbeats 1000000 in
theorem rbegins_any (s : Shp) (h : InB s) (r : Nat) (hr : r ≤ 7) (w : World) :
    Calls Tryz.prog 57 #[shV s, .int .i64 r] w fun e w' => e = .returned (.int .i64 (beg s r)) ∧ Below w.heap.size w w' := by
  have hB0 := ShBox.new w s
  have hb0 := newBox w (.cells #[.int .i64 s.cl, .int .i64 s.wi, .int .i64 s.pl, .int .i64 s.ca, .int .i64 s.ino, .int .i64 s.qu, .int .i64 s.da, .int .i64 s.jo] 27)
  go_enter Tryz.func57, Tryz.ntmps57
  obtain ⟨a0, a1, a2, a3, a4, a5, a6, a7⟩ := hB0
  go_wp2_with fail
  clear a0 a1 a2 a3 a4 a5 a6 a7
  generalize w.alloc (.cells #[.int .i64 s.cl, .int .i64 s.wi, .int .i64 s.pl, .int .i64 s.ca, .int .i64 s.ino, .int .i64 s.qu, .int .i64 s.da, .int .i64 s.jo] 27) = w0 at *
  refine (rlengths_any s h _).mono ?_
  rintro e w1 ⟨g, rfl, hg, hrow, hb1⟩
  have hq := hb0.trans (hb1.mono hb0.size)
  clear hb0 hb1 hg
  go_wp2_with fail
  go_loopw [6, 7] (fun m v wr => ∃ k : Nat, k ≤ r ∧ v = .int .i64 k ∧ m = .int .i64 (beg s k) ∧ wr = w1) (fun _ v _ => r - (intOf v).toNat)
  case atStart => exact ⟨0, Nat.zero_le _, rfl, rfl, rfl⟩
  case round =>
    obtain ⟨k, hk, rfl, rfl, rfl⟩ := hrel
    by_cases hlt : k < r
    · have hc := lens_cell hrow k (by omega)
      have hl := lens_bd h k (by omega)
      have hs := beg_bd h k (by omega)
      have HS : Hid (beg s (k + 1) = beg s k + (lensL s).getD k 0) := beg_succ s k (by omega)
      have k7 : (k : Int) < 7 := by omega
      have kr : (k : Int) < r := by omega
      generalize (lensL s).getD k 0 = y at *
      generalize hB : beg s k = B at *
      clear hB hrow
      go_wp2_with fail
      go_roundw
      case rel => exact ⟨k + 1, by omega, by go_num, by rw [HS.out], by first | rfl | trivial⟩
      case measure => simp [intOf]; omega
    · obtain rfl : k = r := by omega
      clear hrow
      go_wp2_with fail
      go_ret
      exact ⟨rfl, hq⟩
end Go.Proofs.YtfmcbjlagdanjaaGreatDoor
