/- A journal that ends: end, met at an error, by their contracts. -/
import Derived.Test.YtnmdnglbpkpfdaaGreatDoorPk21
import Derived.Test.YtnmdnglbpkpfdaaGreatDoorPk07
import Derived.Test.YtnmdnglbpkpfdaaGreatDoorPk17
import Derived.Test.YtnmdnglbpkpfdaaGreatDoorPk15
import Derived.Test.YtnmdnglbpkpfdaaGreatDoorPk16
namespace Go.Proofs.YtnmdnglbpkpfdaaGreatDoor
open Go.RowKit Go.Maps
set_option maxRecDepth 100000
/-- A journal that has ended. -/
def Je (w : World) (jb : Nat) : Prop := w.heap[jb]? = some (.cells #[.pointer none, .int .i64 0, .int .i64 0, .int .i64 0, .int .i64 0, .int .i64 0, .map none, .pointer none, .bool true] 101)
theorem set9 {w : World} {b t : Nat} {a0 a1 a2 a3 a4 a5 a6 a7 a8 : Value} (h : w.heap[b]? = some (.cells #[a0, a1, a2, a3, a4, a5, a6, a7, a8] t)) (c0 c1 c2 c3 c4 c5 c6 c7 c8 : Value) :
    (((((((((w.setCell ⟨b, 0, none⟩ c0).setCell ⟨b, 1, none⟩ c1).setCell ⟨b, 2, none⟩ c2).setCell ⟨b, 3, none⟩ c3).setCell ⟨b, 4, none⟩ c4).setCell ⟨b, 5, none⟩ c5).setCell ⟨b, 6, none⟩ c6).setCell ⟨b, 7, none⟩ c7).setCell ⟨b, 8, none⟩ c8).heap[b]? = some (.cells #[c0, c1, c2, c3, c4, c5, c6, c7, c8] t) := by
  have e0 : (w.setCell ⟨b, 0, none⟩ c0).heap[b]? = some (.cells #[c0, a1, a2, a3, a4, a5, a6, a7, a8] t) := heap_setCell_same _ b 0 _ _ c0 h
  have e1 : ((w.setCell ⟨b, 0, none⟩ c0).setCell ⟨b, 1, none⟩ c1).heap[b]? = some (.cells #[c0, c1, a2, a3, a4, a5, a6, a7, a8] t) := heap_setCell_same _ b 1 _ _ c1 e0
  have e2 : (((w.setCell ⟨b, 0, none⟩ c0).setCell ⟨b, 1, none⟩ c1).setCell ⟨b, 2, none⟩ c2).heap[b]? = some (.cells #[c0, c1, c2, a3, a4, a5, a6, a7, a8] t) := heap_setCell_same _ b 2 _ _ c2 e1
  have e3 : ((((w.setCell ⟨b, 0, none⟩ c0).setCell ⟨b, 1, none⟩ c1).setCell ⟨b, 2, none⟩ c2).setCell ⟨b, 3, none⟩ c3).heap[b]? = some (.cells #[c0, c1, c2, c3, a4, a5, a6, a7, a8] t) := heap_setCell_same _ b 3 _ _ c3 e2
  have e4 : (((((w.setCell ⟨b, 0, none⟩ c0).setCell ⟨b, 1, none⟩ c1).setCell ⟨b, 2, none⟩ c2).setCell ⟨b, 3, none⟩ c3).setCell ⟨b, 4, none⟩ c4).heap[b]? = some (.cells #[c0, c1, c2, c3, c4, a5, a6, a7, a8] t) := heap_setCell_same _ b 4 _ _ c4 e3
  have e5 : ((((((w.setCell ⟨b, 0, none⟩ c0).setCell ⟨b, 1, none⟩ c1).setCell ⟨b, 2, none⟩ c2).setCell ⟨b, 3, none⟩ c3).setCell ⟨b, 4, none⟩ c4).setCell ⟨b, 5, none⟩ c5).heap[b]? = some (.cells #[c0, c1, c2, c3, c4, c5, a6, a7, a8] t) := heap_setCell_same _ b 5 _ _ c5 e4
  have e6 : (((((((w.setCell ⟨b, 0, none⟩ c0).setCell ⟨b, 1, none⟩ c1).setCell ⟨b, 2, none⟩ c2).setCell ⟨b, 3, none⟩ c3).setCell ⟨b, 4, none⟩ c4).setCell ⟨b, 5, none⟩ c5).setCell ⟨b, 6, none⟩ c6).heap[b]? = some (.cells #[c0, c1, c2, c3, c4, c5, c6, a7, a8] t) := heap_setCell_same _ b 6 _ _ c6 e5
  have e7 : ((((((((w.setCell ⟨b, 0, none⟩ c0).setCell ⟨b, 1, none⟩ c1).setCell ⟨b, 2, none⟩ c2).setCell ⟨b, 3, none⟩ c3).setCell ⟨b, 4, none⟩ c4).setCell ⟨b, 5, none⟩ c5).setCell ⟨b, 6, none⟩ c6).setCell ⟨b, 7, none⟩ c7).heap[b]? = some (.cells #[c0, c1, c2, c3, c4, c5, c6, c7, a8] t) := heap_setCell_same _ b 7 _ _ c7 e6
  have e8 : (((((((((w.setCell ⟨b, 0, none⟩ c0).setCell ⟨b, 1, none⟩ c1).setCell ⟨b, 2, none⟩ c2).setCell ⟨b, 3, none⟩ c3).setCell ⟨b, 4, none⟩ c4).setCell ⟨b, 5, none⟩ c5).setCell ⟨b, 6, none⟩ c6).setCell ⟨b, 7, none⟩ c7).setCell ⟨b, 8, none⟩ c8).heap[b]? = some (.cells #[c0, c1, c2, c3, c4, c5, c6, c7, c8] t) := heap_setCell_same _ b 8 _ _ c8 e7
  exact e8
set_option maxHeartbeats 1000000 in
theorem end_none {w : World} {jb d st sz : Nat} {seq place free : Int} {bm : Nat} (hJ : Jb w jb d st sz seq place free bm none) :
    Calls Tryz.prog 94 #[.pointer (some ⟨jb, 0, none⟩)] w fun e w' => e = .returned (.tuple #[]) ∧ Je w' jb ∧ Turns (fun i => i = jb) w w' := by
  obtain ⟨c0, c1, c2, c3, c4, c5, c6, c7, c8, fz⟩ := hJ.cells
  have z0 := fz 0
  have z1 := fz 1
  have z2 := fz 2
  have z3 := fz 3
  have z4 := fz 4
  have z5 := fz 5
  have z6 := fz 6
  have z7 := fz 7
  have z8 := fz 8
  go_enter Tryz.func94, Tryz.ntmps94
  go_wp2_with fail
  first | go_end0 | refine bodyPost_ret (results_none rfl _ _ _) rfl ?_
  exact ⟨rfl, set9 hJ _ _ _ _ _ _ _ _ _, (((((((((Turns.cell w jb 0 (.pointer none)).trans (Turns.cell _ jb 1 (.int .i64 0)) (fun _ _ h => h)).trans (Turns.cell _ jb 2 (.int .i64 0)) (fun _ _ h => h)).trans (Turns.cell _ jb 3 (.int .i64 0)) (fun _ _ h => h)).trans (Turns.cell _ jb 4 (.int .i64 0)) (fun _ _ h => h)).trans (Turns.cell _ jb 5 (.int .i64 0)) (fun _ _ h => h)).trans (Turns.cell _ jb 6 (.map none)) (fun _ _ h => h)).trans (Turns.cell _ jb 7 (.pointer none)) (fun _ _ h => h)).trans (Turns.cell _ jb 8 (.bool true)) (fun _ _ h => h))⟩
theorem met_err {w : World} {jb wb d st sz : Nat} {seq place free : Int} {bm : Nat} {ev : Value} {c : Int} (hW : Wk w wb d ev) (hv : ErrV ev c) (hc : c ≠ 0) (hne : wb ≠ jb) (hJ : Jb w jb d st sz seq place free bm none) (hg : ErT w) (hj : 0 < jb) :
    Calls Tryz.prog 53 #[.pointer (some ⟨jb, 0, none⟩), .pointer (some ⟨wb, 0, none⟩)] w fun e w' => e = .returned (.int .i64 c) ∧ Je w' jb ∧ Turns (fun i => i = jb) w w' := by
  obtain ⟨s, hev⟩ := (hv.resolve_left (fun h => hc h.1)).2
  have hv2 := hv
  subst hev
  have c0 := hW.c0
  have c1 := hW.c1
  go_enter Tryz.func53, Tryz.ntmps53
  go_wp2_with fail
  refine (end_none hJ).mono ?_
  rintro e w1 ⟨rfl, J1, t1⟩
  have W1 : Wk w1 wb d _ := (t1.block wb (heap_lt hW) hne).trans hW
  clear c0 c1
  have c0 := W1.c0
  have c1 := W1.c1
  have g1 : ErT w1 := by
    have hlt := hg.lt
    have := t1.block 0 hlt (by omega)
    unfold ErT at *
    simp only [World.cell?] at *
    rw [this]; exact hg
  go_wp2_with fail
  refine (jcodeOf_any hv2 g1).mono ?_
  rintro e w2 ⟨rfl, b2⟩
  go_wp2_with fail
  go_ret
  exact ⟨rfl, (b2.block jb (heap_lt J1)).trans J1, t1.trans (Below.turns b2 (fun i => i = jb)) (fun _ _ h => h)⟩
end Go.Proofs.YtnmdnglbpkpfdaaGreatDoor

/- Commit by its contract, where the device fails under it: the journal has ended. -/
namespace Go.Proofs.YtnmdnglbpkpfdaaGreatDoor
open Go.RowKit Go.Maps
set_option maxRecDepth 100000
theorem ErT.turns {w w' : World} {F : Nat → Prop} (h : ErT w) (t : Turns F w w') (hF : ¬ F 0) : ErT w' := by
  have := t.block 0 h.lt hF
  unfold ErT at *
  simp only [World.cell?] at *
  rw [this]; exact h
set_option maxHeartbeats 2000000 in
theorem txCommit_roomE {w : World} {d : Nat} {S : DevS} {k N : Nat} {G : Nat → Prop} {jb st sz : Nat} {seq : Int} {place : Nat} {free : Int} {bm nd : Nat} {a : List (Nat × Nat)} {fa : Nat → List Int} {tb wm ns : Nat} {m : List (Nat × Nat)} {f : Nat → List Int} {sv : Value} {last : Int} (h : Tx w d S k N G jb st sz seq place free bm nd a fa tb wm ns m f sv last) (hl1 : 1 ≤ m.length) (hl : m.length ≤ 24) (ha : Low a) (hm : Low m) (hf : (m.length : Int) + 2 ≤ free) (hf2 : free ≤ 10000)
    (h1 : 27 ≤ sz) (h2 : st + sz ≤ k) (hk : k ≤ 4096) (ho : S.off = false) (hg : ErT w) (hz : ¬ G 0) (hj0 : 0 < jb) (ht0 : 0 < tb) (hb0 : 0 < bm) (hc : (comP k (0, S) st sz place seq f m).1 ≠ 0) (hN : N ≤ 1000000000) (hp : place ≤ 4096) (hs : 0 ≤ seq ∧ seq ≤ 4611686018427387904) (hnd : nd ≤ 100000) :
    Calls Tryz.prog 14 #[.pointer (some ⟨tb, 0, none⟩)] w fun e w' => e = .returned (.int .i64 (comP k (0, S) st sz place seq f m).1) ∧ Td w' tb ∧ Je w' jb ∧ Turns (fun i => G i ∨ i = bm ∨ i = jb ∨ i = tb) w w' ∧ ∃ G', Dev w' d 0 (comP k (0, S) st sz place seq f m).2 k (N + m.length + 2) G' ∧ (∀ i, G' i → G i ∨ w.heap.size ≤ i) ∧ ¬ G' jb := by
  have t0 := h.T.cells.c0
  have t1 := h.T.cells.c1
  go_enter Tryz.func14, Tryz.ntmps14
  go_wp2_with fail
  go_quiet (fail)
  go_wp2_with fail
  refine (close_ok (w := w.drewN _) h.T h.J h.tj).mono ?_
  rintro e w1 ⟨rfl, T1, J1, u1⟩
  have u1 : Turns (fun i => i = tb ∨ i = jb) w w1 := (Turns.drewN _ w _).trans u1 (fun _ _ h => h)
  have nv : ∀ (g : Nat) (l : List Int), w.heap[g]? = some (bl l) → ¬ (g = tb ∨ g = jb) := fun g l hg e => by
    rcases e with rfl | rfl
    · have := h.T; unfold Tb at this; rw [hg] at this; simp [bl] at this
    · have := h.J; unfold Jb at this; rw [hg] at this; simp [bl] at this
  have D1 := h.D.turns u1 (fun i hi h' => h'.elim (fun e => h.gt (e ▸ hi)) (fun e => h.gj (e ▸ hi)))
  have M1 := h.M.turns u1 (fun h' => h'.elim (fun e => h.tm e.symm) (fun e => h.jm e.symm))
  have A1 := h.A.turns u1 (fun h' => h'.elim (fun e => h.ta e.symm) (fun e => h.ja e.symm))
  have V1 := h.V.turns u1 (fun p hp => nv p.2 _ (h.V p hp).1)
  have VA1 := h.VA.turns u1 (fun p hp => nv p.2 _ (h.VA p hp).1)
  clear t0 t1 nv
  go_wp2_with fail
  refine (power_ok D1 J1 ho).mono ?_
  rintro e w2 ⟨rfl, q2⟩
  have M2 := M1.turns q2.2 h.gm
  have A2 := A1.turns q2.2 h.ga
  have V2 := V1.turns q2.2 h.gv
  have VA2 := VA1.turns q2.2 h.gva
  have T2 : Td w2 tb := T1.keep q2.2 h.gt
  have J2 : Jb w2 jb d st sz seq place free bm none := (q2.2.block jb (heap_lt J1) h.gj).trans J1
  have hsz : (Maps.size (mD m) : Int) = (m.length : Int) := by simp [mD, Maps.size_eq]
  have hln : ∀ (ty : TypeId), (Builtin.len_ #[99] ty #[.map (some wm)]).run Tryz.prog w2 = .ok (.int .i64 m.length) w2 := fun ty => by
    have := M2.own.len Tryz.underlying99 ty
    rwa [hsz] at this
  have tt : Turns (fun i => G i ∨ i = bm ∨ i = jb ∨ i = tb) w w2 := (u1.mono (fun _ _ h => Or.inr (Or.inr h.symm))).trans q2.2 (fun _ _ h => Or.inl h)
  have D2 := q2.1
  have hG2 := D2.lt
  have c3 := J2.cells.c3
  have c0 := J2.cells.c0
  have hm0 : ¬ (m.length : Int) = 0 := by omega
  have hs2 : ¬ (4611686018427387904 : Int) < seq := by omega
  clear D1 M1 T1 J1 u1 q2 hsz A1 V1 VA1
  go_wp2_with fail
  refine (begun_any D2).mono ?_
  rintro e w3 ⟨ev, rfl, hev, k3, q3⟩
  have he : begE S = 0 := by unfold begE; rw [if_neg (by simp [ho])]
  rw [he] at hev
  obtain ⟨_, rfl⟩ := hev.resolve_right (fun h => h.1 rfl)
  have g3 := Wg.start hG2 k3 q3
  obtain ⟨wb, hwb⟩ : ∃ wb, w2.heap.size = wb := ⟨_, rfl⟩
  have lj := heap_lt J2
  have lt := heap_lt T2
  have la := A2.own.lt
  have lm := M2.own.lt
  have t3 := q3.2
  have J3 : Jb w3 jb d st sz seq place free bm none := (t3.block jb lj h.gj).trans J2
  have A3 := A2.turns t3 h.ga
  have M3 := M2.turns t3 h.gm
  have V3 := V2.turns t3 h.gv
  have VA3 := VA2.turns t3 h.gva
  have C3 : Cm w2 w3 G (fun i => i = wb ∨ (i < wb ∧ ¬ G i)) wb d S k N jb st sz seq place free bm none nd a wm ns m f fa := by
    obtain ⟨G', D', hG', hX'⟩ := g3.dv
    rw [hwb] at g3
    refine ⟨⟨g3.wk, ⟨G, q3.1, fun _ hi => Or.inl hi, fun i hi r => hi.elim (fun e => by have := hG2 i r; omega) (fun e => e.2 r)⟩, fun i hi => by have := t3.size; have := heap_lt g3.wk; rcases hi with rfl | hi <;> omega, Or.inl rfl, g3.tr, g3.nw⟩, J3, A3, M3, V3, VA3, ⟨Or.inr ⟨by omega, h.gj⟩, by omega⟩, ⟨Or.inr ⟨by omega, h.ga⟩, by omega⟩, ⟨Or.inr ⟨by omega, h.gm⟩, by omega⟩, fun p hp => ?_, fun p hp => ?_⟩
    · have := heap_lt (V2 p hp).1
      exact ⟨Or.inr ⟨by omega, h.gv p hp⟩, by omega⟩
    · have := heap_lt (VA2 p hp).1
      exact ⟨Or.inr ⟨by omega, h.gva p hp⟩, by omega⟩
  clear c3 c0 hln g3 k3 q3 J3 A3 M3 V3 VA3
  try rw [hwb]
  go_wp2_with fail
  refine (commit_room C3.any hl1 hl ha hm hf hf2 h1 h2 hk hN hp (by omega) hnd h.am h.ja h.jm).mono ?_
  rintro e w4 ⟨rfl, C4⟩
  obtain ⟨ev, hev, hwk⟩ := C4.wk
  have t4 := C4.tr
  obtain ⟨G4, D4, hG4, hX4⟩ := C4.dv
  have hg2 : ErT w2 := hg.turns tt (fun r => by rcases r with r | r | r | r; exact hz r; all_goals omega)
  have hlt2 := hg2.lt
  have hg4 : ErT w4 := hg2.turns t4 (fun r => by rcases r with r | r | r | r; exact hz r; all_goals omega)
  have hjX : ¬ G4 jb := hX4 jb (Or.inr ⟨by omega, h.gj⟩)
  go_wp2_with fail
  refine (met_err hwk hev hc (by omega) C4.J hg4 hj0).mono ?_
  rintro e w5 ⟨rfl, J5, t5⟩
  go_wp2
  go_ret
  have nT : ¬ (G tb ∨ tb = wb ∨ tb = bm ∨ tb = jb) := fun r => by
    rcases r with r | r | r | r
    · exact h.gt r
    · omega
    · exact h.ta r
    · exact h.tj r
  have T4 : Td w4 tb := T2.keep t4 nT
  have s2 := tt.size
  refine ⟨rfl, T4.keep t5 h.tj, J5, ?_, G4, D4.turns t5 (fun i hi e => hjX (e ▸ hi)), fun i hi => (hG4 i hi).imp id (fun r => by omega), hjX⟩
  refine (tt.trans t4 (fun i hi r => ?_)).trans t5 (fun i _ e => Or.inr (Or.inr (Or.inl e)))
  rcases r with r | r | r | r
  · exact Or.inl r
  · omega
  · exact Or.inr (Or.inl r)
  · exact Or.inr (Or.inr (Or.inl r))
set_option maxHeartbeats 2000000 in
theorem txCommit_ckE {w : World} {d : Nat} {S : DevS} {k N : Nat} {G : Nat → Prop} {jb st sz : Nat} {seq : Int} {place : Nat} {free : Int} {bm nd : Nat} {a : List (Nat × Nat)} {fa : Nat → List Int} {tb wm ns : Nat} {m : List (Nat × Nat)} {f : Nat → List Int} {sv : Value} {last : Int} (h : Tx w d S k N G jb st sz seq place free bm nd a fa tb wm ns m f sv last) (hl1 : 1 ≤ m.length) (hl : m.length ≤ 24) (ha : Low a) (hm : Low m) (hf : free < (m.length : Int) + 2) (ha0 : 0 < a.length)
    (h1 : 27 ≤ sz) (h2 : st + sz ≤ k) (hk : k ≤ 4096) (ho : S.off = false) (hg : ErT w) (hz : ¬ G 0) (hj0 : 0 < jb) (ht0 : 0 < tb) (hc : (comP k (ckP k (0, S) fa a st seq place) st sz place seq f m).1 ≠ 0) (hN : N ≤ 1000000000) (hp : place ≤ 4096) (hs : 0 ≤ seq ∧ seq ≤ 4611686018427387904) :
    Calls Tryz.prog 14 #[.pointer (some ⟨tb, 0, none⟩)] w fun e w' => e = .returned (.int .i64 (comP k (ckP k (0, S) fa a st seq place) st sz place seq f m).1) ∧ Td w' tb ∧ Je w' jb ∧ Turns (fun i => G i ∨ i = jb ∨ i = tb) w w' ∧ ∃ G', Dev w' d 0 (comP k (ckP k (0, S) fa a st seq place) st sz place seq f m).2 k (N + a.length + 1 + m.length + 2) G' ∧ (∀ i, G' i → G i ∨ w.heap.size ≤ i) ∧ ¬ G' jb := by
  have t0 := h.T.cells.c0
  have t1 := h.T.cells.c1
  go_enter Tryz.func14, Tryz.ntmps14
  go_wp2_with fail
  go_quiet (fail)
  go_wp2_with fail
  refine (close_ok (w := w.drewN _) h.T h.J h.tj).mono ?_
  rintro e w1 ⟨rfl, T1, J1, u1⟩
  have u1 : Turns (fun i => i = tb ∨ i = jb) w w1 := (Turns.drewN _ w _).trans u1 (fun _ _ h => h)
  have nv : ∀ (g : Nat) (l : List Int), w.heap[g]? = some (bl l) → ¬ (g = tb ∨ g = jb) := fun g l hg e => by
    rcases e with rfl | rfl
    · have := h.T; unfold Tb at this; rw [hg] at this; simp [bl] at this
    · have := h.J; unfold Jb at this; rw [hg] at this; simp [bl] at this
  have D1 := h.D.turns u1 (fun i hi h' => h'.elim (fun e => h.gt (e ▸ hi)) (fun e => h.gj (e ▸ hi)))
  have M1 := h.M.turns u1 (fun h' => h'.elim (fun e => h.tm e.symm) (fun e => h.jm e.symm))
  have A1 := h.A.turns u1 (fun h' => h'.elim (fun e => h.ta e.symm) (fun e => h.ja e.symm))
  have V1 := h.V.turns u1 (fun p hp => nv p.2 _ (h.V p hp).1)
  have VA1 := h.VA.turns u1 (fun p hp => nv p.2 _ (h.VA p hp).1)
  clear t0 t1 nv
  go_wp2_with fail
  refine (power_ok D1 J1 ho).mono ?_
  rintro e w2 ⟨rfl, q2⟩
  have M2 := M1.turns q2.2 h.gm
  have A2 := A1.turns q2.2 h.ga
  have V2 := V1.turns q2.2 h.gv
  have VA2 := VA1.turns q2.2 h.gva
  have T2 : Td w2 tb := T1.keep q2.2 h.gt
  have J2 : Jb w2 jb d st sz seq place free bm none := (q2.2.block jb (heap_lt J1) h.gj).trans J1
  have hsz : (Maps.size (mD m) : Int) = (m.length : Int) := by simp [mD, Maps.size_eq]
  have hln : ∀ (ty : TypeId), (Builtin.len_ #[99] ty #[.map (some wm)]).run Tryz.prog w2 = .ok (.int .i64 m.length) w2 := fun ty => by
    have := M2.own.len Tryz.underlying99 ty
    rwa [hsz] at this
  have tt : Turns (fun i => G i ∨ i = jb ∨ i = tb) w w2 := (u1.mono (fun _ _ h => Or.inr h.symm)).trans q2.2 (fun _ _ h => Or.inl h)
  have D2 := q2.1
  have hG2 := D2.lt
  have c3 := J2.cells.c3
  have c0 := J2.cells.c0
  have hm0 : ¬ (m.length : Int) = 0 := by omega
  have hs2 : ¬ (4611686018427387904 : Int) < seq := by omega
  clear D1 M1 T1 J1 u1 q2 hsz A1 V1 VA1
  go_wp2_with fail
  refine (begun_any D2).mono ?_
  rintro e w3 ⟨ev, rfl, hev, k3, q3⟩
  have he : begE S = 0 := by unfold begE; rw [if_neg (by simp [ho])]
  rw [he] at hev
  obtain ⟨_, rfl⟩ := hev.resolve_right (fun h => h.1 rfl)
  have g3 := Wg.start hG2 k3 q3
  obtain ⟨wb, hwb⟩ : ∃ wb, w2.heap.size = wb := ⟨_, rfl⟩
  have lj := heap_lt J2
  have lt := heap_lt T2
  have la := A2.own.lt
  have lm := M2.own.lt
  have t3 := q3.2
  have J3 : Jb w3 jb d st sz seq place free bm none := (t3.block jb lj h.gj).trans J2
  have A3 := A2.turns t3 h.ga
  have M3 := M2.turns t3 h.gm
  have V3 := V2.turns t3 h.gv
  have VA3 := VA2.turns t3 h.gva
  have C3 : Cm w2 w3 G (fun i => i = wb ∨ (i < wb ∧ ¬ G i)) wb d S k N jb st sz seq place free bm none nd a wm ns m f fa := by
    obtain ⟨G', D', hG', hX'⟩ := g3.dv
    rw [hwb] at g3
    refine ⟨⟨g3.wk, ⟨G, q3.1, fun _ hi => Or.inl hi, fun i hi r => hi.elim (fun e => by have := hG2 i r; omega) (fun e => e.2 r)⟩, fun i hi => by have := t3.size; have := heap_lt g3.wk; rcases hi with rfl | hi <;> omega, Or.inl rfl, g3.tr, g3.nw⟩, J3, A3, M3, V3, VA3, ⟨Or.inr ⟨by omega, h.gj⟩, by omega⟩, ⟨Or.inr ⟨by omega, h.ga⟩, by omega⟩, ⟨Or.inr ⟨by omega, h.gm⟩, by omega⟩, fun p hp => ?_, fun p hp => ?_⟩
    · have := heap_lt (V2 p hp).1
      exact ⟨Or.inr ⟨by omega, h.gv p hp⟩, by omega⟩
    · have := heap_lt (VA2 p hp).1
      exact ⟨Or.inr ⟨by omega, h.gva p hp⟩, by omega⟩
  clear c3 c0 hln g3 k3 q3 J3 A3 M3 V3 VA3
  try rw [hwb]
  go_wp2_with fail
  have hla := low_len A2.ris ha
  refine (commit_full C3.any hl1 hl ha hm hf ha0 hla h1 h2 hk (by omega) hp (by omega) h.jm).mono ?_
  rintro e w4 ⟨rfl, bm9, lb9, C4⟩
  obtain ⟨ev, hev, hwk⟩ := C4.wk
  have t4 := C4.tr
  obtain ⟨G4, D4, hG4, hX4⟩ := C4.dv
  have s3 := t3.size
  have hg2 : ErT w2 := hg.turns tt (fun r => by rcases r with r | r | r; exact hz r; all_goals omega)
  have hlt2 := hg2.lt
  have hg4 : ErT w4 := hg2.turns t4 (fun r => by rcases r with (r | r) | r | r | r; exact hz r; all_goals omega)
  have hjX : ¬ G4 jb := hX4 jb (Or.inl (Or.inr ⟨by omega, h.gj⟩))
  go_wp2_with fail
  refine (met_err hwk hev hc (by omega) C4.J hg4 hj0).mono ?_
  rintro e w5 ⟨rfl, J5, t5⟩
  go_wp2
  go_ret
  have nT : ¬ ((G tb ∨ tb = jb) ∨ tb = wb ∨ tb = bm9 ∨ tb = jb) := fun r => by
    rcases r with (r | r) | r | r | r
    · exact h.gt r
    · exact h.tj r
    · omega
    · omega
    · exact h.tj r
  have T4 : Td w4 tb := T2.keep t4 nT
  have s2 := tt.size
  refine ⟨rfl, T4.keep t5 h.tj, J5, ?_, G4, D4.turns t5 (fun i hi e => hjX (e ▸ hi)), fun i hi => ?_, hjX⟩
  · refine (tt.trans t4 (fun i hi r => ?_)).trans t5 (fun i _ e => Or.inr (Or.inl e))
    rcases r with (r | r) | r | r | r
    · exact Or.inl r
    · exact Or.inr (Or.inl r)
    · omega
    · omega
    · exact Or.inr (Or.inl r)
  · rcases hG4 i hi with (r | r) | r
    · exact Or.inl r
    · exact absurd (r ▸ hi) hjX
    · exact Or.inr (by omega)
end Go.Proofs.YtnmdnglbpkpfdaaGreatDoor

/- power, Begin where the power is off; Check where blocks are away, whatever it meets: by their contracts. -/
namespace Go.Proofs.YtnmdnglbpkpfdaaGreatDoor
open Go.RowKit Go.Maps
set_option maxRecDepth 100000
/-- Check, while blocks are away: what stands behind its checkpoint. -/
structure CkD (w w' : World) (d : Nat) (e : Int) (S : DevS) (k N : Nat) (G : Nat → Prop) (jb st sz : Nat) (seq : Int) (place : Nat) : Prop where
  tr : Turns (fun i => G i ∨ i = jb) w w'
  ok : e = 0 → ∃ G' bm', Jn w' d S k N G' jb st sz seq place (sz - 1) bm' 0 [] (fun _ => []) ∧ (∀ i, G' i → G i ∨ w.heap.size ≤ i) ∧ w.heap.size ≤ bm'
  no : e ≠ 0 → Je w' jb ∧ ∃ G', Dev w' d 0 S k N G' ∧ (∀ i, G' i → G i ∨ w.heap.size ≤ i) ∧ ¬ G' jb
set_option maxHeartbeats 2000000 in
theorem check_any {w : World} {d : Nat} {S : DevS} {k N : Nat} {G : Nat → Prop} {jb st sz : Nat} {seq : Int} {place : Nat} {free : Int} {bm nd : Nat} {a : List (Nat × Nat)} {fa : Nat → List Int} (h : Jn w d S k N G jb st sz seq place free bm nd a fa) (ho : S.off = false) (ha0 : 0 < a.length) (ha : Low a) (hl : a.length ≤ 4096) (h1 : 2 ≤ sz ∧ sz ≤ 4096) (hN : N ≤ 1000000000) (hg : ErT w) (hz : ¬ G 0) (hj0 : 0 < jb) :
    Calls Tryz.prog 23 #[.pointer (some ⟨jb, 0, none⟩)] w fun e w' => e = .returned (.int .i64 (ckP k (0, S) fa a st seq place).1) ∧ CkD w w' d (ckP k (0, S) fa a st seq place).1 (ckP k (0, S) fa a st seq place).2 k (N + a.length + 1) G jb st sz seq place := by
  obtain ⟨c0, c1, c2, c3, c4, c5, c6, c7, c8, fz⟩ := h.J.cells
  have hG := h.D.lt
  have lj := heap_lt h.J
  have la := h.A.own.lt
  go_enter Tryz.func23, Tryz.ntmps23
  go_wp2_with fail
  refine (begun_any h.D).mono ?_
  rintro e w1 ⟨ev, rfl, hev, k1, q1⟩
  have he : begE S = 0 := by unfold begE; rw [if_neg (by simp [ho])]
  rw [he] at hev
  have J1 : Jb w1 jb d st sz seq place free bm none := (q1.2.block jb lj h.gj).trans h.J
  have A1 := h.A.turns q1.2 h.ga
  have VA1 := h.VA.turns q1.2 h.gva
  have g1 : ErT w1 := hg.turns q1.2 hz
  obtain ⟨wb, hwb⟩ : ∃ wb, w.heap.size = wb := ⟨_, rfl⟩
  rw [hwb] at k1
  have lw := heap_lt k1
  have C1 : Cj w w1 G (fun i => i = wb ∨ (i < wb ∧ ¬ G i)) wb d 0 S k N jb st sz seq place free bm none nd a fa := by
    refine ⟨⟨⟨ev, hev, k1⟩, ⟨G, q1.1, fun _ hi => Or.inl hi, fun i hi r => hi.elim (fun e => by have := hG i r; omega) (fun e => e.2 r)⟩, fun i hi => by rcases hi with rfl | hi <;> omega, Or.inl rfl, q1.2.mono (fun _ _ => Or.inl), by omega⟩, J1, A1, VA1, ⟨Or.inr ⟨by omega, h.gj⟩, by omega⟩, ⟨Or.inr ⟨by omega, h.ga⟩, by omega⟩, fun p hp => ?_⟩
    have := heap_lt (h.VA p hp).1
    exact ⟨Or.inr ⟨by omega, h.gva p hp⟩, by omega⟩
  clear c0 c1 c2 c3 c4 c5 c6 c7 c8 fz k1
  try rw [hwb]
  go_wp2_with fail
  refine (checkpoint_any C1 ha0 ha hl h1 hN).mono ?_
  rintro e w2 ⟨rfl, bm', lb', C2, _⟩
  obtain ⟨ev2, hev2, hwk⟩ := C2.g.wk
  obtain ⟨G2, D2, hG2, hX2⟩ := C2.g.dv
  have t2 := C2.g.tr
  have hjX : ¬ G2 jb := hX2 jb (Or.inl (Or.inr ⟨by omega, h.gj⟩))
  have s1 := q1.2.size
  have hlt := hg.lt
  have g2 : ErT w2 := hg.turns t2 (fun r => by rcases r with (r | r) | r; exact hz r; all_goals omega)
  have t2' : Turns (fun i => G i ∨ i = jb) w w2 := t2.mono (fun i hi r => by
    rcases r with (r | r) | r
    · exact Or.inl r
    · exact Or.inr r
    · omega)
  have hG2' : ∀ i, G2 i → G i ∨ w.heap.size ≤ i := fun i hi => by
    rcases hG2 i hi with (r | r) | r
    · exact Or.inl r
    · exact absurd (r ▸ hi) hjX
    · exact Or.inr r
  by_cases hc : (ckP k (0, S) fa a st seq place).1 = 0
  · rw [hc] at hev2
    obtain ⟨_, rfl⟩ := hev2.resolve_right (fun h => h.1 rfl)
    go_wp2_with fail
    refine (met_ok hwk).mono ?_
    rintro e w3 ⟨rfl, b3⟩
    have b3t := Below.turns b3 (fun _ => False)
    go_wp2
    go_ret
    refine ⟨(by rw [hc]; rfl), t2'.trans b3t (fun _ _ => False.elim), fun _ => ⟨G2, bm', ⟨D2.turns b3t (fun _ _ => id), (b3.block jb (heap_lt C2.J)).trans C2.J, C2.A.turns b3t id, C2.VA.turns b3t (fun _ _ => id), hjX, hX2 bm' (Or.inr rfl), fun p hp => (by cases hp), by omega⟩, hG2', by omega⟩, fun hn => absurd hc hn⟩
  · go_wp2_with fail
    refine (met_err hwk hev2 hc (by omega) C2.J g2 hj0).mono ?_
    rintro e w3 ⟨rfl, J3, t3⟩
    go_wp2
    go_ret
    exact ⟨rfl, t2'.trans t3 (fun _ _ => Or.inr), fun h0 => absurd h0 hc, fun _ => ⟨J3, G2, D2.turns t3 (fun i hi e => hjX (e ▸ hi)), hG2', hjX⟩⟩
end Go.Proofs.YtnmdnglbpkpfdaaGreatDoor

/- Plain mathematics: operations of a device one behind the other, the power failing at one of them; what survives a crash. -/
namespace Go.Proofs.YtnmdnglbpkpfdaaGreatDoor
open Go.RowKit Go.Maps
set_option maxRecDepth 100000
/-- An operation: a write, or a flush. -/
abbrev Opn := Option (Nat × List Int)
def stepP (k : Nat) (p : Int × DevS) : Opn → Int × DevS
  | some q => pW k p q.1 q.2
  | none => pF p
def runP (k : Nat) (p : Int × DevS) (os : List Opn) : Int × DevS := os.foldl (stepP k) p
/-- The same without a power that fails. -/
def stepQ (p : List Int × List (Nat × List Int)) : Opn → List Int × List (Nat × List Int)
  | some q => (p.1, p.2 ++ [q])
  | none => (layAll p.1 p.2, [])
def runQ (p : List Int × List (Nat × List Int)) (os : List Opn) : List Int × List (Nat × List Int) := os.foldl stepQ p
theorem burnt_last (S : DevS) : (burnt S).last = S.last := by unfold burnt; split <;> rfl
theorem burnt_pend (S : DevS) : (burnt S).pend = S.pend := by unfold burnt; split <;> rfl
theorem runP_stop (k : Nat) (e : Int) (S : DevS) (he : e ≠ 0) : ∀ os, runP k (e, S) os = (e, S)
  | [] => rfl
  | o :: os => by
    have h : stepP k (e, S) o = (e, S) := by
      cases o with
      | none => simp [stepP, pF, fkE, fkS, he]
      | some q => simp [stepP, pW, wkE, wkS, he]
    show runP k (stepP k (e, S) o) os = _
    rw [h]
    exact runP_stop k e S he os
/-- How far a run came. -/
theorem runP_came {k : Nat} : ∀ (os : List Opn) (S : DevS), S.off = false → (∀ q, some q ∈ os → q.1 < k ∧ q.2.length = 512) →
    ∃ n, n ≤ os.length ∧ ((runP k (0, S) os).2.last, (runP k (0, S) os).2.pend) = runQ (S.last, S.pend) (os.take n) ∧ (((runP k (0, S) os).1 = 0 ∧ n = os.length ∧ (runP k (0, S) os).2.off = false) ∨ ((runP k (0, S) os).1 = 3 ∧ n < os.length ∧ (runP k (0, S) os).2.off = true))
  | [], S, ho, _ => ⟨0, Nat.le_refl _, rfl, Or.inl ⟨rfl, rfl, ho⟩⟩
  | o :: os, S, ho, hq => by
    by_cases hb : (burnt S).off = true
    · refine ⟨0, Nat.zero_le _, ?_, Or.inr ?_⟩
      all_goals
        have h : stepP k (0, S) o = (3, burnt S) := by
          cases o with
          | none => simp [stepP, pF, fkE, fkS, flE, flS, hb]
          | some q =>
            obtain ⟨h1, h2⟩ := hq q (List.mem_cons_self ..)
            simp [stepP, pW, wkE, wkS, wrE, wrS, hb, h1, h2]
        have e : runP k (0, S) (o :: os) = (3, burnt S) := by
          show runP k (stepP k (0, S) o) os = _
          rw [h]
          exact runP_stop k 3 _ (by decide) os
        rw [e]
      · simp [runQ, burnt_last, burnt_pend]
      · exact ⟨rfl, by simp, hb⟩
    · have hb : (burnt S).off = false := by simpa using hb
      obtain ⟨S', hS', hl, ho'⟩ : ∃ S', stepP k (0, S) o = (0, S') ∧ (S'.last, S'.pend) = stepQ (S.last, S.pend) o ∧ S'.off = false := by
        cases o with
        | none => exact ⟨flushed (burnt S), by simp [stepP, pF, fkE, fkS, flE, flS, hb], by simp [flushed, stepQ, burnt_last, burnt_pend], hb⟩
        | some q =>
          obtain ⟨h1, h2⟩ := hq q (List.mem_cons_self ..)
          exact ⟨wrote (burnt S) q.1 q.2, by simp [stepP, pW, wkE, wkS, wrE, wrS, hb, h1, h2], by simp [wrote, stepQ, burnt_last, burnt_pend], hb⟩
      obtain ⟨n, hn, h1, h2⟩ := runP_came os S' ho' (fun q h => hq q (List.mem_cons_of_mem _ h))
      have e : runP k (0, S) (o :: os) = runP k (0, S') os := by
        show runP k (stepP k (0, S) o) os = _
        rw [hS']
      rw [e]
      refine ⟨n + 1, by simpa using hn, ?_, ?_⟩
      · rw [h1, hl]
        rfl
      · rcases h2 with ⟨a, b, c⟩ | ⟨a, b, c⟩
        · exact Or.inl ⟨a, by simp [b], c⟩
        · exact Or.inr ⟨a, by simpa using b, c⟩
/-- A block behind writes that were laid over the lasting bytes. -/
def seeL (l : List Int) (b : Nat) : List Int := (l.drop (512 * b)).take 512
end Go.Proofs.YtnmdnglbpkpfdaaGreatDoor

/- Plain mathematics: what a crash under a commit leaves: the transactions that were there, or these and the new one. -/
namespace Go.Proofs.YtnmdnglbpkpfdaaGreatDoor
open Go.RowKit Go.Maps
set_option maxRecDepth 100000
theorem newest_in : ∀ (ps : List (Nat × List Int)) (b : Nat), newest ps b = none ∨ ∃ d, (b, d) ∈ ps ∧ newest ps b = some d := fun ps b => by
  unfold newest
  cases hf : ps.reverse.find? (fun p => p.1 == b) with
  | none => exact Or.inl rfl
  | some p =>
    have h1 := List.mem_of_find?_eq_some hf
    have h2 := List.find?_some hf
    simp at h1 h2
    exact Or.inr ⟨p.2, by rw [← h2]; exact h1, rfl⟩
theorem rdB_calm {S : DevS} (h : S.pend = []) (b : Nat) : rdB S b = seeL S.last b := by
  unfold rdB
  rw [h]
  rfl
theorem see_lay {l : List Int} {k : Nat} (hl : l.length = 512 * k) (hy : ∀ x ∈ l, 0 ≤ x ∧ x ≤ 255) {ps : List (Nat × List Int)} (hp : ∀ p ∈ ps, p.1 < k ∧ p.2.length = 512 ∧ ∀ x ∈ p.2, 0 ≤ x ∧ x ≤ 255) (b : Nat) : seeL (layAll l ps) b = (newest ps b).getD (seeL l b) := blk_layAll l k hl hy ps hp b
/-- Blocks of the log's free places may hold what is no commit. -/
theorem Lg.near {S S' : DevS} {k st sz seq place : Nat} {free : Int} {T : List TxL} {seq0 place0 : Nat} (h : Lg S k st sz seq place free T seq0 place0) (g : Good S' k) (hp : S'.pend = []) (hd : ∀ b, rdB S' b = rdB S b ∨ ∃ j : Nat, (j : Int) < free ∧ b = atN st sz place j ∧ ∀ s, isCom (rdB S' b) s = false) : Lg S' k st sz seq place free T seq0 place0 := by
  have h1 := h.s1
  have hfr := h.fr
  have hat : ∀ o, atN st sz place o = atN st sz place0 ((strm seq0 T).length + o) := fun o => by rw [h.p1]; exact plEnd_at st sz T seq0 place0 o
  exact { h with
    good := g
    calm := hp
    head := by
      rcases hd st with e | ⟨j, _, hj, _⟩
      · rw [e]; exact h.head
      · have := (atN_in (st := st) (place := place) (i := j) (show 2 ≤ sz by omega)).1
        omega
    str := fun o b hb => by
      have ho := (List.getElem?_eq_some_iff.1 hb).1
      rcases hd (atN st sz place0 o) with e | ⟨j, hj, e, _⟩
      · rw [e]; exact h.str o b hb
      · rw [hat] at e
        have := atN_inj (by omega) (by omega) e
        omega
    noc := fun p h2 h3 s hs => by
      rcases hd p with e | ⟨j, _, _, hc⟩
      · rw [e]; exact h.noc p h2 h3 s hs
      · exact hc s }
/-- The blocks outside are as they were. -/
theorem near_out {S S' : DevS} {st sz place : Nat} {free : Int} (hs : 2 ≤ sz) (hd : ∀ b, rdB S' b = rdB S b ∨ ∃ j : Nat, (j : Int) < free ∧ b = atN st sz place j ∧ ∀ s, isCom (rdB S' b) s = false) {b : Nat} (hb : b < st ∨ st + sz ≤ b) : rdB S' b = rdB S b := by
  rcases hd b with e | ⟨j, _, e, _⟩
  · exact e
  · have := atN_in (st := st) (place := place) (i := j) hs
    omega
/-- The writes of a commit ahead of its own block. -/
def hidW (st sz place : Nat) (seq : Int) (f : Nat → List Int) (m : List (Nat × Nat)) : Nat → List (Nat × List Int)
  | 0 => [(atN st sz place 0, desB seq (lnsOf f m))]
  | i + 1 => hidW st sz place seq f m i ++ [(atN st sz place (i + 1), hidB (f ((m.map (·.1)).getD i 0)) (flagN (f ((m.map (·.1)).getD i 0))))]
theorem hidW_len (st sz place : Nat) (seq : Int) (f : Nat → List Int) (m : List (Nat × Nat)) : ∀ i, (hidW st sz place seq f m i).length = i + 1
  | 0 => rfl
  | i + 1 => by simp [hidW, hidW_len st sz place seq f m i]
theorem hidP_run (k : Nat) (p : Int × DevS) (st sz place : Nat) (seq : Int) (f : Nat → List Int) (m : List (Nat × Nat)) : ∀ i, hidP k p st sz place seq f m i = runP k p ((hidW st sz place seq f m i).map some)
  | 0 => rfl
  | i + 1 => by
    show putP k (hidP k p st sz place seq f m i) st sz place (i + 1) _ = runP k p ((hidW st sz place seq f m i ++ [_]).map some)
    rw [hidP_run k p st sz place seq f m i]
    unfold runP
    rw [List.map_append, List.foldl_append]
    rfl
def comO (st sz place : Nat) (seq : Int) (f : Nat → List Int) (m : List (Nat × Nat)) : List Opn := (hidW st sz place seq f m m.length).map some ++ [none, some (atN st sz place (m.length + 1), comB seq), none]
theorem comP_run (k : Nat) (p : Int × DevS) (st sz place : Nat) (seq : Int) (f : Nat → List Int) (m : List (Nat × Nat)) : comP k p st sz place seq f m = runP k p (comO st sz place seq f m) := by
  unfold comP comO runP
  rw [hidP_run, List.foldl_append]
  rfl
theorem runQ_some : ∀ (ws : List (Nat × List Int)) (l : List Int) (p : List (Nat × List Int)), runQ (l, p) (ws.map some) = (l, p ++ ws)
  | [], l, p => by simp [runQ]
  | q :: ws, l, p => by
    show runQ (l, p ++ [q]) (ws.map some) = _
    rw [runQ_some ws l (p ++ [q])]
    simp
theorem hidW_mem {st sz place : Nat} {seq : Int} {f : Nat → List Int} {m : List (Nat × Nat)} : ∀ (i : Nat) (q : Nat × List Int), q ∈ hidW st sz place seq f m i → ∃ j : Nat, j ≤ i ∧ q.1 = atN st sz place j ∧ (∀ s, isCom q.2 s = false) ∧ (j = 0 ∧ q.2 = desB seq (lnsOf f m) ∨ ∃ t, t < i ∧ j = t + 1 ∧ q.2 = hidB (f ((m.map (·.1)).getD t 0)) (flagN (f ((m.map (·.1)).getD t 0))))
  | 0, q, h => by
    rw [List.mem_singleton.1 h]
    exact ⟨0, Nat.le_refl _, rfl, fun s => des_no _ _ _, Or.inl ⟨rfl, rfl⟩⟩
  | i + 1, q, h => by
    rcases List.mem_append.1 h with h | h
    · obtain ⟨j, h1, h2, h3, h4⟩ := hidW_mem i q h
      refine ⟨j, by omega, h2, h3, h4.imp id (fun ⟨t, a, b, c⟩ => ⟨t, by omega, b, c⟩)⟩
    · rw [List.mem_singleton.1 h]
      exact ⟨i + 1, Nat.le_refl _, rfl, fun s => hid_no _ _, Or.inr ⟨i, by omega, rfl, rfl⟩⟩
end Go.Proofs.YtnmdnglbpkpfdaaGreatDoor

/- Plain mathematics: a crash under a commit. -/
namespace Go.Proofs.YtnmdnglbpkpfdaaGreatDoor
open Go.RowKit Go.Maps
set_option maxRecDepth 100000
theorem des_beg (seq : Int) (ls : List (Nat × Nat)) : begs (desB seq ls) [65, 78, 88, 67] = false := by
  unfold begs
  refine decide_eq_false ?_
  unfold desB fillB desH
  intro h
  have : ([65, 78, 88, 68] : List Int) = [65, 78, 88, 67] := h
  simp at this
theorem hid_beg (bs : List Int) : begs (hidB bs (flagN bs)) [65, 78, 88, 67] = false := by
  unfold hidB flagN
  by_cases h1 : begs bs [65, 78, 88, 68] = true
  · rw [if_pos h1, if_neg (by omega)]
    unfold begs
    refine decide_eq_false ?_
    intro h
    have : ([0, 0, 0, 0] : List Int) = [65, 78, 88, 67] := h
    simp at this
  · rw [if_neg h1]
    by_cases h2 : begs bs [65, 78, 88, 67] = true
    · rw [if_pos h2, if_neg (by omega)]
      unfold begs
      refine decide_eq_false ?_
      intro h
      have : ([0, 0, 0, 0] : List Int) = [65, 78, 88, 67] := h
      simp at this
    · rw [if_neg h2, if_pos rfl]
      simpa using h2
/-- A commit of the log is among what pends and survives. -/
def SurvB (ps : List (Nat × List Int)) (ks : List Bool) (st sz : Nat) : Prop := ∃ (i : Nat) (p : Nat × List Int), ps[i]? = some p ∧ ks[i]? = some true ∧ st < p.1 ∧ p.1 < st + sz ∧ begs p.2 [65, 78, 88, 67] = true
theorem hidW_beg {st sz place : Nat} {seq : Int} {f : Nat → List Int} {m : List (Nat × Nat)} {i : Nat} {q : Nat × List Int} (h : q ∈ hidW st sz place seq f m i) : begs q.2 [65, 78, 88, 67] = false := by
  obtain ⟨j, _, _, _, ⟨_, e⟩ | ⟨t, _, _, e⟩⟩ := hidW_mem i q h
  · rw [e]; exact des_beg _ _
  · rw [e]; exact hid_beg _
theorem hidW_good {k st sz place : Nat} {seq : Int} {f : Nat → List Int} {m : List (Nat × Nat)} (hs : 2 ≤ sz) (h2 : st + sz ≤ k) (hx : TxOk k st sz (txM f m)) {q : Nat × List Int} (h : q ∈ hidW st sz place seq f m m.length) : q.1 < k ∧ q.2.length = 512 ∧ ∀ x ∈ q.2, 0 ≤ x ∧ x ≤ 255 := by
  have hV : ∀ p ∈ m, (f p.1).length = 512 ∧ ∀ x ∈ f p.1, 0 ≤ x ∧ x ≤ 255 := fun p hp => hx.byt (p.1, f p.1) (List.mem_map.2 ⟨p, hp, rfl⟩)
  have hm := hx.few
  rw [txM_len] at hm
  obtain ⟨j, _, e1, _, ⟨_, e⟩ | ⟨t, ht, _, e⟩⟩ := hidW_mem m.length q h
  · have := (atN_in (st := st) (place := place) (i := j) hs).2
    rw [e, e1]
    exact ⟨by omega, desB_len _ _ (by rw [lnsOf_len]; exact hm), desB_by _ _⟩
  · have := (atN_in (st := st) (place := place) (i := j) hs).2
    have hg : (m.map (·.1)).getD t 0 = (m[t]'ht).1 := by simp [List.getD, ht]
    have hv := hV (m[t]'ht) (List.getElem_mem _)
    rw [e, e1, hg]
    exact ⟨by omega, hidB_len hv.1 _, hidB_by hv.2 _⟩
theorem hidS_lp (S : DevS) (st sz place : Nat) (seq : Int) (f : Nat → List Int) (m : List (Nat × Nat)) : ∀ i, (hidS S st sz place seq f m i).last = S.last ∧ (hidS S st sz place seq f m i).pend = S.pend ++ hidW st sz place seq f m i
  | 0 => by
    show (wrote (burnt S) _ _).last = _ ∧ (wrote (burnt S) _ _).pend = _
    exact ⟨burnt_last S, by simp only [wrote]; rw [burnt_pend]; rfl⟩
  | i + 1 => by
    obtain ⟨h1, h2⟩ := hidS_lp S st sz place seq f m i
    show (wrote (burnt (hidS S st sz place seq f m i)) _ _).last = _ ∧ (wrote (burnt (hidS S st sz place seq f m i)) _ _).pend = _
    refine ⟨by simp only [wrote]; rw [burnt_last, h1], ?_⟩
    simp only [wrote]
    rw [burnt_pend, h2, List.append_assoc]
    rfl
theorem comS_last {S : DevS} (hp : S.pend = []) (st sz place : Nat) (seq : Int) (f : Nat → List Int) (m : List (Nat × Nat)) : (comS S st sz place seq f m).last = layAll (layAll S.last (hidW st sz place seq f m m.length)) [(atN st sz place (m.length + 1), comB seq)] := by
  obtain ⟨h1, h2⟩ := hidS_lp S st sz place seq f m m.length
  unfold comS putL
  simp only [flushed, wrote, burnt_last, burnt_pend, h1, h2, hp, List.nil_append]
  rfl
/-- Any of a commit's writes but its own block were laid: nothing of it is seen. -/
theorem Lg.some {S S' : DevS} {k st sz seq place : Nat} {free : Int} {T : List TxL} {seq0 place0 : Nat} (h : Lg S k st sz seq place free T seq0 place0) {f : Nat → List Int} {m : List (Nat × Nat)} (hx : TxOk k st sz (txM f m)) (hf : (m.length : Int) + 2 ≤ free) {L : List (Nat × List Int)} (hL : ∀ q ∈ L, q ∈ hidW st sz place (seq : Int) f m m.length) (hl : S'.last = layAll S.last L) (hp : S'.pend = []) (hfu : S'.fuse = 0) :
    Lg S' k st sz seq place free T seq0 place0 ∧ ∀ b, (b < st ∨ st + sz ≤ b) → rdB S' b = rdB S b := by
  have h1 := h.s1
  have hg := fun q (hq : q ∈ L) => hidW_good (by omega) h.s2 hx (hL q hq)
  obtain ⟨a1, a2⟩ := layAll_good L S.last h.good.len h.good.by_ hg
  have g : Good S' k := ⟨by rw [hl]; exact a1, h.good.pos, h.good.top, by rw [hl]; exact a2, (fun p hp' => by rw [hp] at hp'; cases hp'), by omega⟩
  have hd : ∀ b, rdB S' b = rdB S b ∨ ∃ j : Nat, (j : Int) < free ∧ b = atN st sz place j ∧ ∀ s, isCom (rdB S' b) s = false := fun b => by
    rw [rdB_calm hp, rdB_calm h.calm, hl, see_lay h.good.len h.good.by_ hg]
    rcases newest_in L b with e | ⟨d, hd, e⟩
    · rw [e]; exact Or.inl rfl
    · rw [e]
      obtain ⟨j, hj, e1, e2, _⟩ := hidW_mem m.length (b, d) (hL _ hd)
      exact Or.inr ⟨j, by omega, e1, e2⟩
  exact ⟨h.near g hp hd, fun b hb => near_out (by omega) hd hb⟩
theorem take_map {α β : Type} (g : α → β) (l : List α) (n : Nat) : (l.map g).take n = (l.take n).map g := by simp
/-- A crash under a commit: the transactions that were there, or these and the new one, just if its commit survived. -/
theorem com_crash {S : DevS} {k st sz seq place : Nat} {free : Int} {T : List TxL} {seq0 place0 : Nat} (h : Lg S k st sz seq place free T seq0 place0) (ho : S.off = false) {f : Nat → List Int} {m : List (Nat × Nat)} (hx : TxOk k st sz (txM f m)) (hf : (m.length : Int) + 2 ≤ free) (hs : seq ≤ 4611686018427387904) (hc : (comP k (0, S) st sz place seq f m).1 ≠ 0) (ks : List Bool) :
    (comP k (0, S) st sz place seq f m).1 = 3 ∧ (comP k (0, S) st sz place seq f m).2.off = true ∧
    ((¬ SurvB (comP k (0, S) st sz place seq f m).2.pend ks st sz ∧ Lg (crashed (comP k (0, S) st sz place seq f m).2 ks) k st sz seq place free T seq0 place0) ∨ (SurvB (comP k (0, S) st sz place seq f m).2.pend ks st sz ∧ Lg (crashed (comP k (0, S) st sz place seq f m).2 ks) k st sz (seq + 1) ((place + m.length + 2) % (sz - 1)) (free - (m.length + 2)) (T ++ [txM f m]) seq0 place0)) ∧
    ∀ b, (b < st ∨ st + sz ≤ b) → rdB (crashed (comP k (0, S) st sz place seq f m).2 ks) b = rdB S b := by
  have h1 := h.s1
  have hW : ∀ q ∈ hidW st sz place (seq : Int) f m m.length, q.1 < k ∧ q.2.length = 512 ∧ ∀ x ∈ q.2, 0 ≤ x ∧ x ≤ 255 := fun q hq => hidW_good (by omega) h.s2 hx hq
  have hat := (atN_in (st := st) (place := place) (i := m.length + 1) (show 2 ≤ sz by omega))
  have hok : ∀ q, some q ∈ comO st sz place (seq : Int) f m → q.1 < k ∧ q.2.length = 512 := fun q hq => by
    unfold comO at hq
    rcases List.mem_append.1 hq with hq | hq
    · obtain ⟨r, hr, e⟩ := List.mem_map.1 hq
      obtain rfl := Option.some.inj e
      exact ⟨(hW r hr).1, (hW r hr).2.1⟩
    · simp at hq
      subst hq
      have := h.s2
      exact ⟨by simp only; omega, comB_len _⟩
  obtain ⟨n, hn, hr, hcase⟩ := runP_came (k := k) (comO st sz place (seq : Int) f m) S ho hok
  rw [← comP_run] at hr hcase
  obtain ⟨h3, hlt, hoff⟩ := hcase.resolve_left (fun q => hc q.1)
  refine ⟨h3, hoff, ?_⟩
  generalize (comP k (0, S) st sz place seq f m).2 = R at hr hoff ⊢
  have hlen : (comO st sz place (seq : Int) f m).length = m.length + 1 + 3 := by simp [comO, hidW_len]
  rw [hlen] at hlt
  have hWl := hidW_len st sz place (seq : Int) f m m.length
  have part : ∀ L : List (Nat × List Int), (∀ q ∈ L, q ∈ hidW st sz place (seq : Int) f m m.length) → (crashed R ks).last = layAll S.last L → (∀ q ∈ R.pend, begs q.2 [65, 78, 88, 67] = true → ¬ ∃ i : Nat, R.pend[i]? = some q ∧ ks[i]? = some true) → (((¬ SurvB R.pend ks st sz ∧ Lg (crashed R ks) k st sz seq place free T seq0 place0) ∨ (SurvB R.pend ks st sz ∧ Lg (crashed R ks) k st sz (seq + 1) ((place + m.length + 2) % (sz - 1)) (free - (m.length + 2)) (T ++ [txM f m]) seq0 place0)) ∧ ∀ b, (b < st ∨ st + sz ≤ b) → rdB (crashed R ks) b = rdB S b) := fun L hL hl hno => by
    obtain ⟨g1, g2⟩ := h.some hx hf hL hl rfl rfl
    exact ⟨Or.inl ⟨fun ⟨i, p, a, b, _, _, e⟩ => hno p (List.mem_of_getElem? a) e ⟨i, a, b⟩, g1⟩, g2⟩
  by_cases n1 : n ≤ m.length + 1
  · have e : (comO st sz place (seq : Int) f m).take n = ((hidW st sz place (seq : Int) f m m.length).take n).map some := by
      unfold comO
      rw [List.take_append_of_le_length (by simp [hWl]; omega), take_map]
    rw [e, runQ_some, h.calm, List.nil_append] at hr
    obtain ⟨r1, r2⟩ := Prod.mk.inj hr
    refine part (kept R.pend ks) (fun q hq => ?_) (by show layAll R.last (kept R.pend ks) = _; rw [r1]) (fun q hq hb => ?_)
    · have := kept_mem hq
      rw [r2] at this
      exact List.mem_of_mem_take this
    · rw [r2] at hq
      rw [hidW_beg (List.mem_of_mem_take hq)] at hb
      cases hb
  · by_cases n2 : n = m.length + 2
    · subst n2
      have e : (comO st sz place (seq : Int) f m).take (m.length + 2) = (hidW st sz place (seq : Int) f m m.length).map some ++ [none] := by
        unfold comO
        rw [List.take_append, List.take_of_length_le (by simp [hWl])]
        simp [hWl]
      rw [e] at hr
      unfold runQ at hr
      rw [List.foldl_append] at hr
      have q := runQ_some (hidW st sz place (seq : Int) f m m.length) S.last S.pend
      unfold runQ at q
      rw [q, h.calm, List.nil_append] at hr
      obtain ⟨r1, r2⟩ := Prod.mk.inj hr
      refine part (hidW st sz place (seq : Int) f m m.length) (fun q hq => hq) ?_ (fun q hq hb => ?_)
      · show layAll R.last (kept R.pend ks) = _
        rw [r1, r2]
        cases ks <;> rfl
      · rw [r2] at hq
        cases hq
    · obtain rfl : n = m.length + 3 := by omega
      have e : (comO st sz place (seq : Int) f m).take (m.length + 3) = (hidW st sz place (seq : Int) f m m.length).map some ++ [none, some (atN st sz place (m.length + 1), comB seq)] := by
        unfold comO
        rw [List.take_append, List.take_of_length_le (by simp [hWl])]
        simp [hWl]
      rw [e] at hr
      unfold runQ at hr
      rw [List.foldl_append] at hr
      have q := runQ_some (hidW st sz place (seq : Int) f m m.length) S.last S.pend
      unfold runQ at q
      rw [q, h.calm, List.nil_append] at hr
      obtain ⟨r1, r2⟩ := Prod.mk.inj hr
      have r2 : R.pend = [(atN st sz place (m.length + 1), comB seq)] := r2
      by_cases hk : ks[0]? = some true
      · obtain ⟨ks', rfl⟩ : ∃ ks', ks = true :: ks' := by
          cases ks with
          | nil => simp at hk
          | cons b t => simp at hk; exact ⟨t, by rw [hk]⟩
        have hlast : (crashed R (true :: ks')).last = (comS S st sz place seq f m).last := by
          rw [comS_last h.calm]
          show layAll R.last (kept R.pend (true :: ks')) = _
          rw [r1, r2]
          simp only [kept, if_true]
          rfl
        have g := h.commit hx hf hs
        have g' := g.like hlast rfl (by show 0 ≤ _; omega)
        refine ⟨Or.inr ⟨⟨0, _, by rw [r2]; rfl, rfl, hat.1, hat.2, ?_⟩, g'⟩, fun b hb => ?_⟩
        · unfold begs comB fillB
          rfl
        · have hV : ∀ p ∈ m, (f p.1).length = 512 ∧ ∀ x ∈ f p.1, 0 ≤ x ∧ x ≤ 255 := fun p hp => hx.byt (p.1, f p.1) (List.mem_map.2 ⟨p, hp, rfl⟩)
          have hm := hx.few
          rw [txM_len] at hm
          have hfr := h.fr
          obtain ⟨_, c2, _, c4⟩ := rdB_coms (place := place) (seq := (seq : Int)) (f := f) (m := m) h.good (by omega) h.s2 hm hV (by omega)
          have e1 : rdB (crashed R (true :: ks')) b = rdB (comS S st sz place seq f m) b := by
            rw [rdB_calm rfl, rdB_calm c4, hlast]
          rw [e1]
          exact c2 b (fun j _ e => by have := atN_in (st := st) (place := place) (i := j) (show 2 ≤ sz by omega); omega)
      · refine part (hidW st sz place (seq : Int) f m m.length) (fun q hq => hq) ?_ (fun q hq hb ⟨i, hi, hki⟩ => ?_)
        · show layAll R.last (kept R.pend ks) = _
          rw [r1, r2]
          cases ks with
          | nil => rfl
          | cons b t =>
            cases b with
            | true => exact absurd rfl hk
            | false => rfl
        · rw [r2] at hi
          have : i < 1 := (List.getElem?_eq_some_iff.1 hi).1
          obtain rfl : i = 0 := by omega
          exact hk hki
end Go.Proofs.YtnmdnglbpkpfdaaGreatDoor

/- Plain mathematics: a crash under a checkpoint: what the blocks hold, the log's transactions laid over them, is the same. -/
namespace Go.Proofs.YtnmdnglbpkpfdaaGreatDoor
open Go.RowKit Go.Maps
set_option maxRecDepth 100000
/-- What a block holds, the log's transactions laid over it. -/
def seeT (S : DevS) (T : List TxL) (b : Nat) : List Int := (ovl T b).getD (rdB S b)
/-- The journal's region is as it was. -/
theorem Lg.inside {S S' : DevS} {k st sz seq place : Nat} {free : Int} {T : List TxL} {seq0 place0 : Nat} (h : Lg S k st sz seq place free T seq0 place0) (g : Good S' k) (hp : S'.pend = []) (hd : ∀ b, st ≤ b → b < st + sz → rdB S' b = rdB S b) : Lg S' k st sz seq place free T seq0 place0 := by
  have h1 := h.s1
  exact { h with
    good := g
    calm := hp
    head := by rw [hd st (Nat.le_refl _) (by omega)]; exact h.head
    str := fun o b hb => by
      have := atN_in (st := st) (place := place0) (i := o) (show 2 ≤ sz by omega)
      rw [hd _ (by omega) this.2]
      exact h.str o b hb
    noc := fun p h2 h3 s hs => by rw [hd p (by omega) h3]; exact h.noc p h2 h3 s hs }
/-- The writes of a checkpoint ahead of the head. -/
def homeW (fa : Nat → List Int) (a : List (Nat × Nat)) : Nat → List (Nat × List Int)
  | 0 => []
  | i + 1 => homeW fa a i ++ [((a.map (·.1)).getD i 0, fa ((a.map (·.1)).getD i 0))]
theorem homeW_len (fa : Nat → List Int) (a : List (Nat × Nat)) : ∀ i, (homeW fa a i).length = i
  | 0 => rfl
  | i + 1 => by simp [homeW, homeW_len fa a i]
theorem homeP_run (k : Nat) (p : Int × DevS) (fa : Nat → List Int) (a : List (Nat × Nat)) : ∀ i, homeP k p fa a i = runP k p ((homeW fa a i).map some)
  | 0 => rfl
  | i + 1 => by
    show pW k (homeP k p fa a i) _ _ = runP k p ((homeW fa a i ++ [_]).map some)
    rw [homeP_run k p fa a i]
    unfold runP
    rw [List.map_append, List.foldl_append]
    rfl
def ckO (fa : Nat → List Int) (a : List (Nat × Nat)) (st : Nat) (seq : Int) (place : Nat) : List Opn := (homeW fa a a.length).map some ++ [none, some (st, jheadB seq place), none]
theorem ckP_run (k : Nat) (p : Int × DevS) (fa : Nat → List Int) (a : List (Nat × Nat)) (st : Nat) (seq : Int) (place : Nat) : ckP k p fa a st seq place = runP k p (ckO fa a st seq place) := by
  unfold ckP ckO runP
  rw [homeP_run, List.foldl_append]
  rfl
theorem homeW_mem {fa : Nat → List Int} {a : List (Nat × Nat)} : ∀ (i : Nat), i ≤ a.length → ∀ q ∈ homeW fa a i, ∃ p ∈ a, q = (p.1, fa p.1)
  | 0, _, q, h => by cases h
  | i + 1, hi, q, h => by
    rcases List.mem_append.1 h with h | h
    · exact homeW_mem i (by omega) q h
    · have e : (a.map (·.1)).getD i 0 = (a[i]'(by omega)).1 := by simp [List.getD, show i < a.length by omega]
      rw [List.mem_singleton.1 h, e]
      exact ⟨a[i]'(by omega), List.getElem_mem _, rfl⟩
theorem homeS_lp (S : DevS) (fa : Nat → List Int) (a : List (Nat × Nat)) : ∀ i, (homeS S fa a i).last = S.last ∧ (homeS S fa a i).pend = S.pend ++ homeW fa a i
  | 0 => ⟨rfl, by simp [homeS, homeW]⟩
  | i + 1 => by
    obtain ⟨h1, h2⟩ := homeS_lp S fa a i
    show (wrote (burnt (homeS S fa a i)) _ _).last = _ ∧ (wrote (burnt (homeS S fa a i)) _ _).pend = _
    refine ⟨by simp only [wrote]; rw [burnt_last, h1], ?_⟩
    simp only [wrote]
    rw [burnt_pend, h2, List.append_assoc]
    rfl
theorem ckS_last {S : DevS} (hp : S.pend = []) (fa : Nat → List Int) (a : List (Nat × Nat)) (st : Nat) (seq : Int) (place : Nat) : (ckS S fa a st seq place).last = layAll (layAll S.last (homeW fa a a.length)) [(st, jheadB seq place)] := by
  obtain ⟨h1, h2⟩ := homeS_lp S fa a a.length
  unfold ckS
  simp only [flushed, wrote, burnt_last, burnt_pend, h1, h2, hp, List.nil_append]
theorem Cont.at {a : List (Nat × Nat)} {fa : Nat → List Int} {T : List TxL} (h : Cont a fa T) {p : Nat × Nat} (hp : p ∈ a) : ovl T p.1 = some (fa p.1) := by
  rw [← h p.1]
  have := lk_keys.2 (List.mem_map.2 ⟨p, hp, rfl⟩)
  obtain ⟨g, hg⟩ := Option.isSome_iff_exists.1 this
  rw [hg]
  rfl
/-- Any of a checkpoint's writes but the head were laid. -/
theorem Lg.homes {S S' : DevS} {k st sz seq place : Nat} {free : Int} {T : List TxL} {seq0 place0 : Nat} (h : Lg S k st sz seq place free T seq0 place0) {fa : Nat → List Int} {a : List (Nat × Nat)} (ho : OutA k st sz a) (hf : ∀ p ∈ a, (fa p.1).length = 512 ∧ ∀ x ∈ fa p.1, 0 ≤ x ∧ x ≤ 255) (hC : Cont a fa T) {L : List (Nat × List Int)} (hL : ∀ q ∈ L, q ∈ homeW fa a a.length) (hl : S'.last = layAll S.last L) (hp : S'.pend = []) (hfu : S'.fuse = 0) :
    Lg S' k st sz seq place free T seq0 place0 ∧ ∀ b, seeT S' T b = seeT S T b := by
  have hg : ∀ q ∈ L, q.1 < k ∧ q.2.length = 512 ∧ ∀ x ∈ q.2, 0 ≤ x ∧ x ≤ 255 := fun q hq => by
    obtain ⟨p, hp', rfl⟩ := homeW_mem _ (Nat.le_refl _) q (hL q hq)
    exact ⟨(ho p hp').1, hf p hp'⟩
  obtain ⟨a1, a2⟩ := layAll_good L S.last h.good.len h.good.by_ hg
  have g : Good S' k := ⟨by rw [hl]; exact a1, h.good.pos, h.good.top, by rw [hl]; exact a2, (fun p hp' => by rw [hp] at hp'; cases hp'), by omega⟩
  have hd : ∀ b, rdB S' b = rdB S b ∨ ∃ p ∈ a, b = p.1 ∧ rdB S' b = fa b := fun b => by
    rw [rdB_calm hp, rdB_calm h.calm, hl, see_lay h.good.len h.good.by_ hg]
    rcases newest_in L b with e | ⟨d, hd, e⟩
    · rw [e]; exact Or.inl rfl
    · rw [e]
      obtain ⟨p, hp', e'⟩ := homeW_mem _ (Nat.le_refl _) _ (hL _ hd)
      obtain ⟨rfl, rfl⟩ := Prod.mk.inj e'
      exact Or.inr ⟨p, hp', rfl, rfl⟩
  refine ⟨h.inside g hp (fun b h1 h2 => ?_), fun b => ?_⟩
  · rcases hd b with e | ⟨p, hp', rfl, _⟩
    · exact e
    · have := (ho p hp').2
      omega
  · unfold seeT
    rcases hd b with e | ⟨p, hp', rfl, _⟩
    · rw [e]
    · rw [hC.at hp']
      rfl
/-- A crash under a checkpoint. -/
theorem ck_crash {S : DevS} {k st sz seq place : Nat} {free : Int} {T : List TxL} {seq0 place0 : Nat} (h : Lg S k st sz seq place free T seq0 place0) (hon : S.off = false) {fa : Nat → List Int} {a : List (Nat × Nat)} (hr : Rising a) (ho : OutA k st sz a) (hf : ∀ p ∈ a, (fa p.1).length = 512 ∧ ∀ x ∈ fa p.1, 0 ≤ x ∧ x ≤ 255) (hC : Cont a fa T) (hc : (ckP k (0, S) fa a st seq place).1 ≠ 0) (ks : List Bool) :
    (ckP k (0, S) fa a st seq place).1 = 3 ∧ (ckP k (0, S) fa a st seq place).2.off = true ∧ ¬ SurvB (ckP k (0, S) fa a st seq place).2.pend ks st sz ∧
    ∃ free' T' seq0' place0', Lg (crashed (ckP k (0, S) fa a st seq place).2 ks) k st sz seq place free' T' seq0' place0' ∧ ∀ b, (b < st ∨ st + sz ≤ b) → seeT (crashed (ckP k (0, S) fa a st seq place).2 ks) T' b = seeT S T b := by
  have h1 := h.s1
  have hW := fun q (hq : q ∈ homeW fa a a.length) => homeW_mem _ (Nat.le_refl _) q hq
  have hst : st < k := by have := h.s2; omega
  have hok : ∀ q, some q ∈ ckO fa a st (seq : Int) place → q.1 < k ∧ q.2.length = 512 := fun q hq => by
    unfold ckO at hq
    rcases List.mem_append.1 hq with hq | hq
    · obtain ⟨r, hr', e⟩ := List.mem_map.1 hq
      obtain rfl := Option.some.inj e
      obtain ⟨p, hp, rfl⟩ := hW r hr'
      exact ⟨(ho p hp).1, (hf p hp).1⟩
    · simp at hq
      subst hq
      exact ⟨hst, jheadB_len _ _⟩
  obtain ⟨n, hn, hq, hcase⟩ := runP_came (k := k) (ckO fa a st (seq : Int) place) S hon hok
  rw [← ckP_run] at hq hcase
  obtain ⟨h3, hlt, hoff⟩ := hcase.resolve_left (fun q => hc q.1)
  refine ⟨h3, hoff, ?_⟩
  generalize (ckP k (0, S) fa a st seq place).2 = R at hq hoff ⊢
  have hWl := homeW_len fa a a.length
  have hlen : (ckO fa a st (seq : Int) place).length = a.length + 3 := by simp [ckO, hWl]
  rw [hlen] at hlt
  have surv : (∀ q ∈ R.pend, q ∈ homeW fa a a.length ∨ q = (st, jheadB seq place)) → ¬ SurvB R.pend ks st sz := fun hR ⟨i, p, hi, _, q1, q2, _⟩ => by
    rcases hR p (List.mem_of_getElem? hi) with q | q
    · obtain ⟨r, hr', rfl⟩ := hW p q
      have := (ho r hr').2
      simp only at q1 q2
      omega
    · subst q
      simp only at q1
      omega
  have part : ∀ L : List (Nat × List Int), (∀ q ∈ L, q ∈ homeW fa a a.length) → (crashed R ks).last = layAll S.last L → ∃ free' T' seq0' place0', Lg (crashed R ks) k st sz seq place free' T' seq0' place0' ∧ ∀ b, (b < st ∨ st + sz ≤ b) → seeT (crashed R ks) T' b = seeT S T b := fun L hL hl => by
    obtain ⟨g1, g2⟩ := h.homes ho hf hC hL hl rfl rfl
    exact ⟨_, _, _, _, g1, fun b _ => g2 b⟩
  by_cases n1 : n ≤ a.length
  · have e : (ckO fa a st (seq : Int) place).take n = ((homeW fa a a.length).take n).map some := by
      unfold ckO
      rw [List.take_append_of_le_length (by simp [hWl]; omega), take_map]
    rw [e, runQ_some, h.calm, List.nil_append] at hq
    obtain ⟨r1, r2⟩ := Prod.mk.inj hq
    refine ⟨surv (fun q hq' => Or.inl (by rw [r2] at hq'; exact List.mem_of_mem_take hq')), part (kept R.pend ks) (fun q hq' => ?_) (by show layAll R.last (kept R.pend ks) = _; rw [r1])⟩
    have := kept_mem hq'
    rw [r2] at this
    exact List.mem_of_mem_take this
  · by_cases n2 : n = a.length + 1
    · subst n2
      have e : (ckO fa a st (seq : Int) place).take (a.length + 1) = (homeW fa a a.length).map some ++ [none] := by
        unfold ckO
        rw [List.take_append, List.take_of_length_le (by simp [hWl])]
        simp [hWl]
      rw [e] at hq
      unfold runQ at hq
      rw [List.foldl_append] at hq
      have q := runQ_some (homeW fa a a.length) S.last S.pend
      unfold runQ at q
      rw [q, h.calm, List.nil_append] at hq
      obtain ⟨r1, r2⟩ := Prod.mk.inj hq
      refine ⟨surv (fun q hq' => by rw [r2] at hq'; cases hq'), part (homeW fa a a.length) (fun q hq' => hq') ?_⟩
      show layAll R.last (kept R.pend ks) = _
      rw [r1, r2]
      cases ks <;> rfl
    · obtain rfl : n = a.length + 2 := by omega
      have e : (ckO fa a st (seq : Int) place).take (a.length + 2) = (homeW fa a a.length).map some ++ [none, some (st, jheadB seq place)] := by
        unfold ckO
        rw [List.take_append, List.take_of_length_le (by simp [hWl])]
        simp [hWl]
      rw [e] at hq
      unfold runQ at hq
      rw [List.foldl_append] at hq
      have q := runQ_some (homeW fa a a.length) S.last S.pend
      unfold runQ at q
      rw [q, h.calm, List.nil_append] at hq
      obtain ⟨r1, r2⟩ := Prod.mk.inj hq
      have r2 : R.pend = [(st, jheadB seq place)] := r2
      refine ⟨surv (fun q hq' => by rw [r2] at hq'; exact Or.inr (List.mem_singleton.1 hq')), ?_⟩
      by_cases hk : ks[0]? = some true
      · obtain ⟨ks', rfl⟩ : ∃ ks', ks = true :: ks' := by
          cases ks with
          | nil => simp at hk
          | cons b t => simp at hk; exact ⟨t, by rw [hk]⟩
        have hlast : (crashed R (true :: ks')).last = (ckS S fa a st seq place).last := by
          rw [ckS_last h.calm]
          show layAll R.last (kept R.pend (true :: ks')) = _
          rw [r1, r2]
          simp only [kept, if_true]
          rfl
        have g := h.ck hr ho hf
        refine ⟨_, _, _, _, g.like hlast rfl (by show 0 ≤ _; omega), fun b hb => ?_⟩
        obtain ⟨c1, _, c4⟩ := rdB_ck (seq := (seq : Int)) (place := place) h.good hst hr (fun p hp => (ho p hp).1) hf
        have e1 : rdB (crashed R (true :: ks')) b = rdB (ckS S fa a st seq place) b := by
          rw [rdB_calm rfl, rdB_calm c4, hlast]
        unfold seeT
        rw [ovl_nil, Option.getD_none, e1, c1, if_neg (by omega)]
        by_cases hb' : b ∈ a.map (·.1)
        · obtain ⟨p, hp, rfl⟩ := List.mem_map.1 hb'
          rw [if_pos hb', hC.at hp]
          rfl
        · rw [if_neg hb', ← hC b]
          have : lk a b = none := by
            cases hl : lk a b with
            | none => rfl
            | some g => exact absurd (lk_keys.1 (by rw [hl]; rfl)) hb'
          rw [this]
          rfl
      · refine part (homeW fa a a.length) (fun q hq' => hq') ?_
        show layAll R.last (kept R.pend ks) = _
        rw [r1, r2]
        cases ks with
        | nil => rfl
        | cons b t =>
          cases b with
          | true => exact absurd rfl hk
          | false => rfl
end Go.Proofs.YtnmdnglbpkpfdaaGreatDoor
