/- slices.Delete of the last savepoints, by its contract. -/
import Derived.Test.YtlcjkbhcbiggcaaGreatDoorPk17
import Derived.Lib.SliceRun
import Derived.Deep.Upon
import Derived.BigQuiet
import Derived.Test.YtlcjkbhcbiggcaaGreatDoorPk16
import Derived.Test.YtlcjkbhcbiggcaaGreatDoorPk08
namespace Go.Proofs.YtlcjkbhcbiggcaaGreatDoor
open Go.RowKit Go.Maps
set_option maxRecDepth 100000

theorem sv_zero (w : World) : (zeroValue 103).run Tryz.prog w = .ok (.agg #[.int .i64 0, .nilFunc]) w := by kernel_rfl
theorem run_append_none (w : World) (ty : TypeId) (a : Addr) (n cap : Nat) (x : Option Addr) (c : Nat) (h : n ≤ cap) :
    (Builtin.append_ #[97, 97] ty #[.slice (some a) n cap, .slice x 0 c]).run Tryz.prog w = .ok (.slice (some a) n cap) w := by
  obtain ⟨i0, hi0, hz0, hz1, hz2⟩ := info_parts Tryz.infoSave
  have hl : ∀ b : Addr, (loadCells b 0).run Tryz.prog w = .ok #[] w := fun _ => rfl
  have hsz : (sizeOf 103).run Tryz.prog w = .ok 2 w := by kernel_rfl
  cases x with
  | none => simp [Builtin.append_, run_underlying Tryz.underlying97, hsz, Builtin.lenOf, Builtin.firstCells, h, storeCells]
  | some b => simp [Builtin.append_, run_underlying Tryz.underlying97, hsz, Builtin.lenOf, Builtin.firstCells, h, hl, storeCells]
theorem step_append_none {ops : Array Oper} {o : Oper} {a : Act} {w : World} {C : Act → World → Prop} {Q : Exit → Act → World → Prop} {E : Prop} (hgd : o.guard = none) (s x : Operand) (ho : o.op = .call { callee := .builtin .append, args := #[s, x], argTypes := #[97, 97] })
    (ad : Addr) (n cap : Nat) (xo : Option Addr) (c : Nat) (hs : a.eval s = .slice (some ad) n cap) (hx : a.eval x = .slice xo 0 c) (h : n ≤ cap) (hK : C (a.put o.dst (.slice (some ad) n cap)) w) :
    if Region.wanted o (yielded ops a.tmps) = true then Oper.wp Tryz.prog o a w C Q else E := by
  have hw : Region.wanted o (yielded ops a.tmps) = true := by simp [Region.wanted, hgd]
  rw [if_pos hw]
  have hrun := run_append_none w o.type ad n cap xo c h
  unfold Oper.wp execOp
  simp only [ho, resolve, invoke, builtin, Sem.run_bind, Sem.run_pure, Result.andThen_ok, List.map_toArray, List.map_cons, List.map_nil, hs, hx, hrun]
  exact hK

/-- Zeros of n savepoints. -/
def svZ (n : Nat) : List Value := (Builtin.zeroCells #[.int .i64 0, .nilFunc] n).toList
theorem svZ_len (n : Nat) : (svZ n).length = n * 2 := by simp [svZ, Builtin.zeroCells]
theorem svZ_one (n : Nat) : ∀ v ∈ svZ n, v.oneCell' = true := by
  intro v hv
  simp [svZ, Builtin.zeroCells] at hv
  obtain ⟨i, _, rfl⟩ := hv
  rcases Nat.mod_two_eq_zero_or_one i with h | h <;> rw [h] <;> rfl
theorem run_clear_sv (w : World) (ty : TypeId) (b o n c : Nat) (hn : 0 < n) (hc : ∀ j, j < n * 2 → (w.cell? ⟨b, o + j, none⟩).isSome = true) (hf : ∀ j, j < n * 2 → w.frozen? ⟨b, o + j, none⟩ = false) :
    (Builtin.clear_ #[97] ty #[.slice (some ⟨b, o, none⟩) n c]).run Tryz.prog w = .ok (.tuple #[]) (w.setCells b o (svZ n)) := by
  have hst := run_storeCells_cells (P := Tryz.prog) b o (svZ n) 0 w (by rw [svZ_len]; simpa using hc) (by rw [svZ_len]; simpa using hf) (svZ_one n)
  simp only [Nat.add_zero] at hst
  obtain ⟨m, rfl⟩ : ∃ m, n = m + 1 := ⟨n - 1, by omega⟩
  have hz : (Builtin.zeroCells (Value.agg #[.int .i64 0, .nilFunc]).cells (m + 1)).toList = svZ (m + 1) := rfl
  simp [Builtin.clear_, run_underlying Tryz.underlying97, hz, hst]
theorem setCells_heap {g : Nat} {T : TypeId} : ∀ (vs : List Value) (o : Nat) (w : World) (cur : Array Value), w.heap[g]? = some (.cells cur T (0, 0)) → ∃ cur', (w.setCells g o vs).heap[g]? = some (.cells cur' T (0, 0)) ∧ cur'.size = cur.size ∧ ∀ j, j < o → cur'[j]? = cur[j]?
  | [], o, w, cur, h => ⟨cur, h, rfl, fun _ _ => rfl⟩
  | v :: vs, o, w, cur, h => by
    obtain ⟨cur', h1, h2, h3⟩ := setCells_heap vs (o + 1) (w.setCell ⟨g, o, none⟩ v) _ (heap_setCell_same w g o _ _ v h)
    refine ⟨cur', h1, by rw [h2]; simp, fun j hj => ?_⟩
    rw [h3 j (by omega), Array.getElem?_setIfInBounds_ne (by omega)]
theorem Turns.setCells (g : Nat) : ∀ (vs : List Value) (o : Nat) (w : World), Turns (fun i => i = g) w (w.setCells g o vs)
  | [], _, w => Turns.refl _ w
  | v :: vs, o, w => (Turns.cell w g o v).trans (Turns.setCells g vs (o + 1) (w.setCell ⟨g, o, none⟩ v)) (fun _ _ h => h)
theorem svC_take (l : List SvI) : ∀ a : Nat, (svC l).take (a * 2) = svC (l.take a) := by
  induction l with
  | nil => intro a; simp [svC]
  | cons s l ih =>
    intro a
    cases a with
    | zero => simp [svC]
    | succ a =>
      have := ih a
      rw [show (a + 1) * 2 = a * 2 + 1 + 1 by omega]
      simp only [svC, List.flatMap_cons, SvI.cells, List.take_succ_cons, List.cons_append, List.nil_append] at *
      rw [this]
set_option maxHeartbeats 2000000 in
theorem delete_any (l : List SvI) (sv : Value) (a : Nat) (w : World) (hrow : w.ownsRow 0 103 2 sv l.length (svC l)) (hl : l.length ≤ 1000000) (ha : a ≤ l.length) (h1 : 0 < l.length) :
    Calls Tryz.prog 57 #[sv, .int .i64 a, .int .i64 (l.length : Nat)] w fun e w' => ∃ sv', e = .returned sv' ∧ w'.ownsRow 0 103 2 sv' a (svC (l.take a)) ∧ sv'.ownBlock = sv.ownBlock ∧ Turns (fun i => sv.ownBlock = some i) w w' := by
  rcases hrow.2 with ⟨_, h0⟩ | ⟨g, cap, cur, rfl, _, hg, h2, h3, h4, h5⟩
  · omega
  obtain ⟨n, hn⟩ : ∃ n, l.length = n := ⟨_, rfl⟩
  have HN : Hid (l.length = n) := hn
  rw [hn] at ha h1 hl h2 h5 ⊢
  clear hn
  have hni : (n : Int) ≤ 1000000 := by omega
  have hci : (n : Int) ≤ cap := by omega
  have hcm : (cap : Int) ≤ 9223372036854775807 := by unfold maxLen at h3; omega
  by_cases he : a = n
  · subst he
    have HR : Hid (w.ownsRow 0 103 2 (.slice (some ⟨g, 0, none⟩) a cap) a (svC (l.take a))) := by
      have e : l.take a = l := List.take_of_length_le (by rw [HN.out]; exact Nat.le_refl _)
      show w.ownsRow _ _ _ _ _ _
      rw [e]
      have h := hrow
      rw [HN.out] at h
      exact h
    clear hrow hg h5
    go_enter Tryz.func57, Tryz.ntmps57
    go_wp2_with fail
    go_ret
    exact ⟨_, rfl, HR.out, rfl, Turns.refl _ w⟩
  · have hai : (a : Int) < n := by omega
    have hne : ¬ (a : Int) = n := by omega
    have hac : a ≤ cap := by omega
    have hacn : ¬ cap = a := by omega
    have hacm : ¬ n = a := by omega
    have hcl : ∀ (ty : TypeId) (c : Nat), (Builtin.clear_ #[97] ty #[.slice (some ⟨g, a * 2, none⟩) (n - a) c]).run Tryz.prog w.drew = .ok (.tuple #[]) (w.drew.setCells g (a * 2) (svZ (n - a))) := fun ty c => run_clear_sv w.drew ty g (a * 2) (n - a) c (by omega) (fun j hj => by
        have hgk : w.drew.heap[g]? = some (.cells cur 103 (0, 0)) := hg
        simp only [World.cell?, hgk]
        rw [Array.getElem?_eq_getElem (by omega)]
        rfl) (fun j hj => by
        have hgk : w.drew.heap[g]? = some (.cells cur 103 (0, 0)) := hg
        unfold World.frozen?
        rw [hgk]
        simp)
    have HR : Hid ((w.drew.setCells g (a * 2) (svZ (n - a))).ownsRow 0 103 2 (.slice (some ⟨g, 0, none⟩) a cap) a (svC (l.take a)) ∧ Turns (fun i => i = g) w (w.drew.setCells g (a * 2) (svZ (n - a)))) := by
      obtain ⟨cur', k1, k2, k3⟩ := setCells_heap (svZ (n - a)) (a * 2) w.drew cur hg
      refine ⟨⟨by rw [svC_len]; simp [HN.out]; omega, Or.inr ⟨g, cap, cur', rfl, Nat.zero_le _, k1, by omega, h3, by omega, ?_⟩⟩, (Turns.drewN _ w 1).trans (Turns.setCells g _ _ _) (fun _ _ h => h)⟩
      rw [← svC_take, ← h5, List.take_take, Nat.min_eq_left (by omega)]
      apply List.ext_getElem?
      intro i
      rw [List.getElem?_take, List.getElem?_take]
      split
      · rw [Array.getElem?_toList, Array.getElem?_toList]
        exact k3 i (by assumption)
      · rfl
    clear hrow hg h5
    by_cases hcn : cap = n
    · obtain rfl : n = cap := hcn.symm
      go_enter Tryz.func57, Tryz.ntmps57
      go_wp2_with fail
      go_region_held_law (fun _ => True) (trivial) (refine step_append_none rfl _ _ rfl ⟨g, 0, none⟩ a n _ (n - n) rfl rfl (by omega) ?_)
      go_wp2_with fail
      go_ret
      exact ⟨_, rfl, HR.out.1, rfl, HR.out.2.mono (fun i _ e => by rw [e]; rfl)⟩
    · go_enter Tryz.func57, Tryz.ntmps57
      go_wp2_with fail
      go_region_held_law (fun _ => True) (trivial) (refine step_append_none rfl _ _ rfl ⟨g, 0, none⟩ a cap _ (cap - n) rfl rfl (by omega) ?_)
      go_wp2_with fail
      go_ret
      exact ⟨_, rfl, HR.out.1, rfl, HR.out.2.mono (fun i _ e => by rw [e]; rfl)⟩
end Go.Proofs.YtlcjkbhcbiggcaaGreatDoor

/- Back by its contract. -/
namespace Go.Proofs.YtlcjkbhcbiggcaaGreatDoor
open Go.RowKit Go.Maps
set_option maxRecDepth 100000

set_option maxHeartbeats 1000000 in
theorem save1_ok {w : World} {tb jb wm : Nat} {sv : Value} {last : Int} {s : SvI} (hT : Tb w tb jb wm sv last) (p : Sp w tb s) :
    Calls Tryz.prog 53 #[.pointer (some ⟨s.hb, 0, none⟩), .pointer (some ⟨s.q, 0, none⟩)] w fun e w' => e = .returned (.tuple #[]) ∧ ∃ wm', w.heap.size ≤ wm' ∧ Tb w' tb jb wm' sv last ∧ Mp w' wm' s.hn s.m ∧ Turns (fun i => i = tb) w w' := by
  have x0 : w.cell? ⟨s.hb, 0, none⟩ = some (.map (some s.hm)) := by simp [World.cell?, p.h]
  have x1 : w.cell? ⟨s.q, 0, none⟩ = some (.pointer (some ⟨tb, 0, none⟩)) := by simp [World.cell?, p.q]
  obtain ⟨c0, c1, c2, c3, fz⟩ := hT.cells
  have f1 := fz 1
  go_enter Tryz.func53, Tryz.ntmps53
  have Md : Mp w.drew s.hm s.hn s.m := p.M.turns (Turns.drewN (fun _ => False) w 1) id
  have k0 : w.drew.cell? ⟨s.hb, 0, none⟩ = some (.map (some s.hm)) ∧ w.drew.cell? ⟨s.q, 0, none⟩ = some (.pointer (some ⟨tb, 0, none⟩)) := ⟨x0, x1⟩
  have nqt : s.q ≠ tb := by
    intro e
    have h1 := p.q
    have h2 := hT
    unfold Tb at h2
    rw [e, h2] at h1
    simp at h1
  have nht : s.hb ≠ tb := by
    intro e
    have h1 := p.h
    have h2 := hT
    unfold Tb at h2
    rw [e, h2] at h1
    simp at h1
  go_wp2_with fail
  go_region_held3 (fun w' => w'.cell? ⟨s.hb, 0, none⟩ = some (.map (some s.hm)) ∧ w'.cell? ⟨s.q, 0, none⟩ = some (.pointer (some ⟨tb, 0, none⟩)))
    (first | exact k0 | exact k1 | exact k2 _)
    (first
      | (go_at_call 52; refine (clone_any Md).mono ?_; rintro e w1 ⟨rfl, M1, b1⟩; have b1 := Below.fromDrew b1; have h1 := (b1.block _ (heap_lt p.h)).trans p.h; have q1 := (b1.block _ (heap_lt p.q)).trans p.q; have T1 : Tb w1 tb jb wm sv last := (b1.block tb (heap_lt hT)).trans hT; have d1 := T1.cells.c1; have df := T1.cells.fz 1; have k1 : w1.cell? ⟨s.hb, 0, none⟩ = some (.map (some s.hm)) ∧ w1.cell? ⟨s.q, 0, none⟩ = some (.pointer (some ⟨tb, 0, none⟩)) := ⟨by simp [World.cell?, h1], by simp [World.cell?, q1]⟩; have k2 : ∀ v, (w1.setCell ⟨tb, 1, none⟩ v).cell? ⟨s.hb, 0, none⟩ = some (.map (some s.hm)) ∧ (w1.setCell ⟨tb, 1, none⟩ v).cell? ⟨s.q, 0, none⟩ = some (.pointer (some ⟨tb, 0, none⟩)) := (fun v => ⟨(World.cell?_of_block ((Turns.cell w1 tb 1 v).block _ (heap_lt h1) nht)).trans k1.1, (World.cell?_of_block ((Turns.cell w1 tb 1 v).block _ (heap_lt q1) nqt)).trans k1.2⟩)))
  go_wp2_with fail
  first | go_end0 | refine bodyPost_ret (results_none rfl _ _ _) rfl ?_
  have M1' : Mp w1 w.heap.size s.hn s.m := M1
  refine ⟨rfl, w.heap.size, Nat.le_refl _, heap_setCell_same _ tb 1 _ _ _ T1, M1'.turns (Turns.cell w1 tb 1 _) (fun e => by have := heap_lt hT; omega), (Below.turns b1 (fun i => i = tb)).trans (Turns.cell w1 tb 1 _) (fun _ _ h => h)⟩
set_option maxHeartbeats 2000000 in
theorem back_no {w : World} {d : Nat} {S : DevS} {k N : Nat} {G : Nat → Prop} {jb st sz : Nat} {seq : Int} {place : Nat} {free : Int} {bm nd : Nat} {a : List (Nat × Nat)} {fa : Nat → List Int} {tb wm ns : Nat} {m : List (Nat × Nat)} {f : Nat → List Int} {sv : Value} {last : Int} (h : Tx w d S k N G jb st sz seq place free bm nd a fa tb wm ns m f sv last) (ho : S.off = false) {l : List SvI} {la : Nat} (hv : Svs w G tb wm sv l la) (hll : l.length ≤ 1000000) (t : Int) (hn : ∀ s ∈ l, (s.mark : Int) ≠ t) :
    Calls Tryz.prog 25 #[.pointer (some ⟨tb, 0, none⟩), .int .i64 t] w fun e w' => e = .returned (.int .i64 75) ∧ Same0 w w' d S k N G := by
  have t0 := h.T.cells.c0
  go_enter Tryz.func25, Tryz.ntmps25
  go_wp2_with fail
  refine (power_ok h.D h.J ho).mono ?_
  rintro e w1 ⟨rfl, q1⟩
  have T1 := h.same q1
  have v1 := hv.same q1.2
  have t2 := T1.T.cells.c2
  clear t0
  have hmf : ∀ (fn : Fn) (first cap : Array Value) (w : World), (Instr.makeFunc fn first cap).run Tryz.prog w = .ok (.func fn first cap) w := fun _ _ _ _ => rfl
  go_wp2_with fail
  refine (bsearch_any l sv t w1 v1.row hll v1.ris).mono ?_
  rintro e w2 ⟨i, rfl, B2, b2⟩
  have hia : isAt l i t = false := by
    unfold isAt
    cases e : l[i]? with
    | none => rfl
    | some s => simpa using hn s (List.mem_of_getElem? e)
  rw [hia]
  clear t2
  go_wp2_with fail
  go_ret
  exact ⟨rfl, q1.1.below b2, q1.2.trans (Below.turns b2 (fun _ => False)) (fun _ _ => False.elim)⟩
/-- What Back leaves. -/
structure BackR (w w' : World) (d : Nat) (S : DevS) (k N : Nat) (G : Nat → Prop) (jb st sz : Nat) (seq : Int) (place : Nat) (free : Int) (bm nd : Nat) (a : List (Nat × Nat)) (fa : Nat → List Int) (tb : Nat) (s : SvI) (last : Int) (sv : Value) (l : List SvI) (la i : Nat) : Prop where
  ex : ∃ wm' sv', Tx w' d S k N G jb st sz seq place free bm nd a fa tb wm' s.hn s.m s.f sv' last ∧ Svs w' G tb wm' sv' (l.take (i + 1)) la ∧ w.heap.size ≤ wm' ∧ sv'.ownBlock = sv.ownBlock
  tr : Turns (fun i => G i ∨ i = tb ∨ sv.ownBlock = some i) w w'
theorem bs_at {l : List SvI} {t : Int} {i j : Nat} (h : Bs l t i) (hr : l.Pairwise (fun a b => a.mark < b.mark)) (hj : j < l.length) (e : (l[j].mark : Int) = t) : i = j := by
  rcases Nat.lt_trichotomy i j with q | q | q
  · have hi : i < l.length := by omega
    have h1 := h.hi l[i] (by rw [List.drop_eq_getElem_cons hi]; exact List.mem_cons_self)
    have h2 := List.pairwise_iff_getElem.1 hr i j hi hj q
    omega
  · exact q
  · have h1 := h.lo l[j] (List.mem_take_iff_getElem.2 ⟨j, by omega, rfl⟩)
    omega
set_option maxHeartbeats 4000000 in
theorem back_ok {w : World} {d : Nat} {S : DevS} {k N : Nat} {G : Nat → Prop} {jb st sz : Nat} {seq : Int} {place : Nat} {free : Int} {bm nd : Nat} {a : List (Nat × Nat)} {fa : Nat → List Int} {tb wm ns : Nat} {m : List (Nat × Nat)} {f : Nat → List Int} {sv : Value} {last : Int} (h : Tx w d S k N G jb st sz seq place free bm nd a fa tb wm ns m f sv last) (ho : S.off = false) {l : List SvI} {la : Nat} (hv : Svs w G tb wm sv l la) (hll : l.length ≤ 1000000) (j : Nat) (hj : j < l.length) :
    Calls Tryz.prog 25 #[.pointer (some ⟨tb, 0, none⟩), .int .i64 (l[j].mark : Nat)] w fun e w' => e = .returned (.int .i64 0) ∧ BackR w w' d S k N G jb st sz seq place free bm nd a fa tb l[j] last sv l la j := by
  have t0 := h.T.cells.c0
  go_enter Tryz.func25, Tryz.ntmps25
  go_wp2_with fail
  refine (power_ok h.D h.J ho).mono ?_
  rintro e w1 ⟨rfl, q1⟩
  have T1 := h.same q1
  have v1 := hv.same q1.2
  have t2 := T1.T.cells.c2
  clear t0
  have hmf : ∀ (fn : Fn) (first cap : Array Value) (w : World), (Instr.makeFunc fn first cap).run Tryz.prog w = .ok (.func fn first cap) w := fun _ _ _ _ => rfl
  go_wp2_with fail
  refine (bsearch_any l sv (l[j].mark : Nat) w1 v1.row hll v1.ris).mono ?_
  rintro e w2 ⟨i, rfl, B2, b2⟩
  obtain rfl := bs_at B2 v1.ris hj rfl
  have hia : isAt l i (l[i].mark : Nat) = true := by
    unfold isAt
    rw [List.getElem?_eq_getElem hj]
    simp
  rw [hia]
  have T2 := T1.below b2
  have v2 := v1.turns (Below.turns b2 (fun _ => False)) (fun _ _ => id) (fun _ _ => ⟨id, id, id, fun _ _ => id⟩)
  have hmem : l[i] ∈ l := List.getElem_mem hj
  have P2 := v2.sp l[i] hmem
  have r2 := v2.row
  obtain ⟨s, hs⟩ : ∃ s, l[i] = s := ⟨_, rfl⟩
  obtain ⟨g, cp, hsv, x0, x1⟩ := sv_get v2.row hj
  rw [hs] at x0 x1 P2
  have HS : Hid (l[i] = s) := hs
  clear hs hia
  obtain ⟨n, hn⟩ : ∃ n, l.length = n := ⟨_, rfl⟩
  have HN : Hid (l.length = n) := hn
  rw [hn] at hsv hll
  have hin : i < n := by omega
  clear hn
  subst hsv
  clear t2
  have t2 := T2.T.cells.c2
  have hini : (i : Int) < n := by omega
  have hni : (n : Int) ≤ 1000000 := by omega
  go_wp2_with fail
  refine (save1_ok T2.T P2).mono ?_
  rintro e w3 ⟨rfl, wm', lwm, T3, M3, u3⟩
  have r3 : w3.ownsRow 0 103 2 (.slice (some ⟨g, 0, none⟩) n cp) l.length (svC l) := own_turns r2 u3 (fun b hb e => own_typeJ r2 T2.T (by decide) (by rw [hb, e]))
  have r3d : w3.drew.ownsRow 0 103 2 (.slice (some ⟨g, 0, none⟩) n cp) l.length (svC l) := r3
  have y2 := T3.cells.c2
  have yf := T3.cells.fz 2
  have hdel := delete_any l (.slice (some ⟨g, 0, none⟩) n cp) (i + 1) w3.drew r3d (by rw [HN.out]; exact hll) (by rw [HN.out]; omega) (by rw [HN.out]; omega)
  have hi1 : ((i + 1 : Nat) : Int) = (i : Int) + 1 := by omega
  rw [HN.out, hi1] at hdel
  clear hi1
  clear t2 x0 x1
  go_wp2_with fail
  have HE : Hid (∀ w4 aN cN, w4.ownsRow 0 103 2 (.slice aN (i + 1) cN) (i + 1) (svC (l.take (i + 1))) → (Value.slice aN (i + 1) cN).ownBlock = (Value.slice (some ⟨g, 0, none⟩) n cp).ownBlock → Turns (fun x => (Value.slice (some ⟨g, 0, none⟩) n cp).ownBlock = some x) w3.drew w4 → BackR w (w4.setCell ⟨tb, 2, none⟩ (.slice aN (i + 1) cN)) d S k N G jb st sz seq place free bm nd a fa tb l[i] last (.slice (some ⟨g, 0, none⟩) n cp) l la i) := by
    intro w4 aN cN r4 o4 u4
    have s1 := q1.2.size
    have s2 := b2.size
    have hGl := h.D.lt
    have gH : ∀ x, w2.heap.size ≤ x → ¬ G x := fun x hx r => by have := hGl x r; omega
    have T4 : Tb w4 tb jb wm' (.slice (some ⟨g, 0, none⟩) n cp) last := (u4.block tb (heap_lt T3) (fun e => own_typeJ r3 T3 (by decide) e)).trans T3
    have T6 : Tb (w4.setCell ⟨tb, 2, none⟩ (.slice aN (i + 1) cN)) tb jb wm' (.slice aN (i + 1) cN) last := heap_setCell_same _ tb 2 _ _ _ T4
    have u6 := Turns.cell w4 tb 2 (.slice aN (i + 1) cN)
    have v36 : Turns (fun x => x = tb ∨ (Value.slice (some ⟨g, 0, none⟩) n cp).ownBlock = some x) w3 (w4.setCell ⟨tb, 2, none⟩ (.slice aN (i + 1) cN)) := (((Turns.drewN (fun _ => False) w3 1).mono (fun _ _ => False.elim)).trans u4 (fun _ _ e => Or.inr e)).trans u6 (fun _ _ e => Or.inl e)
    have v26 : Turns (fun x => x = tb ∨ (Value.slice (some ⟨g, 0, none⟩) n cp).ownBlock = some x) w2 (w4.setCell ⟨tb, 2, none⟩ (.slice aN (i + 1) cN)) := (u3.mono (fun _ _ e => Or.inl e)).trans v36 (fun _ _ e => e)
    have nY : ∀ (x : Nat) (cs : Array Value) (t : Nat), w2.heap[x]? = some (.cells cs t) → t ≠ 99 → t ≠ 103 → ¬ (x = tb ∨ (Value.slice (some ⟨g, 0, none⟩) n cp).ownBlock = some x) := fun x cs t hx h1 h2 e => by
      rcases e with rfl | e
      · have := T2.T; unfold Tb at this; rw [hx] at this; simp at this; exact h1 this.2
      · exact own_typeJ r2 hx h2 e
    have nM : ∀ (x n' : Nat) (y : List (Nat × Nat)), Mp w2 x n' y → ¬ (x = tb ∨ (Value.slice (some ⟨g, 0, none⟩) n cp).ownBlock = some x) := fun x n' y hx e => by
      rcases e with rfl | e
      · exact mp_cells hx T2.T rfl
      · exact own_mapJ r2 hx e
    have hsg : ¬ G g := hv.gr g rfl
    have lg : g < w2.heap.size := (r2.lt g rfl).2
    have lt := heap_lt T2.T
    have lj := heap_lt T2.J
    have lb := T2.A.own.lt
    have ls := v2.gs l[i] hmem
    rw [HS.out] at ls ⊢
    have nw : ¬ (wm' = tb ∨ (Value.slice (some ⟨g, 0, none⟩) n cp).ownBlock = some wm') := fun e => by
      rcases e with e | e
      · omega
      · have e' : g = wm' := Option.some.inj e
        omega
    refine ⟨⟨wm', _, ⟨T2.D.turns v26 (fun x hx e => ?_), (v26.block jb lj (nY jb _ _ T2.J (by decide) (by decide))).trans T2.J, T6, T2.A.turns v26 (nM bm _ _ T2.A), T2.VA.turns v26 (fun p hp => nY p.2 _ _ (T2.VA p hp).1 (by decide) (by decide)), M3.turns v36 nw, P2.V.turns v26 (fun p hp => nY p.2 _ _ (P2.V p hp).1 (by decide) (by decide)), h.gj, h.gt, h.ga, gH wm' lwm, ls.2.2.2.2, h.gva, h.tj, by omega, h.ta, by omega, h.ja, by omega⟩, ⟨?_, ?_, ?_, ?_, ?_, ?_⟩, by omega, o4⟩, ?_⟩
    · rcases e with rfl | e
      · exact h.gt hx
      · cases e; exact hsg hx
    · have e : (l.take (i + 1)).length = i + 1 := by rw [List.length_take]; omega
      rw [e]
      exact own_turns r4 u6 (fun b hb e => by
        rw [o4] at hb
        cases hb
        have := own_typeJ r2 T2.T (by decide)
        exact this (by rw [← e]; rfl))
    · exact List.Pairwise.sublist (List.take_sublist _ _) v2.ris
    · exact fun x hx => v2.top x (List.mem_of_mem_take hx)
    · intro b hb
      rw [o4] at hb
      cases hb
      exact hsg
    · intro x hx
      have p := v2.sp x (List.mem_of_mem_take hx)
      exact p.turns v26 (nY _ _ _ p.h (by decide) (by decide)) (nY _ _ _ p.q (by decide) (by decide)) (nM _ _ _ p.M) (fun y hy => nY _ _ _ (p.V y hy).1 (by decide) (by decide))
    · intro x hx
      have hx' := List.mem_of_mem_take hx
      have p := v2.sp x hx'
      have lh := p.M.own.lt
      obtain ⟨g1, g2, g3, _, g5⟩ := v2.gs x hx'
      exact ⟨g1, g2, g3, by omega, g5⟩
    · exact (((q1.2.mono (fun _ _ r => Or.inl r)).trans (Below.turns b2 (fun _ => False)) (fun _ _ => False.elim)).trans v26 (fun _ _ r => Or.inr r))
  have y2d : w3.drew.cell? ⟨tb, 2, none⟩ = some (.slice (some ⟨g, 0, none⟩) n cp) := y2
  have hw2 : IntKind.i64.wrap ((i : Int) + 1) = (i : Int) + 1 := Go.IntWalk.i64_in _ ⟨by omega, by omega⟩
  refine wp_region_held_drew (S := fun _ => True) (by kernel_rfl) trivial (fun hHeld => ?_)
  clear hHeld
  refine wpAnyH_take (i := 0) (oi := ⟨some 41, .move (.tmp 0), 63, "tx.go:100", #[], none⟩) (v := (.pointer (some ⟨tb, 0, none⟩))) rfl (by kernel_rfl) (by kernel_rfl) (by kernel_rfl) (fun _ _ _ h => h) (Or.inl ⟨by rfl, fun _ _ => by rfl⟩) trivial ?_
  simp only [Act.put, List.setIfInBounds_toArray, List.set_cons_zero, List.set_cons_succ]
  refine wpAnyH_take (i := 1) (oi := ⟨some 42, .move (.tmp 0), 63, "tx.go:100", #[], none⟩) (v := (.pointer (some ⟨tb, 0, none⟩))) rfl (by kernel_rfl) (by kernel_rfl) (by kernel_rfl) (fun _ _ _ h => h) (Or.inl ⟨by rfl, fun _ _ => by rfl⟩) trivial ?_
  simp only [Act.put, List.setIfInBounds_toArray, List.set_cons_zero, List.set_cons_succ]
  refine wpAnyH_take (i := 2) (oi := ⟨some 43, .nilCheck (.tmp 42), 0, "tx.go:100", #[⟨1, .data⟩], none⟩) (v := (.pointer (some ⟨tb, 0, none⟩))) rfl (by kernel_rfl) (by kernel_rfl) (by kernel_rfl) (fun _ _ _ h => h) (Or.inl ⟨by rfl, fun _ _ => by rfl⟩) trivial ?_
  simp only [Act.put, List.setIfInBounds_toArray, List.set_cons_zero, List.set_cons_succ]
  refine wpAnyH_take (i := 3) (oi := ⟨some 44, .fieldAddr 99 (.tmp 43) 2, 0, "tx.go:100", #[⟨2, .data⟩], none⟩) (v := (.pointer (some ⟨tb, 2, none⟩))) rfl (by kernel_rfl) (by kernel_rfl) (by kernel_rfl) (fun _ _ _ h => h) (Or.inl ⟨by rfl, fun _ _ => by rfl⟩) trivial ?_
  simp only [Act.put, List.setIfInBounds_toArray, List.set_cons_zero, List.set_cons_succ]
  refine wpAnyH_take (i := 5) (oi := ⟨some 46, .move (.tmp 6), 3, "tx.go:100", #[], none⟩) (v := (.int .i64 (i : Int))) rfl (by kernel_rfl) (by kernel_rfl) (by kernel_rfl) (fun _ _ _ h => h) (Or.inl ⟨by rfl, fun _ _ => by rfl⟩) trivial ?_
  simp only [Act.put, List.setIfInBounds_toArray, List.set_cons_zero, List.set_cons_succ]
  refine wpAnyH_take (i := 6) (oi := ⟨some 47, .binOp .add 3 (.tmp 46) (.const (.int .i64 1)) 3, 3, "tx.go:100", #[⟨5, .data⟩], none⟩) (v := (.int .i64 ((i : Int) + 1))) rfl (by kernel_rfl) (by kernel_rfl) (by kernel_rfl) (fun _ _ _ h => h) (Or.inl ⟨by rfl, fun w' h' => by unfold execOp; go_simp⟩) trivial ?_
  simp only [Act.put, List.setIfInBounds_toArray, List.set_cons_zero, List.set_cons_succ]
  refine wpAnyH_take (i := 7) (oi := ⟨some 48, .move (.tmp 0), 63, "tx.go:100", #[], none⟩) (v := (.pointer (some ⟨tb, 0, none⟩))) rfl (by kernel_rfl) (by kernel_rfl) (by kernel_rfl) (fun _ _ _ h => h) (Or.inl ⟨by rfl, fun _ _ => by rfl⟩) trivial ?_
  simp only [Act.put, List.setIfInBounds_toArray, List.set_cons_zero, List.set_cons_succ]
  refine wpAnyH_take (i := 8) (oi := ⟨some 49, .nilCheck (.tmp 48), 0, "tx.go:100", #[⟨7, .data⟩], none⟩) (v := (.pointer (some ⟨tb, 0, none⟩))) rfl (by kernel_rfl) (by kernel_rfl) (by kernel_rfl) (fun _ _ _ h => h) (Or.inl ⟨by rfl, fun _ _ => by rfl⟩) trivial ?_
  simp only [Act.put, List.setIfInBounds_toArray, List.set_cons_zero, List.set_cons_succ]
  refine wpAnyH_take (i := 9) (oi := ⟨some 50, .fieldAddr 99 (.tmp 49) 2, 0, "tx.go:100", #[⟨8, .data⟩], none⟩) (v := (.pointer (some ⟨tb, 2, none⟩))) rfl (by kernel_rfl) (by kernel_rfl) (by kernel_rfl) (fun _ _ _ h => h) (Or.inl ⟨by rfl, fun _ _ => by rfl⟩) trivial ?_
  simp only [Act.put, List.setIfInBounds_toArray, List.set_cons_zero, List.set_cons_succ]
  refine wpAnyH_ready (rs := [4, 10]) (by kernel_rfl) (by simp) ?_
  refine AllReadyH.cons (o := ⟨some 45, .load 97 (.tmp 44), 97, "tx.go:100", #[⟨3, .data⟩], none⟩) rfl (fun KK hK => ?_) (AllReadyH.cons (o := ⟨some 51, .load 97 (.tmp 50), 97, "tx.go:100", #[⟨9, .data⟩], none⟩) rfl (fun KK hK => ?_) AllReadyH.nil)
  · go_simp
    refine hK.out _ _ trivial (fun hHeld => ?_)
    clear hK KK hHeld
    try simp only [Act.put, List.setIfInBounds_toArray, List.set_cons_zero, List.set_cons_succ]
    refine wpAnyH_ready (rs := [10]) (by kernel_rfl) (by simp) ?_
    refine AllReadyH.cons (o := ⟨some 51, .load 97 (.tmp 50), 97, "tx.go:100", #[⟨9, .data⟩], none⟩) rfl (fun KK hK => ?_) AllReadyH.nil
    go_simp
    refine hK.out _ _ trivial (fun hHeld => ?_)
    clear hK KK hHeld
    try simp only [Act.put, List.setIfInBounds_toArray, List.set_cons_zero, List.set_cons_succ]
    refine wpAnyH_take (i := 11) (oi := ⟨some 52, .call ⟨.builtin .len, #[.tmp 51], #[97]⟩, 3, "tx.go:100", #[⟨10, .data⟩], none⟩) (v := (.int .i64 (n : Int))) rfl (by kernel_rfl) (by kernel_rfl) (by kernel_rfl) (fun _ _ _ h => h) (Or.inl ⟨by rfl, fun w' h' => by unfold execOp; go_simp⟩) trivial ?_
    simp only [Act.put, List.setIfInBounds_toArray, List.set_cons_zero, List.set_cons_succ]
    refine wpAnyH_ready (rs := [12]) (by kernel_rfl) (by simp) ?_
    refine AllReadyH.cons (o := ⟨some 53, .call ⟨.value (.func 57), #[.tmp 45, .tmp 47, .tmp 52], #[97, 3, 3]⟩, 97, "tx.go:100", #[⟨4, .data⟩, ⟨6, .data⟩, ⟨11, .data⟩], none⟩) rfl (fun KK hK => ?_) AllReadyH.nil
    go_simp
    refine hdel.mono ?_
    rintro e w4 ⟨sv', rfl, r4, o4, u4⟩
    obtain ⟨aN, cN, hsv4⟩ := row_slice r4
    subst hsv4
    have T4 : Tb w4 tb jb wm' (.slice (some ⟨g, 0, none⟩) n cp) last := (u4.block tb (heap_lt T3) (fun e => own_typeJ r3 T3 (by decide) e)).trans T3
    have z2 := T4.cells.c2
    have zf := T4.cells.fz 2
    go_wp2_with fail
    refine hK.out _ _ trivial (fun hHeld => ?_)
    clear hK KK hHeld
    try simp only [Act.put, List.setIfInBounds_toArray, List.set_cons_zero, List.set_cons_succ]
    refine wpAnyH_ready (rs := [13]) (by kernel_rfl) (by simp) ?_
    refine AllReadyH.cons (o := ⟨some 54, .nilCheck (.tmp 41), 0, "tx.go:100", #[⟨0, .data⟩, ⟨0, .phase⟩, ⟨1, .phase⟩, ⟨2, .phase⟩, ⟨3, .phase⟩, ⟨4, .phase⟩, ⟨5, .phase⟩, ⟨6, .phase⟩, ⟨7, .phase⟩, ⟨8, .phase⟩, ⟨9, .phase⟩, ⟨10, .phase⟩, ⟨11, .phase⟩, ⟨12, .phase⟩], none⟩) rfl (fun KK hK => ?_) AllReadyH.nil
    go_simp
    refine hK.out _ _ trivial (fun hHeld => ?_)
    clear hK KK hHeld
    try simp only [Act.put, List.setIfInBounds_toArray, List.set_cons_zero, List.set_cons_succ]
    refine wpAnyH_ready (rs := [14]) (by kernel_rfl) (by simp) ?_
    refine AllReadyH.cons (o := ⟨some 55, .fieldAddr 99 (.tmp 54) 2, 0, "tx.go:100", #[⟨13, .data⟩, ⟨0, .phase⟩, ⟨1, .phase⟩, ⟨2, .phase⟩, ⟨3, .phase⟩, ⟨4, .phase⟩, ⟨5, .phase⟩, ⟨6, .phase⟩, ⟨7, .phase⟩, ⟨8, .phase⟩, ⟨9, .phase⟩, ⟨10, .phase⟩, ⟨11, .phase⟩, ⟨12, .phase⟩], none⟩) rfl (fun KK hK => ?_) AllReadyH.nil
    go_simp
    refine hK.out _ _ trivial (fun hHeld => ?_)
    clear hK KK hHeld
    try simp only [Act.put, List.setIfInBounds_toArray, List.set_cons_zero, List.set_cons_succ]
    refine wpAnyH_ready (rs := [15]) (by kernel_rfl) (by simp) ?_
    refine AllReadyH.cons (o := ⟨none, .store 97 (.tmp 55) (.tmp 53), 0, "tx.go:100", #[⟨14, .data⟩, ⟨12, .data⟩, ⟨12, .chain⟩, ⟨0, .phase⟩, ⟨1, .phase⟩, ⟨2, .phase⟩, ⟨3, .phase⟩, ⟨4, .phase⟩, ⟨5, .phase⟩, ⟨6, .phase⟩, ⟨7, .phase⟩, ⟨8, .phase⟩, ⟨9, .phase⟩, ⟨10, .phase⟩, ⟨11, .phase⟩, ⟨12, .phase⟩], none⟩) rfl (fun KK hK => ?_) AllReadyH.nil
    go_simp
    refine hK.out _ _ trivial (fun hHeld => ?_)
    clear hK KK hHeld
    try simp only [Act.put, List.setIfInBounds_toArray, List.set_cons_zero, List.set_cons_succ]
    refine wpAnyH_done (by kernel_rfl) ?_ _
    have R6 := HE.out w4 _ _ r4 o4 u4
    obtain ⟨W6, hW6⟩ : ∃ W6, w4.setCell ⟨tb, 2, none⟩ (.slice aN (i + 1) cN) = W6 := ⟨_, rfl⟩
    rw [hW6] at R6
    try rw [hW6]
    clear r4 o4 u4 T4 z2 zf
    go_wp2_with fail
    go_ret
    exact ⟨rfl, R6⟩
  · go_simp
    refine hK.out _ _ trivial (fun hHeld => ?_)
    clear hK KK hHeld
    try simp only [Act.put, List.setIfInBounds_toArray, List.set_cons_zero, List.set_cons_succ]
    refine wpAnyH_take (i := 11) (oi := ⟨some 52, .call ⟨.builtin .len, #[.tmp 51], #[97]⟩, 3, "tx.go:100", #[⟨10, .data⟩], none⟩) (v := (.int .i64 (n : Int))) rfl (by kernel_rfl) (by kernel_rfl) (by kernel_rfl) (fun _ _ _ h => h) (Or.inl ⟨by rfl, fun w' h' => by unfold execOp; go_simp⟩) trivial ?_
    simp only [Act.put, List.setIfInBounds_toArray, List.set_cons_zero, List.set_cons_succ]
    refine wpAnyH_ready (rs := [4]) (by kernel_rfl) (by simp) ?_
    refine AllReadyH.cons (o := ⟨some 45, .load 97 (.tmp 44), 97, "tx.go:100", #[⟨3, .data⟩], none⟩) rfl (fun KK hK => ?_) AllReadyH.nil
    go_simp
    refine hK.out _ _ trivial (fun hHeld => ?_)
    clear hK KK hHeld
    try simp only [Act.put, List.setIfInBounds_toArray, List.set_cons_zero, List.set_cons_succ]
    refine wpAnyH_ready (rs := [12]) (by kernel_rfl) (by simp) ?_
    refine AllReadyH.cons (o := ⟨some 53, .call ⟨.value (.func 57), #[.tmp 45, .tmp 47, .tmp 52], #[97, 3, 3]⟩, 97, "tx.go:100", #[⟨4, .data⟩, ⟨6, .data⟩, ⟨11, .data⟩], none⟩) rfl (fun KK hK => ?_) AllReadyH.nil
    go_simp
    refine hdel.mono ?_
    rintro e w4 ⟨sv', rfl, r4, o4, u4⟩
    obtain ⟨aN, cN, hsv4⟩ := row_slice r4
    subst hsv4
    have T4 : Tb w4 tb jb wm' (.slice (some ⟨g, 0, none⟩) n cp) last := (u4.block tb (heap_lt T3) (fun e => own_typeJ r3 T3 (by decide) e)).trans T3
    have z2 := T4.cells.c2
    have zf := T4.cells.fz 2
    go_wp2_with fail
    refine hK.out _ _ trivial (fun hHeld => ?_)
    clear hK KK hHeld
    try simp only [Act.put, List.setIfInBounds_toArray, List.set_cons_zero, List.set_cons_succ]
    refine wpAnyH_ready (rs := [13]) (by kernel_rfl) (by simp) ?_
    refine AllReadyH.cons (o := ⟨some 54, .nilCheck (.tmp 41), 0, "tx.go:100", #[⟨0, .data⟩, ⟨0, .phase⟩, ⟨1, .phase⟩, ⟨2, .phase⟩, ⟨3, .phase⟩, ⟨4, .phase⟩, ⟨5, .phase⟩, ⟨6, .phase⟩, ⟨7, .phase⟩, ⟨8, .phase⟩, ⟨9, .phase⟩, ⟨10, .phase⟩, ⟨11, .phase⟩, ⟨12, .phase⟩], none⟩) rfl (fun KK hK => ?_) AllReadyH.nil
    go_simp
    refine hK.out _ _ trivial (fun hHeld => ?_)
    clear hK KK hHeld
    try simp only [Act.put, List.setIfInBounds_toArray, List.set_cons_zero, List.set_cons_succ]
    refine wpAnyH_ready (rs := [14]) (by kernel_rfl) (by simp) ?_
    refine AllReadyH.cons (o := ⟨some 55, .fieldAddr 99 (.tmp 54) 2, 0, "tx.go:100", #[⟨13, .data⟩, ⟨0, .phase⟩, ⟨1, .phase⟩, ⟨2, .phase⟩, ⟨3, .phase⟩, ⟨4, .phase⟩, ⟨5, .phase⟩, ⟨6, .phase⟩, ⟨7, .phase⟩, ⟨8, .phase⟩, ⟨9, .phase⟩, ⟨10, .phase⟩, ⟨11, .phase⟩, ⟨12, .phase⟩], none⟩) rfl (fun KK hK => ?_) AllReadyH.nil
    go_simp
    refine hK.out _ _ trivial (fun hHeld => ?_)
    clear hK KK hHeld
    try simp only [Act.put, List.setIfInBounds_toArray, List.set_cons_zero, List.set_cons_succ]
    refine wpAnyH_ready (rs := [15]) (by kernel_rfl) (by simp) ?_
    refine AllReadyH.cons (o := ⟨none, .store 97 (.tmp 55) (.tmp 53), 0, "tx.go:100", #[⟨14, .data⟩, ⟨12, .data⟩, ⟨12, .chain⟩, ⟨0, .phase⟩, ⟨1, .phase⟩, ⟨2, .phase⟩, ⟨3, .phase⟩, ⟨4, .phase⟩, ⟨5, .phase⟩, ⟨6, .phase⟩, ⟨7, .phase⟩, ⟨8, .phase⟩, ⟨9, .phase⟩, ⟨10, .phase⟩, ⟨11, .phase⟩, ⟨12, .phase⟩], none⟩) rfl (fun KK hK => ?_) AllReadyH.nil
    go_simp
    refine hK.out _ _ trivial (fun hHeld => ?_)
    clear hK KK hHeld
    try simp only [Act.put, List.setIfInBounds_toArray, List.set_cons_zero, List.set_cons_succ]
    refine wpAnyH_done (by kernel_rfl) ?_ _
    have R6 := HE.out w4 _ _ r4 o4 u4
    obtain ⟨W6, hW6⟩ : ∃ W6, w4.setCell ⟨tb, 2, none⟩ (.slice aN (i + 1) cN) = W6 := ⟨_, rfl⟩
    rw [hW6] at R6
    try rw [hW6]
    clear r4 o4 u4 T4 z2 zf
    go_wp2_with fail
    go_ret
    exact ⟨rfl, R6⟩
end Go.Proofs.YtlcjkbhcbiggcaaGreatDoor

/- Begin, Write, Read, Drop in one word: what a transaction is, and what it sees. -/
namespace Go.Proofs.YtlcjkbhcbiggcaaGreatDoor
open Go.RowKit Go.Maps
set_option maxRecDepth 100000

/-- What a transaction sees of a block. -/
def seesF (S : DevS) (m : List (Nat × Nat)) (f : Nat → List Int) (a : List (Nat × Nat)) (fa : Nat → List Int) (b : Nat) : List Int := if (lk m b).isSome then f b else if (lk a b).isSome then fa b else rdB S b
def updF (f : Nat → List Int) (b : Nat) (ds : List Int) : Nat → List Int := fun x => if x = b then ds else f x
theorem sees_of {w : World} {S : DevS} {m a : List (Nat × Nat)} {f fa : Nat → List Int} (hV : Vals w f m) (hVA : Vals w fa a) (b : Nat) : Sees w S m a b (seesF S m f a fa b) := by
  unfold seesF
  cases e : lk m b with
  | some g => exact Or.inl ⟨g, e, by simpa using (hV _ (mem_lk e)).1⟩
  | none =>
    refine Or.inr ⟨e, ?_⟩
    cases e2 : lk a b with
    | some g => exact Or.inl ⟨g, rfl, by simpa using (hVA _ (mem_lk e2)).1⟩
    | none => exact Or.inr ⟨rfl, by simp⟩
theorem Tx.begin {w : World} {d : Nat} {S : DevS} {k N : Nat} {G : Nat → Prop} {jb st sz : Nat} {seq : Int} {place : Nat} {free : Int} {bm nd : Nat} {a : List (Nat × Nat)} {fa : Nat → List Int} (h : Jn w d S k N G jb st sz seq place free bm nd a fa) (ho : S.off = false) (f : Nat → List Int) :
    Calls Tryz.prog 81 #[.pointer (some ⟨jb, 0, none⟩)] w fun e w' => ∃ tb wm, e = .returned (.pointer (some ⟨tb, 0, none⟩)) ∧ w.heap.size ≤ tb ∧ w.heap.size ≤ wm ∧ Tx w' d S k N G jb st sz seq place free bm nd a fa tb wm 0 [] f (.slice none 0 0) 0 ∧ Turns (fun i => G i ∨ i = jb) w w' := by
  refine (begin_ok h.D h.J h.gj ho).mono ?_
  rintro e w' ⟨tb, wm, rfl, l1, l2, J', T', M', D', t⟩
  have hG := h.D.lt
  have lj := heap_lt h.J
  have la := h.A.own.lt
  refine ⟨tb, wm, rfl, l1, l2, ⟨D', J', T', h.A.turns t (fun e => e.elim h.ga (fun e => h.ja e.symm)), h.VA.turns t (fun p hp e => e.elim (h.gva p hp) (fun e => ?_)), M', (fun p hp => by cases hp), h.gj, fun r => by have := hG _ r; omega, h.ga, fun r => by have := hG _ r; omega, (fun p hp => by cases hp), h.gva, by omega, fun e => mp_cells M' T' e, by omega, by omega, h.ja, by omega⟩, t⟩
  have h1 := (h.VA p hp).1
  have h2 := h.J
  unfold Jb at h2
  rw [e, h2] at h1
  simp [bl] at h1
theorem Tx.write {w : World} {d : Nat} {S : DevS} {k N : Nat} {G : Nat → Prop} {jb st sz : Nat} {seq : Int} {place : Nat} {free : Int} {bm nd : Nat} {a : List (Nat × Nat)} {fa : Nat → List Int} {tb wm ns : Nat} {m : List (Nat × Nat)} {f : Nat → List Int} {sv : Value} {last : Int} (h : Tx w d S k N G jb st sz seq place free bm nd a fa tb wm ns m f sv last) (ho : S.off = false) (hst : st + sz ≤ k) (b : Nat) (hb : b < k) (hout : b < st ∨ st + sz ≤ b) (ao : Option Addr) (c : Nat) (ds : List Int) (hL : Lies w ao 512 c ds) (hy : ∀ x ∈ ds, 0 ≤ x ∧ x ≤ 255) (haG : ∀ ad, ao = some ad → ¬ G ad.block) (hroom : (lk m b).isSome = true ∨ m.length < 24) (hn : ns ≤ 1000000) :
    Calls Tryz.prog 94 #[.pointer (some ⟨tb, 0, none⟩), .int .i64 b, .slice ao 512 c] w fun e w' => ∃ g, e = .returned (.int .i64 0) ∧ w.heap.size ≤ g ∧ Tx w' d S k N G jb st sz seq place free bm nd a fa tb wm (ns + 1) (mput m b g) (updF f b ds) sv last ∧ Turns (fun i => G i ∨ i = wm) w w' := by
  refine (txWrite_ok h.D h.J h.T h.M h.gj h.gt h.gm h.tm ho hst b hb hout ao c ds hL haG hroom hn).mono ?_
  rintro e w' ⟨g, rfl, lg, hg, M', D', t⟩
  have hG := h.D.lt
  have nV : ∀ (x : Nat) (l : List Int), w.heap[x]? = some (bl l) → ¬ G x → ¬ (G x ∨ x = wm) := fun x l hx hg e => e.elim hg (fun e => mp_no_bl h.M (by rw [← e]; exact hx))
  refine ⟨g, rfl, lg, { h with
    D := D'
    J := (t.block jb (heap_lt h.J) (fun e => e.elim h.gj h.jm)).trans h.J
    T := (t.block tb (heap_lt h.T) (fun e => e.elim h.gt h.tm)).trans h.T
    A := h.A.turns t (fun e => e.elim h.ga h.am)
    VA := h.VA.turns t (fun p hp => nV p.2 _ (h.VA p hp).1 (h.gva p hp))
    M := M'
    V := fun p hp => ?_
    gv := fun p hp => ?_ }, t⟩
  · by_cases e : p.1 = b
    · have h1 := lk_mem (mput_rising b g h.M.ris) hp
      rw [lk_mput m b g p.1 h.M.ris, if_pos e.symm] at h1
      have h2 : g = p.2 := Option.some.inj h1
      unfold updF
      rw [if_pos e, ← h2]
      exact ⟨hg, hL.hlen, hy⟩
    · rcases mput_mem hp with rfl | hp
      · exact absurd rfl e
      · have hv := h.V p hp
        unfold updF
        rw [if_neg e]
        exact ⟨(t.block p.2 (heap_lt hv.1) (nV p.2 _ hv.1 (h.gv p hp))).trans hv.1, hv.2⟩
  · rcases mput_mem hp with rfl | hp
    · exact fun r => by have := hG _ r; simp only at this; omega
    · exact h.gv p hp
theorem Tx.read {w : World} {d : Nat} {S : DevS} {k N : Nat} {G : Nat → Prop} {jb st sz : Nat} {seq : Int} {place : Nat} {free : Int} {bm nd : Nat} {a : List (Nat × Nat)} {fa : Nat → List Int} {tb wm ns : Nat} {m : List (Nat × Nat)} {f : Nat → List Int} {sv : Value} {last : Int} (h : Tx w d S k N G jb st sz seq place free bm nd a fa tb wm ns m f sv last) (ho : S.off = false) (hst : st + sz ≤ k) (b : Nat) (hb : b < k) (hout : b < st ∨ st + sz ≤ b) (hl : (seesF S m f a fa b).length = 512) :
    Calls Tryz.prog 60 #[.pointer (some ⟨tb, 0, none⟩), .int .i64 (b : Nat)] w fun e w' => ∃ g, e = .returned (.tuple #[hv g, .int .i64 0]) ∧ w.heap.size ≤ g ∧ w'.heap[g]? = some (bl (seesF S m f a fa b)) ∧ Tx w' d S k N G jb st sz seq place free bm nd a fa tb wm ns m f sv last ∧ Turns G w w' := by
  refine (txRead_ok h.D h.J h.T h.M h.A h.gj h.gt h.gm h.ga b (fun g e => h.gv _ (mem_lk e)) (fun g e => h.gva _ (mem_lk e)) ho hst hb hout _ (sees_of h.V h.VA b) hl).mono ?_
  rintro e w' ⟨g, rfl, lg, hg, D', t⟩
  exact ⟨g, rfl, lg, hg, h.same ⟨D', t⟩, t⟩
theorem Tx.drop {w : World} {d : Nat} {S : DevS} {k N : Nat} {G : Nat → Prop} {jb st sz : Nat} {seq : Int} {place : Nat} {free : Int} {bm nd : Nat} {a : List (Nat × Nat)} {fa : Nat → List Int} {tb wm ns : Nat} {m : List (Nat × Nat)} {f : Nat → List Int} {sv : Value} {last : Int} (h : Tx w d S k N G jb st sz seq place free bm nd a fa tb wm ns m f sv last) :
    Calls Tryz.prog 87 #[.pointer (some ⟨tb, 0, none⟩)] w fun e w' => e = .returned (.tuple #[]) ∧ Td w' tb ∧ Jn w' d S k N G jb st sz seq place free bm nd a fa ∧ Turns (fun i => i = tb ∨ i = jb) w w' := by
  refine (drop_ok h.T h.J h.tj).mono ?_
  rintro e w' ⟨rfl, T', J', t⟩
  refine ⟨rfl, T', ⟨h.D.turns t (fun i hi e => e.elim (fun e => h.gt (e ▸ hi)) (fun e => h.gj (e ▸ hi))), J', h.A.turns t (fun e => e.elim (fun e => h.ta e.symm) (fun e => h.ja e.symm)), h.VA.turns t (fun p hp e => ?_), h.gj, h.ga, h.gva, h.ja⟩, t⟩
  have h1 := (h.VA p hp).1
  rcases e with e | e
  · have h2 := h.T
    unfold Tb at h2
    rw [e, h2] at h1
    simp [bl] at h1
  · have h2 := h.J
    unfold Jb at h2
    rw [e, h2] at h1
    simp [bl] at h1
theorem txWrite_end {w : World} {tb : Nat} (hT : Td w tb) (b : Int) (v : Value) :
    Calls Tryz.prog 94 #[.pointer (some ⟨tb, 0, none⟩), .int .i64 b, v] w fun e w' => e = .returned (.int .i64 76) ∧ w' = w := by
  have t0 : w.cell? ⟨tb, 0, none⟩ = some (.pointer none) := by unfold Td at hT; simp [World.cell?, hT]
  go_enter Tryz.func94, Tryz.ntmps94
  go_wp2
  go_ret
  exact ⟨rfl, rfl⟩
end Go.Proofs.YtlcjkbhcbiggcaaGreatDoor

/- Open by its contract, of a log that holds transactions. -/
namespace Go.Proofs.YtlcjkbhcbiggcaaGreatDoor
open Go.RowKit Go.Maps
set_option maxRecDepth 100000

/-- What Open leaves. -/
def OpenR (w w' : World) (F : Nat → Prop) (d : Nat) (S : DevS) (k N st sz seq place : Nat) (T : List TxL) (e : Ending) : Prop := ∃ (jb bm : Nat) (S' : DevS) (N' : Nat), e = .returned (.tuple #[.pointer (some ⟨jb, 0, none⟩), .int .i64 T.length, .int .i64 0]) ∧ w.heap.size ≤ jb ∧ w.heap.size ≤ bm ∧ N' ≤ N + 4097 ∧ ((T = [] ∧ S' = S) ∨ ∃ a fa, 0 < a.length ∧ Rising a ∧ OutA k st sz a ∧ Cont a fa T ∧ (∀ q ∈ a, (fa q.1).length = 512 ∧ ∀ x ∈ fa q.1, 0 ≤ x ∧ x ≤ 255) ∧ S' = ckS S fa a st ((seq : Int) + T.length) (plEnd sz place T)) ∧ Jb w' jb d st sz ((seq : Int) + T.length) (plEnd sz place T) ((sz : Int) - 1) bm none ∧ Mp w' bm 0 [] ∧ (∃ G, Dev w' d 0 S' k N' G ∧ (∀ i, G i → F i ∨ w.heap.size ≤ i) ∧ ¬ G jb ∧ ¬ G bm) ∧ Turns F w w'
set_option maxHeartbeats 4000000 in
theorem open_log {w : World} {d : Nat} {S : DevS} {k N : Nat} {F : Nat → Prop} {er : Nat → Addr} (hD : Dev w d 0 S k N F) (st sz : Nat) (h1 : 27 ≤ sz) (h2 : st + sz ≤ k) (hEF : ∀ w', Turns F w w' → Errs w' er)
    (seq place : Nat) (hh : (hdR (rdB S st) (sz - 1)).1.1 = seq ∧ (hdR (rdB S st) (sz - 1)).2.1.1 = place) (hok : hdOk (rdB S st) (sz - 1) = true) (hp : place ≤ 4096) {T : List TxL} (hT : LogT S k st sz seq place ((sz : Int) - 1) T) (hs : (seq : Int) + T.length ≤ 4611686018427387904) (hS : Lasts S 4100) (hN : N ≤ 900000000)
    (hgB : ∀ b, b < k → (rdB S b).length = 512 ∧ ∀ x ∈ rdB S b, 0 ≤ x ∧ x ≤ 255) :
    Calls Tryz.prog 80 #[.pointer (some ⟨d, 0, none⟩), .int .i64 st, .int .i64 sz] w fun e w' => OpenR w w' F d S k N st sz seq place T e := by
  have ho := hS.on
  have hF := hD.lt
  have hk := hD.good.top
  obtain ⟨W, hW⟩ : ∃ W, w.alloc (.cells #[.pointer (some ⟨d, 0, none⟩), .int .i64 st, .int .i64 sz] 118) = W := ⟨_, rfl⟩
  have hb : Below w.heap.size w W := by rw [← hW]; exact (Below.refl _ w).alloc (Nat.le_refl _) _
  have x0 : W.cell? ⟨w.heap.size, 0, none⟩ = some (.pointer (some ⟨d, 0, none⟩)) := by rw [← hW]; simp
  have x1 : W.cell? ⟨w.heap.size, 1, none⟩ = some (.int .i64 st) := by rw [← hW]; simp
  have x2 : W.cell? ⟨w.heap.size, 2, none⟩ = some (.int .i64 sz) := by rw [← hW]; simp
  have hs0 : W.heap.size = w.heap.size + 1 := by rw [← hW]; simp
  have hDW := hD.below hb
  have hfit : fitB k st sz = true := by simp [fitB]; omega
  have m1 := fits_any hDW st sz (by omega) (by omega) (by omega)
  rw [hfit] at m1
  go_enter Tryz.func80, Tryz.ntmps80
  go_wp2_with fail
  try rw [hW]
  refine m1.mono ?_
  rintro e w1 ⟨rfl, q1⟩
  have old : ∀ j v, W.cell? ⟨w.heap.size, j, none⟩ = some v → w1.cell? ⟨w.heap.size, j, none⟩ = some v := fun j v h => (World.cell?_of_block (q1.2.block w.heap.size (by omega) (fun r => by have := hF _ r; omega))).trans h
  have y0 := old 0 _ x0
  have y1 := old 1 _ x1
  have y2 := old 2 _ x2
  have s1 := q1.2.size
  have T1 : Turns F w w1 := (Below.turns hb F).trans q1.2 (fun _ _ h => h)
  have HT1 : Hid (Turns F w w1) := T1
  clear x0 x1 x2 old m1
  go_wp2_with fail
  refine (begun_any q1.1).mono ?_
  rintro e w2 ⟨ev, rfl, hev, k2, q2⟩
  have he : begE S = 0 := by unfold begE; rw [if_neg (by simp [ho])]
  rw [he] at hev
  obtain ⟨_, rfl⟩ := hev.resolve_right (fun h => h.1 rfl)
  have hF1 : ∀ i, F i → i < w1.heap.size := fun i r => by have := hF i r; omega
  have g2 := Wg.start hF1 k2 q2
  obtain ⟨wb, hwb⟩ : ∃ wb, w1.heap.size = wb := ⟨_, rfl⟩
  rw [hwb] at g2
  have EF : ∀ w', Turns (fun i => F i ∨ i = wb) w1 w' → Errs w' er := fun w' t => hEF w' (T1.trans (t.mono (G := fun i => F i) (fun i hi r => r.elim id (fun r => by omega))) (fun _ _ h => h))
  have rg : ∀ w', Turns (fun i => F i ∨ i = wb) w1 w' → ∀ j v, w1.cell? ⟨w.heap.size, j, none⟩ = some v → w'.cell? ⟨w.heap.size, j, none⟩ = some v := fun w' t j v h => (World.cell?_of_block (t.block w.heap.size (by omega) (fun r => r.elim (fun r => by have := hF _ r; omega) (fun r => by omega)))).trans h
  have u0 := rg w2 g2.tr 0 _ y0
  have u1 := rg w2 g2.tr 1 _ y1
  have u2 := rg w2 g2.tr 2 _ y2
  have hwl := heap_lt g2.wk
  clear k2 q2 q1 hDW hD hb T1 hW
  go_wp2_with fail
  have hB0 := hgB st (by omega)
  refine (found_ok g2 st sz h1 h2 hk ho EF hB0.1 hB0.2 seq place hh hok).mono ?_
  rintro e w3 ⟨jb, bm, rfl, lj, lm, J3, M3, g3, kp3⟩
  have jw : jb ≠ wb := by omega
  have mw : bm ≠ wb := by omega
  have jl := heap_lt J3
  have ml := M3.lt
  clear u0 u1 u2 kp3 g2
  go_wp2_with fail
  have hjb : jb ≠ bm := mp_no_cells M3 J3
  refine (takeUp_any (T := T) g3 J3 M3 (Or.inr ⟨lj, jl⟩) (Or.inr ⟨lm, ml⟩) jw mw hjb (by omega) (by omega) (by omega) h2 hk hp ho EF hgB hT (by omega) hN).mono ?_
  rintro e w4 ⟨rfl, TK⟩
  obtain ⟨bm', p9, N9, lb9, hN9, C4, hp9⟩ := TK
  have HP9 : Hid (p9.1 = 0 ∧ ((T = [] ∧ p9.2 = S) ∨ ∃ a fa, 0 < a.length ∧ Rising a ∧ OutA k st sz a ∧ Cont a fa T ∧ (∀ q ∈ a, (fa q.1).length = 512 ∧ ∀ x ∈ fa q.1, 0 ≤ x ∧ x ≤ 255) ∧ p9.2 = ckS S fa a st (seq + T.length) (plEnd sz place T))) := by
    rcases hp9 with ⟨q1, q2⟩ | ⟨a, fa, q1, q2, q3, q4, q5, q6⟩
    · rw [q2]; exact ⟨rfl, Or.inl ⟨q1, rfl⟩⟩
    · have hla := low_len q2 (q3.low hk)
      rw [ckP_ok (fun p hp => (q3 p hp).1) (fun p hp => (q5 p hp).1) (by omega) (hS.mono (by omega))] at q6
      rw [q6]
      exact ⟨rfl, Or.inr ⟨a, fa, q1, q2, q3, q4, q5, rfl⟩⟩
  obtain ⟨ev, hev, hwk⟩ := C4.g.wk
  rw [HP9.out.1] at hev
  obtain ⟨_, rfl⟩ := hev.resolve_right (fun h => h.1 rfl)
  have e0 := hwk.c0
  have e1 := hwk.c1
  clear g3 J3 M3 hp9
  go_wp2
  refine bodyPost_ret (results_tmp3 rfl _ _ _) rfl ?_
  obtain ⟨G, D, hG, hX⟩ := C4.g.dv
  have T4 : Turns F w1 w4 := C4.g.tr.mono (fun i hi r => r.elim (fun r => r.elim id (fun r => by omega)) (fun r => by omega))
  exact ⟨jb, bm', p9.2, N9, rfl, by omega, by omega, hN9, HP9.out.2, C4.J, C4.A, ⟨G, D, fun i hi => (hG i hi).elim (fun q => q.imp id (fun q => by omega)) (fun r => Or.inr (by omega)), hX jb (Or.inr (Or.inl rfl)), hX bm' (Or.inr (Or.inr rfl))⟩, HT1.out.trans T4 (fun _ _ h => h)⟩
end Go.Proofs.YtlcjkbhcbiggcaaGreatDoor

/- Plain mathematics: descriptors, commits and hidden blocks are read back. -/
namespace Go.Proofs.YtlcjkbhcbiggcaaGreatDoor
open Go.RowKit Go.Maps
set_option maxRecDepth 100000

theorem rd_be {k n : Nat} {q pre post : List Int} {x M : Int} (hq : q = pre ++ (be x k ++ post)) (h0 : 0 ≤ x) (h1 : x < 2 ^ (8 * k)) (hM : x ≤ M) (hn : pre.length + k ≤ n) : rdNum k n q pre.length 0 M = (x, pre.length + k, 0) := by
  have e : (q.drop pre.length).take k = be x k := by rw [hq, List.drop_left' rfl, List.take_left' (be_length x k)]
  unfold rdNum
  rw [if_neg (by simp), if_neg (by omega), e, val_be k x h0 h1, if_neg (by omega)]
/-- What stands in a descriptor behind its mark. -/
theorem des_cut (seq : Int) (ls : List (Nat × Nat)) (hs : 0 ≤ seq ∧ seq ≤ 4611686018427387905) (hl : ls.length ≤ 24) : ((desB seq ls).drop 4).take 508 = (be ls.length 4 ++ be seq 8) ++ (lnB ls ++ List.replicate (496 - 8 * ls.length) 0) := by
  have h : desB seq ls = [65, 78, 88, 68] ++ ((be ls.length 4 ++ be seq 8) ++ (lnB ls ++ List.replicate (496 - 8 * ls.length) 0)) := by
    unfold desB fillB desH
    rw [u64_same seq hs.1 hs.2]
    have e : ([65, 78, 88, 68] ++ be (ls.length : Nat) 4 ++ be seq 8 ++ lnB ls).length = 16 + 8 * ls.length := by simp [be_length, lnB_len]; omega
    rw [e, show 512 - (16 + 8 * ls.length) = 496 - 8 * ls.length by omega]
    simp
  have hd : (desB seq ls).drop 4 = (be ls.length 4 ++ be seq 8) ++ (lnB ls ++ List.replicate (496 - 8 * ls.length) 0) := by rw [h]; rfl
  rw [hd, List.take_of_length_le]
  simp [be_length, lnB_len]
  omega
theorem lnB_split : ∀ (ls : List (Nat × Nat)) (i : Nat) (h : i < ls.length), lnB ls = lnB (ls.take i) ++ (be ls[i].1 4 ++ (be ls[i].2 4 ++ lnB (ls.drop (i + 1))))
  | p :: ls, 0, _ => by simp [lnB]
  | p :: ls, i + 1, h => by
    have := lnB_split ls i (by simpa using h)
    simp only [lnB, List.flatMap_cons, List.take_succ_cons, List.drop_succ_cons, List.getElem_cons_succ] at *
    rw [this]
    simp
/-- A descriptor is read back. -/
theorem lines_back (seq : Int) (ls : List (Nat × Nat)) (hs : 0 ≤ seq ∧ seq ≤ 4611686018427387905) (hl : ls.length ≤ 24) (hb : ∀ p ∈ ls, p.1 < 4294967296 ∧ p.2 ≤ 2) : linesR (desB seq ls) seq = ls := by
  have hbg : begs (desB seq ls) [65, 78, 88, 68] = true := by
    unfold begs
    refine decide_eq_true ?_
    unfold desB fillB desH
    rfl
  have hc := des_cut seq ls hs hl
  obtain ⟨q, hq⟩ : ∃ q, ((desB seq ls).drop 4).take 508 = q := ⟨_, rfl⟩
  rw [hq] at hc
  have a1 : dsA q = ((ls.length : Int), 4, 0) := rd_be (pre := []) (k := 4) (post := be seq 8 ++ (lnB ls ++ List.replicate (496 - 8 * ls.length) 0)) (by rw [hc]; simp) (by omega) (Int.lt_of_le_of_lt (show ((ls.length : Nat) : Int) ≤ 24 by omega) (by decide)) (by omega) (by simp)
  have a2 : dsB q = (seq, 12, 0) := by
    unfold dsB
    rw [a1]
    exact rd_be (pre := be ls.length 4) (k := 8) (post := lnB ls ++ List.replicate (496 - 8 * ls.length) 0) (by rw [hc]; simp) hs.1 (Int.lt_of_le_of_lt hs.2 (by decide)) (by omega) (by simp [be_length])
  have step : ∀ i (h : i < ls.length), dsP q i = (12 + 8 * i, 0) → dsP q (i + 1) = (12 + 8 * (i + 1), 0) ∧ dsL q i = ls[i] := fun i h hp => by
    have hsp := lnB_split ls i h
    have hbi := hb ls[i] (List.getElem_mem h)
    have hpl : (be ls.length 4 ++ be seq 8 ++ lnB (ls.take i)).length = 12 + 8 * i := by simp [be_length, lnB_len]; omega
    have hp2 : (be ls.length 4 ++ be seq 8 ++ lnB (ls.take i) ++ be ls[i].1 4).length = 16 + 8 * i := by simp [be_length, lnB_len]; omega
    have x1 := rd_be (n := 508) (M := 4294967295) (q := q) (pre := be ls.length 4 ++ be seq 8 ++ lnB (ls.take i)) (k := 4) (x := (ls[i].1 : Nat)) (post := be ls[i].2 4 ++ lnB (ls.drop (i + 1)) ++ List.replicate (496 - 8 * ls.length) 0) (by rw [hc, hsp]; simp) (by omega) (Int.lt_of_le_of_lt (show ((ls[i].1 : Nat) : Int) ≤ 4294967295 by omega) (by decide)) (by omega) (by rw [hpl]; omega)
    have x2 := rd_be (n := 508) (M := 2) (q := q) (pre := be ls.length 4 ++ be seq 8 ++ lnB (ls.take i) ++ be ls[i].1 4) (k := 4) (x := (ls[i].2 : Nat)) (post := lnB (ls.drop (i + 1)) ++ List.replicate (496 - 8 * ls.length) 0) (by rw [hc, hsp]; simp) (by omega) (Int.lt_of_le_of_lt (show ((ls[i].2 : Nat) : Int) ≤ 2 by omega) (by decide)) (by omega) (by rw [hp2]; omega)
    rw [hpl] at x1
    rw [hp2] at x2
    have e16 : 12 + 8 * i + 4 = 16 + 8 * i := by omega
    rw [e16] at x1
    refine ⟨?_, ?_⟩
    · show ((rdNum 4 508 q (rdNum 4 508 q (dsP q i).1 (dsP q i).2 4294967295).2.1 (rdNum 4 508 q (dsP q i).1 (dsP q i).2 4294967295).2.2 2).2.1, (rdNum 4 508 q (rdNum 4 508 q (dsP q i).1 (dsP q i).2 4294967295).2.1 (rdNum 4 508 q (dsP q i).1 (dsP q i).2 4294967295).2.2 2).2.2) = _
      rw [hp, x1, x2]
      simp only [Prod.mk.injEq, and_true]
      omega
    · unfold dsL
      rw [hp, x1, x2]
      simp
  have hP : ∀ i, i ≤ ls.length → dsP q i = (12 + 8 * i, 0) := fun i => by
    induction i with
    | zero => intro _; unfold dsP; rw [a2]
    | succ i ih => intro h; exact (step i (by omega) (ih (by omega))).1
  have hn : (dsA q).1.toNat = ls.length := by rw [a1]; simp
  unfold linesR
  rw [hq, if_pos ⟨hbg, by rw [a2], by rw [hn, hP _ (Nat.le_refl _)]⟩, hn]
  refine List.ext_getElem (by simp) (fun i h1 h2 => ?_)
  rw [List.getElem_map, List.getElem_range]
  exact (step i h2 (hP i (by omega))).2
/-- A commit is read back. -/
theorem com_back (seq s : Int) (hs : 0 ≤ seq ∧ seq ≤ 4611686018427387905) : isCom (comB seq) s = decide (seq = s) := by
  have hbg : begs (comB seq) [65, 78, 88, 67] = true := by
    unfold begs
    refine decide_eq_true ?_
    unfold comB fillB
    rfl
  have hc : ((comB seq).drop 8).take 504 = be seq 8 ++ List.replicate 496 0 := by
    have h : comB seq = ([65, 78, 88, 67] ++ be 0 4) ++ (be seq 8 ++ List.replicate 496 0) := by
      unfold comB fillB
      rw [u64_same seq hs.1 hs.2]
      have e : ([65, 78, 88, 67] ++ be 0 4 ++ be seq 8).length = 16 := by simp [be_length]
      rw [e]
      simp
    rw [h, List.drop_left' (by simp [be_length]), List.take_of_length_le (by simp [be_length])]
  unfold isCom
  have x1 := rd_be (n := 504) (M := 9223372036854775807) (q := be seq 8 ++ List.replicate 496 0) (pre := []) (k := 8) (x := seq) (post := List.replicate 496 0) (by simp) hs.1 (Int.lt_of_le_of_lt hs.2 (by decide)) (by omega) (by simp)
  rw [hc, hbg]
  have x1' : rdNum 8 504 (be seq 8 ++ List.replicate 496 0) 0 0 9223372036854775807 = (seq, 8, 0) := x1
  rw [x1']
  rfl
theorem no_com {bs : List Int} (h : begs bs [65, 78, 88, 67] = false) (s : Int) : isCom bs s = false := by
  unfold isCom
  rw [h]
  rfl
theorem des_no (seq : Int) (ls : List (Nat × Nat)) (s : Int) : isCom (desB seq ls) s = false := no_com (by
  unfold begs
  refine decide_eq_false ?_
  unfold desB fillB desH
  intro h
  have : ([65, 78, 88, 68] : List Int) = [65, 78, 88, 67] := h
  simp at this) s
theorem zB_no (s : Int) : isCom zB s = false := no_com (by decide) s
theorem hid_no (bs : List Int) (s : Int) : isCom (hidB bs (flagN bs)) s = false := no_com (by
  unfold hidB flagN
  by_cases h1 : begs bs [65, 78, 88, 68] = true
  · rw [if_pos h1, if_neg (by omega)]
    unfold begs
    refine decide_eq_false ?_
    intro h
    have : ([0, 0, 0, 0] : List Int) = [65, 78, 88, 67] := h
    simp at this
  · rw [if_neg h1]
    by_cases h2 : begs bs [65, 78, 88, 67] = true
    · rw [if_pos h2, if_neg (by omega)]
      unfold begs
      refine decide_eq_false ?_
      intro h
      have : ([0, 0, 0, 0] : List Int) = [65, 78, 88, 67] := h
      simp at this
    · rw [if_neg h2, if_pos rfl]
      simpa using h2) s
/-- A hidden block is shown as it was. -/
theorem show_back (bs : List Int) : shB (hidB bs (flagN bs)) (flagN bs) = bs ∧ shOk (hidB bs (flagN bs)) (flagN bs) = true := by
  have hz : begs ([0, 0, 0, 0] ++ bs.drop 4) [0, 0, 0, 0] = true := by unfold begs; exact decide_eq_true rfl
  by_cases h1 : begs bs [65, 78, 88, 68] = true
  · have hf : flagN bs = 1 := by unfold flagN; rw [if_pos h1]
    rw [hf]
    have e : bs.take 4 = [65, 78, 88, 68] := of_decide_eq_true h1
    refine ⟨?_, hz⟩
    show [65, 78, 88, 68] ++ bs.drop 4 = bs
    rw [← e]
    simp
  · by_cases h2 : begs bs [65, 78, 88, 67] = true
    · have hf : flagN bs = 2 := by unfold flagN; rw [if_neg h1, if_pos h2]
      rw [hf]
      have e : bs.take 4 = [65, 78, 88, 67] := of_decide_eq_true h2
      refine ⟨?_, hz⟩
      show [65, 78, 88, 67] ++ bs.drop 4 = bs
      rw [← e]
      simp
    · have hf : flagN bs = 0 := by unfold flagN; rw [if_neg h1, if_neg h2]
      rw [hf]
      exact ⟨rfl, rfl⟩
end Go.Proofs.YtlcjkbhcbiggcaaGreatDoor
