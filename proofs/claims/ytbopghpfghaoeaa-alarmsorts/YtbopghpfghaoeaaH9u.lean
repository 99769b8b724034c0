/- shrink of a heap whose keys are bytes, by its contract. -/
import Derived.Test.YtbopghpfghaoeaaH8u
namespace Go.Proofs.Ytbopghpfghaoeaa
open Go.RowKit Go.Maps
set_option maxRecDepth 100000
attribute [local go_sem ↓] Go.wp_at_zero Go.wp_at_succ
theorem cutS_nearU {κ : Type} [DecidableEq κ] : ∀ {S : List (κ × Int)}, (S.map Prod.fst).Nodup → ∀ a, S.length ≤ (cutS S a).length + 1
  | [], _, _ => by simp
  | y :: S, h, a => by
    rw [List.map_cons, List.nodup_cons] at h
    by_cases e : y.1 = a
    · have : cutS (y :: S) a = S := by
        have := cutS_head (m := y) (T := S) (by rw [List.map_cons, List.nodup_cons]; exact h)
        rw [e] at this; exact this
      rw [this]; simp
    · have : cutS (y :: S) a = y :: cutS S a := by unfold cutS; rw [List.filter_cons, if_pos (by simpa using e)]
      rw [this, List.length_cons, List.length_cons]
      have := cutS_nearU h.2 a
      omega
theorem run_copy2U {P : Program} (w : World) (dT sT ty elem : TypeId) (g n c : Nat) (ao : Option Addr) (cap : Nat) (cur : Array Value) (t : TypeId) (cs : List Value) (hu : P.underlying dT = some (.slice elem)) (hs : (P.info? elem).map (·.size) = some 2) (hg : w.heap[g]? = some (.cells cur t (0, 0))) (hn : cs.length = n * 2) (hc : cur.size = n * 2)
    (hsrc : ∀ a, ao = some a → ∀ j v, cs[j]? = some v → w.cell? (a.add j) = some v) (hnil : ao = none → n = 0) (h1 : ∀ v ∈ cs, v.oneCell' = true) :
    (Builtin.copy_ #[dT, sT] ty #[.slice (some ⟨g, 0, none⟩) n c, .slice ao n cap]).run P w = .ok (goInt n) (w.setRow g cs.toArray) := by
  have hst := run_storeCells_at P g 0 t cs 0 cur w hg (by omega) h1
  simp only [Nat.add_zero, Nat.zero_add, List.take_zero, List.nil_append] at hst
  rw [List.drop_eq_nil_of_le (by rw [hn, Array.length_toList, hc]; exact Nat.le_refl _), List.append_nil] at hst
  cases hq : P.info? elem with
  | none => simp [hq] at hs
  | some i =>
    have hi : i.size = 2 := by simpa [hq] using hs
    cases ao with
    | none =>
      obtain rfl := hnil rfl
      obtain rfl : cs = [] := List.eq_nil_of_length_eq_zero (by omega)
      have e := setRow_self w g cur t (0, 0) hg
      have hcur : cur = #[] := Array.eq_empty_of_size_eq_zero (by omega)
      rw [hcur] at e
      simp [Builtin.copy_, run_underlying hu, Builtin.lenOf, Builtin.firstCells, sizeOf, typeInfo, hq, storeCells, e]
    | some a =>
      have hl := run_loadCells_list (P := P) w a cs (hsrc a rfl)
      rw [hn] at hl
      simp [Builtin.copy_, run_underlying hu, Builtin.lenOf, Builtin.firstCells, sizeOf, typeInfo, hq, hi, Nat.min_eq_left (Nat.le_refl n), hl, hst]
theorem run_mkmapU (w : World) (n : Int) : (Instr.makeMap 121 (some (.int .i64 n))).run Try.prog w = .ok (.map (some w.heap.size)) (w.alloc (.map #[] 0)) := by
  simp [Instr.makeMap, run_underlying Try.underlying121, asInt, newObj]
  rfl
theorem tc_oneU (l : List (Int × Int)) : ∀ v ∈ l.flatMap (tc KU), v.oneCell' = true := by
  intro v hv
  obtain ⟨x, _, hx⟩ := List.mem_flatMap.1 hv
  simp [tc] at hx
  rcases hx with rfl | rfl <;> rfl
/-- What shrink leaves. -/
def ShrRU (w w' : World) (lab : Nat → Nat) (k hb : Nat) (l : List (Int × Int)) : Prop := ∃ bm rv g, FlU w' (rl lab w k) k hb bm rv g l ∧ g ≤ l.length ∧ Turns (fun i => i = hb) w w'
/-- The places that were told so far. -/
structure SofU (f : Int → Option Nat) (l : List (Int × Int)) (j : Nat) : Prop where
  pl : ∀ (i : Nat) y, i < j → l[i]? = some y → f y.1 = some i
  dom : ∀ a, (f a).isSome = true → ∃ (i : Nat) (y : Int × Int), i < j ∧ l[i]? = some y ∧ y.1 = a
theorem SofU.step {f : Int → Option Nat} {l : List (Int × Int)} {j : Nat} (h : SofU f l j) (hnd : (l.map Prod.fst).Nodup) {y : Int × Int} (hy : l[j]? = some y) : SofU (upd f y.1 j) l (j + 1) := by
  refine ⟨fun i z hi hz => ?_, fun a ha => ?_⟩
  · unfold upd
    by_cases e : i = j
    · subst e; rw [hy] at hz; cases hz; simp
    · rw [if_neg (fun q => e (key_inj hnd hz hy q))]
      exact h.pl i z (by omega) hz
  · unfold upd at ha
    by_cases e : a = y.1
    · exact ⟨j, y, by omega, hy, e.symm⟩
    · rw [if_neg e] at ha
      obtain ⟨i, z, h1, h2, h3⟩ := h.dom a ha
      exact ⟨i, z, by omega, h2, h3⟩
theorem SofU.mp {f : Int → Option Nat} {l : List (Int × Int)} (h : SofU f l l.length) (hnd : (l.map Prod.fst).Nodup) : Mp f l := by
  refine ⟨hnd, fun j y hy => h.pl j y (List.getElem?_eq_some_iff.1 hy).1 hy, fun a ha => ?_⟩
  obtain ⟨i, z, h1, h2, rfl⟩ := h.dom a ha
  exact List.mem_map.2 ⟨z, List.mem_of_getElem? h2, rfl⟩
set_option maxHeartbeats 4000000 in
theorem shrink_U {w : World} {lab : Nat → Nat} {k hb bm g : Nat} {rv : Value} {l : List (Int × Int)} (h : FlU w lab k hb bm rv g l) :
    Calls Try.prog 60 #[.pointer (some ⟨hb, 0, none⟩)] w fun e w' => e = .returned (.tuple #[]) ∧ ShrRU w w' lab k hb l := by
  obtain ⟨D, f, h, hm, hp⟩ := h
  obtain ⟨c0, c1, c2, c3, fz⟩ := h.cells
  obtain ⟨ao, cap, hrv⟩ := own_slice h.row
  have hl := h.hl
  have hlg := h.hg
  have hR := h.row
  have hbx := h.box
  have hlb := heap_lt hbx
  rw [hrv] at c0 hR hbx
  obtain ⟨N, hN⟩ : ∃ N, l.length = N := ⟨_, rfl⟩
  have HN : Hid (l.length = N) := hN
  rw [hN] at c0 hR hbx hl
  have HH : Hid (Hx KU w lab k hb bm rv D f l g) := h
  have a0 : (g : Int) ≤ 8796093022208 := by omega
  have a00 : (N : Int) ≤ 4398046511104 := by omega
  by_cases hgl : g ≤ N
  · have a1 : decide ((g : Int) ≤ N) = true := decide_eq_true (by omega)
    clear h hN hrv
    go_enter Try.func60, Try.ntmps60
    go_wp2_with fail
    go_region
    go_wp2_with fail
    first | go_end0 | refine bodyPost_ret (results_none rfl _ _ _) rfl ?_
    exact ⟨rfl, bm, rv, g, ⟨D, f, (HH.out.relabU (w0 := w) hlb HH.out.map.lt (fun b e => own_lt HH.out.row e)).drew 1, hm, hp⟩, by rw [HN.out]; exact hgl, Turns.drewN _ w 1⟩
  · have a1 : decide ((g : Int) ≤ N) = false := decide_eq_false (by omega)
    obtain ⟨i0, hi, hz0, hz1, hz2⟩ := info_parts Try.infoTU
    have hsz : (Try.prog.info? 129).map (·.size) = some 2 := by rw [hi]; simp [hz1]
    obtain ⟨W1, hrun1, o1, gr1⟩ := run_make_full (P := Try.prog) w.drew 0 122 129 i0 (.agg #[.int .u8 0, .int .i64 0]) 2 Try.underlying122 hi hz0 hz1 .i64 .i64 N (by rw [hz2]; omega) (by unfold maxLen; omega) (Nat.zero_le _)
    have b1 : Below w.heap.size w W1 := ⟨gr1.os, gr1.tape, gr1.output, gr1.size, fun i hi => gr1.block i hi (by simp)⟩
    obtain ⟨q0, hq0⟩ : ∃ q0, w.heap.size = q0 := ⟨_, rfl⟩
    have hq1 : w.drew.heap.size = q0 := hq0
    rw [hq1] at hrun1 o1
    obtain ⟨cur, hcu, hcs⟩ : ∃ cur, W1.heap[q0]? = some (.cells cur 129 (0, 0)) ∧ cur.size = N * 2 := by
      rcases o1.2 with ⟨q, _⟩ | ⟨g', cap', cur, q, _, hh, _, _, h5, _⟩
      · cases q
      · cases q; exact ⟨cur, hh, h5⟩
    have hsrc : ∀ a, ao = some a → ∀ j v, (l.flatMap (tc KU))[j]? = some v → W1.cell? (a.add j) = some v := fun a ha j v hv => by
      subst ha
      rcases own_shape hR with ⟨q, _⟩ | ⟨gr, cap', q, _⟩
      · cases q
      · cases q
        exact cell_turn (hR.cells rfl j v hv) (Below.turns b1 (fun _ => False)) (fun q => q)
    have hrun2 := run_copy2U (P := Try.prog) W1 122 122 3 129 q0 N N ao cap cur _ (l.flatMap (tc KU)) Try.underlying122 hsz hcu (by rw [tc_len, hN]) hcs hsrc (fun q => by
      subst q
      rcases own_shape hR with ⟨_, q⟩ | ⟨gr, cap', q, _⟩
      · exact q
      · cases q) (tc_oneU l)
    obtain ⟨W2, hW2⟩ : ∃ W2, W1.setRow q0 (l.flatMap (tc KU)).toArray = W2 := ⟨_, rfl⟩
    rw [hW2] at hrun2
    have b2 : Below w.heap.size w W2 := by rw [← hW2]; exact below_setRow b1 (by omega) _
    have r2 : W2.heap[q0]? = some (.cells (l.flatMap (tc KU)).toArray 129 (0, 0)) := by rw [← hW2]; exact setRow_heap _ _ _ _ _ _ hcu
    have hrun3 := run_mkmapU W2 N
    obtain ⟨W3, hW3⟩ : ∃ W3, W2.alloc (.map #[] 0) = W3 := ⟨_, rfl⟩
    rw [hW3] at hrun3
    obtain ⟨bn, hbn⟩ : ∃ bn, W2.heap.size = bn := ⟨_, rfl⟩
    rw [hbn] at hrun3
    have m3 : W3.ownsMap Try.prog 5 RV bn 0 (.map []) := by rw [← hW3, ← hbn]; exact World.ownsMap_made _ _ _ _
    have b3 : Below w.heap.size w W3 := by rw [← hW3]; exact b2.alloc b2.size _
    have hq2 : q0 < bn := by rw [← hbn]; exact heap_lt r2
    have r3 : W3.heap[q0]? = some (.cells (l.flatMap (tc KU)).toArray 129 (0, 0)) := by rw [← hW3, Below.heap_alloc _ _ _ (heap_lt r2)]; exact r2
    have hrow3 : W3.ownsRow 0 129 2 (.slice (some ⟨q0, 0, none⟩) N N) N (l.flatMap (tc KU)) := ⟨by rw [tc_len, hN], Or.inr ⟨q0, N, _, rfl, Nat.zero_le _, r3, Nat.le_refl _, by unfold maxLen; omega, by rw [List.size_toArray, tc_len, hN], by rw [List.take_of_length_le (by rw [Array.length_toList, List.size_toArray, tc_len, hN]; exact Nat.le_refl _)]⟩⟩
    have k1 : W1.cell? ⟨hb, 0, none⟩ = some (.slice ao N cap) := cell_turn c0 (Below.turns b1 (fun _ => False)) (fun q => q)
    have bx3 := (b3.block hb hlb).trans hbx
    have hnd := hm.nd
    clear h hN hrv hW3 hW2 hcu hcs hsrc hbn hq1 r2 r3 o1 gr1 b1 b2 hR c1 c2 fz
    go_enter Try.func60, Try.ntmps60
    go_wp2_with fail
    go_region
    go_wp2_with fail
    go_loopw [33] (fun v wr => ∃ (j : Nat) (D : DataW Value) (f : Int → Option Nat), v = .int .i64 j ∧ j ≤ N ∧ wr.ownsMap Try.prog 5 RV bn j D ∧ MapIs KU D f ∧ Hid (SofU f l j) ∧ Turns (fun i => i = bn) W3 wr) (fun v _ => N + 1 - (intOf v).toNat)
    case atStart => exact ⟨0, .map [], fun _ => none, rfl, Nat.zero_le _, m3, MapIs.empty, ⟨fun i y hi => by omega, fun a ha => by cases ha⟩, Turns.refl _ _⟩
    case round =>
      clear m3
      obtain ⟨j, D', f', rfl, hj, mr, mis, sof, tr⟩ := hrel
      by_cases hlt : j < N
      · obtain ⟨y, hy⟩ : ∃ y, l[j]? = some y := ⟨_, List.getElem?_eq_getElem (by rw [HN.out]; exact hlt)⟩
        have hoky : KU.ok y.1 := HH.out.ok y (List.mem_of_getElem? hy)
        obtain ⟨e1, e2⟩ := tc_at (K := KU) l j y hy
        have x0 : wr.cell? ⟨q0, j * 2, none⟩ = some (.int .u8 y.1) := cell_turn ((hrow3.cellAt _ (by omega)).trans e1) tr (by show ¬ q0 = bn; omega)
        have x1 : wr.cell? ⟨q0, j * 2 + 1, none⟩ = some (.int .i64 y.2) := cell_turn ((hrow3.cellAt _ (by omega)).trans e2) tr (by show ¬ q0 = bn; omega)
        have hkey : keyOf Try.prog 5 (.int .u8 y.1) = some (.int .u8 y.1) := KU.key y.1 hoky
        obtain ⟨W4, hW4⟩ : ∃ W4, wr.alloc (.cells #[.int .u8 y.1, .int .i64 y.2] 129) = W4 := ⟨_, rfl⟩
        have m4 : W4.ownsMap Try.prog 5 RV bn j D' := by rw [← hW4]; exact mr.alloc _
        have z0 : W4.cell? ⟨wr.heap.size, 0, none⟩ = some (.int .u8 y.1) := by rw [← hW4]; exact (box_twoU _ _ _ _).1
        obtain ⟨w5, hrun5, m5, t5⟩ := m4.store KU.law Try.underlying121 (by unfold maxLen; omega) hkey (val := .int .i64 j) (d := .held (.int .i64 j)) (ps := []) rfl
        have T5 : Turns (fun i => i = bn) W3 w5 := (tr.trans (by rw [← hW4]; exact Turns.alloc (fun i => i = bn) wr _) (fun _ _ q => q)).trans (Turns.grown t5.grown (fun b hb => (Option.some.inj hb).symm)) (fun _ _ q => q)
        have mis5 := mis.put mr.isMap y.1 j
        have sof5 : Hid (SofU (upd f' y.1 j) l (j + 1)) := sof.out.step hnd hy
        have b4 : (j : Int) < N := by omega
        have b5 : (0 : Int) ≤ j := by omega
        clear e1 e2 hy mr tr t5 m4 mis sof
        go_wp2_with fail
        go_roundw
        case rel => exact ⟨j + 1, _, _, by go_num, by omega, m5, mis5, sof5, T5⟩
        case measure => simp [intOf]; omega
      · obtain rfl : j = N := by omega
        have hbb : ¬ hb = bn := by omega
        have bxr := (tr.block hb (heap_lt bx3) hbb).trans bx3
        have z0 : wr.cell? ⟨hb, 0, none⟩ = some (.slice ao j cap) := by simp [World.cell?, bxr]
        have z1 : wr.cell? ⟨hb, 1, none⟩ = some (.map (some bm)) := by simp [World.cell?, bxr]
        have z3 : wr.cell? ⟨hb, 3, none⟩ = some (.int .i64 g) := by simp [World.cell?, bxr]
        have zf : ∀ i, wr.frozen? ⟨hb, i, none⟩ = false := fun i => by simp [World.frozen?, bxr]
        have rr := own_turns hrow3 tr (fun b q => by cases q; show ¬ q0 = bn; omega)
        go_wp2_with fail
        first | go_end0 | refine bodyPost_ret (results_none rfl _ _ _) rfl ?_
        have T6 : Turns (fun i => i = hb) wr (((wr.setCell ⟨hb, 0, none⟩ (.slice (some ⟨q0, 0, none⟩) j j)).setCell ⟨hb, 1, none⟩ (.map (some bn))).setCell ⟨hb, 3, none⟩ (.int .i64 0)) := ((Turns.cell _ _ _ _).trans (Turns.cell _ _ _ _) (fun _ _ q => q)).trans (Turns.cell _ _ _ _) (fun _ _ q => q)
        refine ⟨rfl, bn, .slice (some ⟨q0, 0, none⟩) j j, 0, ⟨D', f', ⟨?_, ?_, ?_, mis, ?_, ?_, ?_, HH.out.ok, HH.out.hl, by omega⟩, ?_, hp⟩, Nat.zero_le _, ?_⟩
        · exact heap_setCell_same _ _ _ _ _ _ (heap_setCell_same _ _ _ _ _ _ (heap_setCell_same _ _ _ _ _ _ bxr))
        · rw [HN.out]; exact own_turns rr T6 (fun b q => by cases q; show ¬ q0 = hb; omega)
        · rw [HN.out]; exact map_turns mr T6 (by show ¬ bn = hb; omega)
        · rw [rl_old hlb]; exact HH.out.lh
        · exact rl_new (by omega)
        · exact fun b q => by cases q; exact rl_new (by show w.heap.size ≤ q0; omega)
        · have := sof.out; rw [← HN.out] at this; exact this.mp hnd
        · exact ((Below.turns b3 (fun i => i = hb)).trans tr (fun i hi q => by omega)).trans T6 (fun _ _ q => q)
end Go.Proofs.Ytbopghpfghaoeaa
