/- A strings.Builder that is written to: copyCheck, WriteString. -/
import Derived.Test.YtjkmdacgiebbfaaDoorW1
import Derived.Lib.AppendStr
namespace Go.Proofs.YtjkmdacgiebbfaaDoor
open Go.RowKit Go.Sort
set_option maxRecDepth 100000

theorem bd_size : (Tryd.prog.info? 54).map (·.size) = some 2 := by kernel_rfl
theorem bd_lies : liesAt Tryd.prog Tryd.prog.depth 54 (2 / Tryd.prog.cellsOf 54) 0 54 1 = true := by kernel_rfl
/-- A builder of these bytes. -/
abbrev IsB (B b : Nat) (l : By) (w : World) : Prop := Lib.IsBuilder 54 5 B b (l.map ub) w

set_option maxHeartbeats 1000000 in
theorem check_fresh (b : Nat) (w : World) (h0 : w.cell? ⟨b, 0, none⟩ = some (.pointer none)) (hsh : w.shape? b = some (54, 2)) (hfz : w.frozen? ⟨b, 0, none⟩ = false) :
    Calls Tryd.prog 30 #[.pointer (some ⟨b, 0, none⟩)] w fun e w' => e = .returned (.tuple #[]) ∧ w' = w.setCell ⟨b, 0, none⟩ (.pointer (some ⟨b, 0, none⟩)) := by
  obtain ⟨j, hj, hjs⟩ := Option.map_eq_some_iff.1 bd_size
  go_enter Tryd.func30, Tryd.ntmps30
  go_wp2
  rw [Lib.run_to_unsafe w ⟨b, 0, none⟩ Tryd.underlying52 Tryd.underlying84 hj (by rw [hjs]; decide) hsh (Nat.zero_lt_succ 1)]
  simp only [Result.andThen]
  rw [Oper.upon_value]
  go_wp2
  rw [run_callFunc_extern Tryd.func44 (by kernel_rfl) (by kernel_rfl) (by kernel_rfl) (e := Extern.AbiNoEscape.same) (by kernel_rfl)]
  rw [Lib.run_noEscape]
  simp only [Result.andThen]
  rw [Oper.upon_value]
  go_wp2
  rw [Lib.run_from_unsafe w ⟨b, 0, none⟩ Tryd.underlying84 Tryd.underlying52 hj hsh bd_lies]
  simp only [Result.andThen]
  rw [Oper.upon_value]
  go_wp2
  go_end0
  exact ⟨rfl, rfl⟩
theorem check_used (b : Nat) (w : World) (h0 : w.cell? ⟨b, 0, none⟩ = some (.pointer (some ⟨b, 0, none⟩))) :
    Calls Tryd.prog 30 #[.pointer (some ⟨b, 0, none⟩)] w fun e w' => e = .returned (.tuple #[]) ∧ w' = w := by
  obtain ⟨j, hj, _⟩ := Option.map_eq_some_iff.1 bd_size
  go_enter Tryd.func30, Tryd.ntmps30
  go_wp2
  rw [Lib.run_neq_ptr_same w _ Tryd.underlying52 hj]
  go_wp2
  go_end0
  exact ⟨rfl, rfl⟩
theorem check_any (B b : Nat) (l : By) (w : World) (h : IsB B b l w) : Calls Tryd.prog 30 #[.pointer (some ⟨b, 0, none⟩)] w fun e w' => e = .returned (.tuple #[]) ∧ (Lib.BuilderAt 54 5 B b (.pointer (some ⟨b, 0, none⟩)) (l.map ub) w' ∧ Below B w w' ∧ ∀ i, i ≠ b → w'.heap[i]? = w.heap[i]?) := by
  rcases h with h | h
  · refine (check_fresh b w h.cell0 h.shape h.frozen0).mono ?_
    rintro e w' ⟨rfl, rfl⟩
    exact ⟨rfl, h.used _, (Below.refl B w).setCell (p := ⟨b, 0, none⟩) h.1 _, fun i hi => Below.heap_setCell _ _ _ _ hi⟩
  · refine (check_used b w h.cell0).mono ?_
    rintro e w' ⟨rfl, rfl⟩
    exact ⟨rfl, h, Below.refl B _, fun _ _ => rfl⟩
/-- Blocks that are neither the builder's nor rows of bytes are as they were. -/
def Kept (b : Nat) (w w' : World) : Prop := ∀ i cs t fz, i ≠ b → t ≠ 5 → w.heap[i]? = some (.cells cs t fz) → w'.heap[i]? = some (.cells cs t fz)
set_option maxHeartbeats 2000000 in
theorem writeString_any (B b : Nat) (l : By) (s : By) (w : World) (h : IsB B b l w) (hlen : l.length + s.length ≤ 140737488355328) (hB : B ≤ w.heap.size) :
    Calls Tryd.prog 18 #[.pointer (some ⟨b, 0, none⟩), .string (tx s)] w fun e w' => (∃ v, e = .returned v) ∧ IsB B b (l ++ s) w' ∧ Below B w w' ∧ Kept b w w' := by
  obtain ⟨i0, hi, hz0, hz1, hz2⟩ := info_parts Tryd.info5
  have hC := check_any B b l w h
  have hst := size_tx s
  clear h
  go_enter Tryd.func18, Tryd.ntmps18
  go_wp2_with fail
  refine hC.mono ?_
  rintro e w1 ⟨rfl, h1, hb1, hk1⟩
  clear hC
  obtain ⟨hBb, v, hbk, hown, hne⟩ := h1
  have c0 : w1.cell? ⟨b, 0, none⟩ = some (.pointer (some ⟨b, 0, none⟩)) := by rw [Lib.cell_of_heap hbk]; rfl
  have c1 : w1.cell? ⟨b, 1, none⟩ = some v := by rw [Lib.cell_of_heap hbk]; rfl
  rw [List.length_map] at hown
  have hB1 : B ≤ w1.heap.size := Nat.le_trans hB hb1.size
  have HO := Lib.hid hown
  have HK := Lib.hid hbk
  clear hown hbk
  go_wp2_with (at_builtin; refine Lib.wpList_append_own_string _ rfl _ _ 23 9 rfl B 5 i0 Tryd.underlying23 Tryd.underlying9 hi hz0 hz1 hz2 _ _ _ rfl HO.out (tx s) rfl (by unfold maxLen; omega) (by omega) hB1 ?_)
  intro v' w2 hown' hgrow _
  have hlt : b < w1.heap.size := (Array.getElem?_eq_some_iff.1 HK.out).1
  have hb2 : w2.heap[b]? = some (.cells #[.pointer (some ⟨b, 0, none⟩), v] 54 (0, 0)) := by
    rw [hgrow.block b hlt (fun e => hne e.symm)]
    exact HK.out
  have d0 : w2.cell? ⟨b, 0, none⟩ = some (.pointer (some ⟨b, 0, none⟩)) := by rw [Lib.cell_of_heap hb2]; rfl
  have d1 : w2.cell? ⟨b, 1, none⟩ = some v := by rw [Lib.cell_of_heap hb2]; rfl
  have f1 : w2.frozen? ⟨b, 1, none⟩ = false := Lib.frozen_of_heap hb2 1
  obtain ⟨ao, n', cap, rfl⟩ : ∃ ao n' cap, v' = .slice ao n' cap := by
    rcases hown'.2 with ⟨hv, _⟩ | ⟨g, cap, cur, hv, _⟩
    · exact ⟨_, _, _, hv⟩
    · exact ⟨_, _, _, hv⟩
  have hfin : IsB B b (l ++ s) (w2.setCell ⟨b, 1, none⟩ (.slice ao n' cap)) := by
    refine Or.inr (Lib.BuilderAt.put (T := 54) (e := 5) hBb hb2 (bs' := (l ++ s).map ub) ?_ (by decide))
    rw [strCells_tx, ← List.map_append] at hown'
    simpa using hown'
  have hbel : Below B w (w2.setCell ⟨b, 1, none⟩ (.slice ao n' cap)) := (hb1.grown hgrow hB1 (fun k hk => (HO.out.lt k hk).1)).setCell (p := ⟨b, 1, none⟩) hBb _
  have hkept : Kept b w (w2.setCell ⟨b, 1, none⟩ (.slice ao n' cap)) := by
    intro i cs t fz hi ht hh
    have h1 := (hk1 i hi).trans hh
    rw [Below.heap_setCell _ ⟨b, 1, none⟩ _ i hi, hgrow.block i (Array.getElem?_eq_some_iff.1 h1).1 ?_]
    · exact h1
    · intro he
      rcases HO.out.2 with ⟨hv0, _⟩ | ⟨g, cap', cur, hv0, _, hg, _⟩
      · rw [hv0] at he; cases he
      · rw [hv0] at he
        simp only [Value.ownBlock, Option.some.injEq] at he
        subst he
        rw [h1] at hg
        simp only [Option.some.injEq, Obj.cells.injEq] at hg
        exact ht hg.2.1
  have HK2 := Lib.hid hkept
  clear hkept
  have HF := Lib.hid hfin
  have HBL := Lib.hid hbel
  clear hfin hbel hown' hgrow hb2
  go_wp2_with fail
  go_ret2
  exact ⟨⟨_, rfl⟩, HF.out, HBL.out, HK2.out⟩
/-- The builder's text. -/
theorem string_any (B b : Nat) (l : By) (w : World) (h : IsB B b l w) (hB : B ≤ w.heap.size) : Calls Tryd.prog 19 #[.pointer (some ⟨b, 0, none⟩)] w fun e w' => e = .returned (.string (tx l)) ∧ Below B w w' := by
  refine (Tryd.Builder_String_any_k B b l w (Lib.IsBuilderF.of (show Lib.IsBuilder _ _ B b (Lib.byteCells l) w from h)) hB).mono ?_
  rintro e w' ⟨rfl, _, hb, _⟩
  exact ⟨rfl, hb⟩
theorem isB_new (w : World) : IsB w.heap.size w.heap.size [] (w.alloc (.cells #[.pointer none, .slice none 0 0] 54)) := Lib.fresh_isBuilder 54 5 w
/-- What lay below stands. -/
theorem IsB.below {B b : Nat} {l : By} {w w' : World} (h : IsB B b l w) (hb : Below w.heap.size w w') : IsB B b l w' := by
  have key : ∀ p, Lib.BuilderAt 54 5 B b p (l.map ub) w → Lib.BuilderAt 54 5 B b p (l.map ub) w' := by
    rintro p ⟨hBb, v, hbk, hown, hne⟩
    refine ⟨hBb, v, (hb.block b (Array.getElem?_eq_some_iff.1 hbk).1).trans hbk, ⟨hown.1, ?_⟩, hne⟩
    rcases hown.2 with hn | ⟨g, cap, cur, hv, hg, hgg, r⟩
    · exact .inl hn
    · exact .inr ⟨g, cap, cur, hv, hg, (hb.block g (Array.getElem?_eq_some_iff.1 hgg).1).trans hgg, r⟩
  exact h.elim (fun x => .inl (key _ x)) (fun x => .inr (key _ x))
end Go.Proofs.YtjkmdacgiebbfaaDoor
