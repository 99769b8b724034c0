/- Whatever the arguments: annexlaw14.QueueMany answers true, and its arguments read as before. -/
import Derived.Test.YtkfdneohkgmmbaaQViewM
import Derived.Test.YtkfdneohkgmmbaaMM2
namespace Go.Proofs.Ytkfdneohkgmmbaa
open Go.ChangeShapes Go.WideShapes Go.ChangeAt Go.RowKit

set_option maxRecDepth 100000 in
theorem many8_lifted (os : Os) (started : os.Started) (H : Type) (enc : TypeId × Value → H) :
    ReturnsInHanded {} Try.checked os 8 .any (Rows.queueManySpec.pre6 enc Try.prog Try.f8 Rows.queueManyRow.domain false) (Rows.queueManySpec.post enc Try.prog Try.f8 false true false false) := by
  refine returnsInHanded_of_change_sized (C := Try.checked) own started (by kernel_rfl) Try.func8
    (ChangeSpec.witness6 (enc := enc) (C := Try.checked) false ⟨#[], #[.int .i64 0, .int .i64 0, .slice none 0 0, .slice none 0 0], []⟩ 8 (by kernel_rfl) (by kernel_rfl) (by kernel_rfl) (by kernel_rfl)) ?_
  intro W base args ds gs before hval0 hW _ hsz0 _
  have hsz : (DataW.weightsEach Try.prog (Try.f8.params.toList ++ Rows.queueManySpec.plain.varTypes Try.prog) (ds ++ gs)).all (· ≤ reachBytes) = true := hsz0
  clear hsz0
  have hval : ∀ (j : Nat) t v, Try.f8.params[j]? = some t → args[j]? = some v → Value.okWide Try.prog W .any base t v := hval0
  have hW' := hW
  obtain ⟨p, q, hA0, hV, rfl, hfz, hnd⟩ := hW
  have hA : DataW.TrodAll enc Try.prog W 0 (fun _ => true) true Try.f8.params.toList args.toList ds p := hA0
  rw [Try.params8] at hA hval hsz
  obtain ⟨v0, v1, v2, v3, d0, d1, d2, d3, p0, p1, p2, p3, rfl, rfl, rfl, h0, h1, h2, h3⟩ := trodAll_four hA
  obtain ⟨rfl, rfl⟩ := trodVars_none hV
  obtain ⟨x0, rfl, rfl, rfl, wx0⟩ := open_int Try.underlying3 (hval 0 3 v0 rfl rfl) h0
  obtain ⟨x1, rfl, rfl, rfl, wx1⟩ := open_int Try.underlying3 (hval 1 3 v1 rfl rfl) h1
  obtain ⟨a2, l2, c2, rfl⟩ := okWide_slice Try.underlying50 (hval 2 50 v2 rfl rfl)
  have h2k := h2
  obtain ⟨f2, hf2⟩ := h2
  obtain ⟨B2, hL2, hs2, hd2⟩ := view_ops hf2
  have hr2 := reach_ops hsz (j := 2) rfl rfl hL2.hlen hd2
  obtain ⟨a3, l3, c3, rfl⟩ := okWide_slice Try.underlying41 (hval 3 41 v3 rfl rfl)
  have h3k := h3
  obtain ⟨f3, hf3⟩ := h3
  obtain ⟨B3, hL3, hs3, hd3⟩ := view_items hf3
  have hr3 := reach_items hsz (j := 3) rfl rfl hL3.hlen hd3
  clear hA0 hval0
  simp only [List.append_nil, List.nil_append] at hW'
  refine (many_any8 x0 x1 a2 l2 c2 B2 a3 l3 c3 B3 W (bounds_i64 wx0) (bounds_i64 wx1) hr2 hL2 hs2 hr3 hL3 hs3).mono ?_
  rintro e W' ⟨rfl, hb⟩
  refine ⟨_, rfl, _, _, _, [], p2 ++ p3, [], hW', ?_, ?_, rfl, hb.frame _, fun h => by cases h⟩
  · exact trodAll_mk1 (shut_bool Try.underlying4 _)
  · have hT := trodAll_mk4 (shut_int Try.underlying3 wx0) (shut_int Try.underlying3 wx1) (Below.trod laidOut (by kernel_rfl) (of_decide_eq_true (by kernel_rfl)) h2k hb (fun x hx => by simpa using hW'.lt x (List.mem_append_left _ hx))) (Below.trod laidOut (by kernel_rfl) (of_decide_eq_true (by kernel_rfl)) h3k hb (fun x hx => by simpa using hW'.lt x (List.mem_append_right _ hx)))
    simp only [List.nil_append] at hT
    exact hT

theorem queueMany_holds : Rows.QueueManySaid :=
  OpenClaim.holds_of_wide 8 Try.f8 rfl rfl rfl rfl rfl rfl rfl ⟨rfl, rfl, rfl, rfl, rfl⟩ rfl rfl rfl rfl rfl (by kernel_rfl) Try.func8 (by kernel_rfl)
    (of_decide_eq_true (by kernel_rfl)) (by unfold Func.isWrapper; first | (rw [if_pos (by decide +kernel)]; kernel_rfl) | (rw [if_neg (by decide +kernel)]; exact ⟨rfl, rfl⟩))
    (fun os started H enc _ => many8_lifted os started H enc)
#print axioms queueMany_holds
end Go.Proofs.Ytkfdneohkgmmbaa
