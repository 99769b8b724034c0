/- Where the arguments hold together at most 1048576 values: annexlaw2.SumPlace answers true, and its arguments read as before. -/
import Derived.Test.YtnnebmgiifnckabBulk
import Derived.Test.YtnnebmgiifnckabPlace
namespace Go.Proofs.Ytnnebmgiifnckab
open Go.ChangeShapes Go.WideShapes Go.ChangeAt Go.RowKit

theorem upto_lists {H : Type} {ds : List (DataW H)} {len : Nat} {L : Nat → Nat} {d : DataW H} (hk : Rows.uptoSmall H ds = true) (hd : d ∈ ds)
    (h : len = 0 ∨ ∃ el sp, d = .slice el sp ∧ el.length = len ∧ ∀ r (h : r < el.length), L r + 1 ≤ Rows.uptoBulk el[r]) : len ≤ 1048576 ∧ ∀ r, r < len → L r ≤ 1048576 := by
  rcases h with h | ⟨el, sp, rfl, hl, hr⟩
  · exact ⟨by omega, fun r hr => by omega⟩
  · have h1 := bulk_said hk
    have h2 := bulk_part hd
    have h3 := bulk_len el
    simp only [Rows.uptoBulk] at h2
    refine ⟨by omega, fun r hr' => ?_⟩
    have h4 := hr r (by omega)
    have h5 := bulk_part (List.getElem_mem (l := el) (n := r) (by omega))
    omega

set_option maxRecDepth 100000 in
theorem place_lifted (os : Os) (started : os.Started) (H : Type) (enc : TypeId × Value → H) (F : Stop.Interp) :
    ReturnsInHanded {} Try.checked os 8 .any ((Rows.OpenSpec.upto Rows.sumPlaceSpec).pre6 enc Try.prog Try.f8 Rows.sumPlaceUptoRow.domain false) (((Rows.OpenSpec.upto Rows.sumPlaceSpec).at F).post enc Try.prog Try.f8 false true false false) := by
  refine returnsInHanded_of_cond (C := Try.checked) (s := Rows.OpenSpec.upto Rows.sumPlaceSpec) (k := Rows.uptoSmall) rfl own started (by kernel_rfl) Try.func8
    (OpenSpec.witness (enc := enc) (C := Try.checked) (s := Rows.OpenSpec.upto Rows.sumPlaceSpec) (k := Rows.uptoSmall) rfl false ⟨#[], #[.int .u64 0, .slice none 0 0, .int .i64 0], []⟩ 8 (by kernel_rfl) (by kernel_rfl) (by kernel_rfl)
      (x := ([.lit (.int .u64 0), .nil, .lit (.int .i64 0)], [], [])) (by kernel_rfl) rfl (by kernel_rfl)) ?_
  intro W base args ds gs before hval0 hW _ hk _
  have hval : ∀ (j : Nat) t v, Try.f8.params[j]? = some t → args[j]? = some v → Value.okWide Try.prog W .any base t v := hval0
  have hW' := hW
  obtain ⟨p, q, hA0, hV, rfl, hfz, hnd⟩ := hW
  have hA : DataW.TrodAll enc Try.prog W 0 (fun _ => true) true Try.f8.params.toList args.toList ds p := hA0
  rw [Try.params8] at hA hval
  obtain ⟨v0, v1, v2, d0, d1, d2, p0, p1, p2, rfl, rfl, rfl, h0, h1, h2⟩ := trodAll_three hA
  obtain ⟨rfl, rfl⟩ := trodVars_none hV
  obtain ⟨x0, rfl, rfl, rfl, wx0⟩ := open_int Try.underlying22 (hval 0 22 v0 rfl rfl) h0
  obtain ⟨a1, l1, c1, rfl⟩ := okWide_slice Try.underlying23 (hval 1 23 v1 rfl rfl)
  have h1k := h1
  obtain ⟨f1, hf1⟩ := h1
  obtain ⟨A1, L1, C1, B1, hL1, hd1⟩ := view_lists hf1
  obtain ⟨hr1, hs1⟩ := upto_lists hk (d := d1) (by simp) hd1
  obtain ⟨x2, rfl, rfl, rfl, wx2⟩ := open_int Try.underlying3 (hval 2 3 v2 rfl rfl) h2
  clear hA0 hval0
  simp only [List.append_nil, List.nil_append] at hW'
  refine (place_any x0 a1 l1 c1 A1 L1 C1 B1 x2 W hr1 hL1 hs1).mono ?_
  rintro e W' ⟨rfl, hb⟩
  refine ⟨_, rfl, _, _, _, [], p1, [], hW', ?_, ?_, rfl, hb.frame _, fun h => by cases h⟩
  · exact trodAll_mk1 (shut_bool Try.underlying4 _)
  · have hT := trodAll_mk3 (shut_int Try.underlying22 wx0) (Below.trod laidOut (by kernel_rfl) (of_decide_eq_true (by kernel_rfl)) h1k hb (fun x hx => by simpa using hW'.lt x hx)) (shut_int Try.underlying3 wx2)
    simp only [List.append_nil, List.nil_append] at hT
    exact hT

theorem sumPlaceUpto_holds : Rows.SumPlaceUptoSaid :=
  OpenClaim.holds_of_cond 8 Try.f8 rfl rfl rfl rfl rfl rfl rfl ⟨rfl, rfl, rfl, rfl, rfl⟩ rfl rfl rfl rfl rfl (by kernel_rfl) Try.func8 (by kernel_rfl)
    (of_decide_eq_true (by kernel_rfl)) (by unfold Func.isWrapper; first | (rw [if_pos (by decide +kernel)]; kernel_rfl) | (rw [if_neg (by decide +kernel)]; exact ⟨rfl, rfl⟩))
    (fun os started H enc _ F => place_lifted os started H enc F)
#print axioms sumPlaceUpto_holds
end Go.Proofs.Ytnnebmgiifnckab
