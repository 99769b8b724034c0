/- Whatever the bytes and the kinds: annexlaw1.BitsOneForm answers true, and its arguments read as before; the package's five error variables hold what the program's text lays. -/
import Derived.Test.YtjpaooejkbkliaaDoorView
import Derived.Test.YtjpaooejkbkliaaDoorOneForm
namespace Go.Proofs.YtjpaooejkbkliaaDoor
open Go.ChangeShapes Go.WideShapes Go.ChangeAt Go.RowKit

set_option maxRecDepth 100000 in
set_option maxHeartbeats 400000 in
theorem oneForm_zero (ao ko : Option Addr) (n cap kc : Nat) (bs : List Int) (er : Nat → Addr) (w : World) (hE : Errs w er) (hn : n ≤ 140737488351232) (hL : Lies w ao n cap bs) :
    Calls Tryd.prog 4 #[.slice ao n cap, .slice ko 0 kc] w fun e w' => e = .returned (.bool true) ∧ Below w.heap.size w w' := by
  go_enter Tryd.func4, Tryd.ntmps4
  go_wp2_with fail
  refine (head_any er w hE).mono ?_
  rintro e w1 ⟨rfl, hb1⟩
  go_wp2_with fail
  refine (newReader_any ao n cap bs _ (by omega) (hL.below hb1 (Nat.le_refl _))).mono ?_
  rintro e w2 ⟨rb, g, rfl, hR2, hrb, hg, hb12⟩
  have hb2 := hb1.trans (hb12.mono hb1.size)
  go_wp2_with fail
  refine wp_loop_rounds 1 ?_
  rw [rounds_succ]
  go_wp2
  go_ret
  exact ⟨rfl, hb2⟩

set_option maxRecDepth 100000 in
theorem oneForm_lifted (os : Os) (started : os.Started) (H : Type) (enc : TypeId × Value → H) :
    ReturnsInHanded {} Tryd.checked os 4 .any (fun w args => (Rows.bitsOneFormSpec.pre enc Tryd.prog Tryd.f4 [] false w args ∧ laidMetH Tryd.prog laid5 w) ∧ sizedMet enc Tryd.prog Tryd.f4 (OpenSpec.ofChange Rows.bitsOneFormSpec) false w args)
      (Rows.bitsOneFormSpec.post enc Tryd.prog Tryd.f4 false true false false) := by
  refine returnsInHanded_of_change_and (C := Tryd.checked) (X := fun w _ => laidMetH Tryd.prog laid5 w) (fun _ _ _ hh h => h.of_heap hh) own started (by kernel_rfl) Tryd.func4
    (ChangeSpec.witness_shaped (enc := enc) (C := Tryd.checked) (os := os) (X := fun w _ => laidMetH Tryd.prog laid5 w) false (World.doorLaid Tryd.prog 400 os) #[.slice none 0 0, .slice none 0 0] 8 rfl (World.shaped_of_RefB (by kernel_rfl) (by kernel_rfl)) (by kernel_rfl) (by kernel_rfl) (by kernel_rfl) (door_met os _)) ?_
  intro W base args ds gs before hval0 hW _ hsz0 hL _
  have hsz : (DataW.weightsEach Tryd.prog (Tryd.f4.params.toList ++ Rows.bitsOneFormSpec.plain.varTypes Tryd.prog) (ds ++ gs)).all (· ≤ reachBytes) = true := hsz0
  clear hsz0
  have hval : ∀ (j : Nat) t v, Tryd.f4.params[j]? = some t → args[j]? = some v → Value.okWide Tryd.prog W .any base t v := hval0
  have hW' := hW
  obtain ⟨p, q, hA0, hV, rfl, hfz, hnd⟩ := hW
  have hA : DataW.TrodAll enc Tryd.prog W 0 (fun _ => true) true Tryd.f4.params.toList args.toList ds p := hA0
  rw [Tryd.params4] at hA hval hsz
  obtain ⟨v0, v1, d0, d1, p0, p1, rfl, rfl, rfl, h0, h1⟩ := trodAll_two hA
  obtain ⟨rfl, rfl⟩ := trodVars_none hV
  obtain ⟨a0, la, ca, rfl⟩ := okWide_slice Tryd.underlying24 (hval 0 24 v0 rfl rfl)
  obtain ⟨b0, lb, cb, rfl⟩ := okWide_slice Tryd.underlying28 (hval 1 28 v1 rfl rfl)
  obtain ⟨er, hE⟩ := errs_of_laid hL
  have h0k := h0
  have h1k := h1
  obtain ⟨fa, hfa⟩ := h0
  obtain ⟨fb, hfb⟩ := h1
  clear hA0 hval0
  simp only [List.append_nil] at hW'
  have hlt : ∀ x ∈ p0 ++ p1, x.block < W.heap.size := fun x hx => by simpa using hW'.lt x hx
  obtain ⟨A, hLA, hsA, hdA⟩ := view_bytes hfa
  obtain ⟨B, hBl, hlcb, hbN, hcb, hwB, hdB⟩ := view Tryd.underlying28 Tryd.underlying3 cells3 hfb
  have hra : la ≤ 140737488351232 := by
    rcases hdA with h | ⟨sa, h⟩
    · omega
    · have := sized_slice hsz (j := 0) (t := 24) (e := 5) rfl (by rw [h]; rfl) Tryd.underlying24
      rw [bytes5] at this
      simp only [lits, List.length_map, hLA.hlen, reachBytes] at this
      omega
  have hrb : lb ≤ 140737488351232 := by
    rcases hdB with h | ⟨sa, h⟩
    · omega
    · have := sized_slice hsz (j := 1) (t := 28) (e := 3) rfl (by rw [h]; rfl) Tryd.underlying28
      rw [bytes3] at this
      simp only [lits, List.length_map, hBl, reachBytes] at this
      omega
  have fin : ∀ (e : Ending) (W' : World), (e = .returned (.bool true) ∧ Below W.heap.size W W') → ∃ v, e = .returned v ∧ Rows.bitsOneFormSpec.post enc Tryd.prog Tryd.f4 false true false false W #[.slice a0 la ca, .slice b0 lb cb] v W' := by
    rintro e W' ⟨rfl, hb⟩
    refine ⟨_, rfl, _, _, _, [], p0 ++ p1, [], hW', ?_, ?_, rfl, hb.frame _, fun h => by cases h⟩
    · exact trodAll_mk1 (shut_bool Tryd.underlying4 _)
    · exact trodAll_mk2 (Below.trod laidOut (by kernel_rfl) (of_decide_eq_true (by kernel_rfl)) h0k hb (fun x hx => hlt x (List.mem_append_left _ hx))) (Below.trod laidOut (by kernel_rfl) (of_decide_eq_true (by kernel_rfl)) h1k hb (fun x hx => hlt x (List.mem_append_right _ hx)))
  by_cases hl0 : 0 < lb
  · cases b0 with
    | none => have := (hbN rfl).1; omega
    | some ad =>
      obtain ⟨b, off, rfl, hj⟩ := ints_at (fun i hi => hcb ad rfl i (by rw [← hBl]; exact hi)) (by rw [hBl]; exact hl0)
      exact (oneForm_any a0 la ca A b off lb cb B er W hE hra hLA hsA hrb (fun t ht => hj t (by rw [hBl]; exact ht))).mono fin
  · obtain rfl : lb = 0 := by omega
    exact (oneForm_zero a0 b0 la ca cb A er W hE hra hLA).mono fin

theorem bitsOneForm_holds : Rows.BitsOneFormSaid :=
  OpenClaim.holds_of_wide 4 Tryd.f4 rfl rfl rfl rfl rfl rfl rfl ⟨rfl, rfl, rfl, rfl, rfl⟩ rfl rfl rfl rfl rfl (by kernel_rfl) Tryd.func4 (by kernel_rfl)
    (of_decide_eq_true (by kernel_rfl)) (by unfold Func.isWrapper; first | (rw [if_pos (by decide +kernel)]; kernel_rfl) | (rw [if_neg (by decide +kernel)]; exact ⟨rfl, rfl⟩))
    (fun os started H enc _ => oneForm_lifted os started H enc)

theorem bitsOneForm_card : Rows.BitsOneFormCardSaid :=
  Claim7.holds_tied_plain_at .later [] [.sentinel, .sentinel, .sentinel, .sentinel, .sentinel] true (true, "76035a17c8d7a8d169b67c2daed34137e4cc5a225582007a3a4cfb68c66a9b09") true
    bitsOneForm_holds (fun _ h => by cases h) (by kernel_rfl) (fun _ h => by cases h) bitsOneForm_row_tie rfl ⟨rfl, rfl⟩ (by kernel_rfl) rfl
    (fun f fn hf hfn => by
      obtain rfl : f = 4 := Option.some.inj ((show Tryd.prog.funcNamed "annex/annexlaw1.BitsOneForm" = some 4 by kernel_rfl).symm.trans hf) |>.symm
      obtain rfl : fn = Tryd.f4 := (Option.some.inj (Tryd.func4.symm.trans hfn)).symm
      exact ⟨by kernel_rfl, fun j t ht => by
        rw [Tryd.params4] at ht
        have hm : t ∈ [24, 28] := by simpa using Array.mem_of_getElem? ht
        have hall : ([24, 28].all fun u => !Tryd.prog.wantsStandIn u) = true := by kernel_rfl
        exact (show Tryd.prog.wantsStandIn t = false by simpa using List.all_eq_true.1 hall t hm)⟩)
    (by kernel_rfl)
#print axioms bitsOneForm_card
end Go.Proofs.YtjpaooejkbkliaaDoor
