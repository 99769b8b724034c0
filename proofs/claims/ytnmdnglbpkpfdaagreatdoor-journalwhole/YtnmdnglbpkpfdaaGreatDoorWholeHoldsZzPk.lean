/- Whatever the arguments: annexlaw7.JournalWhole answers true, and its arguments read as before; the five error variables of package bits and the type of errors hold what the program's text lays. -/
import Derived.Test.YtnmdnglbpkpfdaaGreatDoorPk26
import Derived.Test.YtnmdnglbpkpfdaaGreatDoorPk24
namespace Go.Proofs.YtnmdnglbpkpfdaaGreatDoor
open Go.ChangeShapes Go.WideShapes Go.ChangeAt Go.RowKit
set_option maxRecDepth 100000 in
theorem whole_lifted (os : Os) (started : os.Started) (H : Type) (enc : TypeId × Value → H) :
    ReturnsInHanded {} Tryz.checked os 6 .any (fun w args => (Rows.journalWholeSpec.pre enc Tryz.prog Tryz.f6 [] false w args ∧ laidMetH Tryz.prog laidA w) ∧ sizedMet enc Tryz.prog Tryz.f6 (OpenSpec.ofChange Rows.journalWholeSpec) false w args)
      (Rows.journalWholeSpec.post enc Tryz.prog Tryz.f6 false true false false) := by
  refine returnsInHanded_of_change_and (C := Tryz.checked) (X := fun w _ => laidMetH Tryz.prog laidA w) (fun _ _ _ hh h => h.of_heap hh) own started (by kernel_rfl) Tryz.func6
    (ChangeSpec.witness_shaped (enc := enc) (C := Tryz.checked) (os := os) (X := fun w _ => laidMetH Tryz.prog laidA w) false (World.doorLaid Tryz.prog 400 os) #[.int .i64 0, .int .i64 0, .int .i64 0, .slice none 0 0, .slice none 0 0, .slice none 0 0] 8 rfl (World.shaped_of_RefB (by kernel_rfl) (by kernel_rfl)) (by kernel_rfl) (by kernel_rfl) (by kernel_rfl) (door_met os _)) ?_
  intro W base args ds gs before hval0 hW _ hsz0 hL _
  have hsz : (DataW.weightsEach Tryz.prog (Tryz.f6.params.toList ++ Rows.journalWholeSpec.plain.varTypes Tryz.prog) (ds ++ gs)).all (· ≤ reachBytes) = true := hsz0
  clear hsz0
  have hval : ∀ (j : Nat) t v, Tryz.f6.params[j]? = some t → args[j]? = some v → Value.okWide Tryz.prog W .any base t v := hval0
  have hW' := hW
  obtain ⟨p, q, hA0, hV, rfl, hfz, hnd⟩ := hW'
  have hA : DataW.TrodAll enc Tryz.prog W 0 (fun _ => true) true Tryz.f6.params.toList args.toList ds p := hA0
  rw [Tryz.params6] at hA hval hsz
  obtain ⟨v0, v1, v2, v3, v4, v5, d0, d1, d2, d3, d4, d5, p0, p1, p2, p3, p4, p5, rfl, rfl, rfl, h0, h1, h2, h3, h4, h5⟩ := trodAll_six hA
  obtain ⟨rfl, rfl⟩ := trodVars_none hV
  obtain ⟨er, hE⟩ := errs_of_laid hL
  have hg := erT_of_laid hL
  obtain ⟨x0, rfl, rfl, rfl, wx0⟩ := open_int Tryz.underlying3 (hval 0 3 v0 rfl rfl) h0
  obtain ⟨x1, rfl, rfl, rfl, wx1⟩ := open_int Tryz.underlying3 (hval 1 3 v1 rfl rfl) h1
  obtain ⟨x2, rfl, rfl, rfl, wx2⟩ := open_int Tryz.underlying3 (hval 2 3 v2 rfl rfl) h2
  obtain ⟨a3, l3, c3, rfl⟩ := okWide_slice Tryz.underlying78 (hval 3 78 v3 rfl rfl)
  have h3k := h3
  obtain ⟨f3, hf3⟩ := h3
  obtain ⟨_, _, _, B3, hcs3, hr3, hL3⟩ := view_runs hf3 (each_reach hsz (j := 3) rfl rfl)
  simp [Value.cells] at hcs3
  obtain ⟨rfl, rfl, rfl⟩ := hcs3
  obtain ⟨a4, l4, c4, rfl⟩ := okWide_slice Tryz.underlying79 (hval 4 79 v4 rfl rfl)
  have h4k := h4
  obtain ⟨f4, hf4⟩ := h4
  obtain ⟨_, _, _, B4, hcs4, hr4, hL4⟩ := view_falls hf4 (each_reach hsz (j := 4) rfl rfl)
  simp [Value.cells] at hcs4
  obtain ⟨rfl, rfl, rfl⟩ := hcs4
  obtain ⟨a5, l5, c5, rfl⟩ := okWide_slice Tryz.underlying80 (hval 5 80 v5 rfl rfl)
  have h5k := h5
  obtain ⟨f5, hf5⟩ := h5
  obtain ⟨_, _, _, B5, hcs5, hr5, hL5⟩ := view_opens hf5 (each_reach hsz (j := 5) rfl rfl)
  simp [Value.cells] at hcs5
  obtain ⟨rfl, rfl, rfl⟩ := hcs5
  clear hA0 hval0 hval hA
  simp only [List.append_nil] at hW
  have hlt : ∀ x ∈ p3 ++ p4 ++ p5, x.block < W.heap.size := fun x hx => by simpa using hW.lt x hx
  refine (whole_any er W hE hg x0 x1 x2 a3 l3 c3 B3 hr3 hL3 a4 l4 c4 B4 hr4 hL4 a5 l5 c5 B5 hr5 hL5).mono ?_
  rintro e W' ⟨rfl, hb⟩
  refine ⟨_, rfl, _, _, _, [], p3 ++ p4 ++ p5, [], hW, ?_, ?_, rfl, hb.frame _, fun h => by cases h⟩
  · exact trodAll_mk1 (shut_bool Tryz.underlying4 _)
  · have hT := trodAll_mk6 (shut_int Tryz.underlying3 wx0) (shut_int Tryz.underlying3 wx1) (shut_int Tryz.underlying3 wx2) (Below.trod laidOut (by kernel_rfl) (of_decide_eq_true (by kernel_rfl)) h3k hb (fun x hx => hlt x (by simp [hx]))) (Below.trod laidOut (by kernel_rfl) (of_decide_eq_true (by kernel_rfl)) h4k hb (fun x hx => hlt x (by simp [hx]))) (Below.trod laidOut (by kernel_rfl) (of_decide_eq_true (by kernel_rfl)) h5k hb (fun x hx => hlt x (by simp [hx])))
    simp only [List.nil_append] at hT
    rw [List.append_assoc]
    exact hT

theorem journalWhole_holds : Rows.JournalWholeSaid :=
  OpenClaim.holds_of_wide 6 Tryz.f6 rfl rfl rfl rfl rfl rfl rfl ⟨rfl, rfl, rfl, rfl, rfl⟩ rfl rfl rfl rfl rfl (by kernel_rfl) Tryz.func6 (by kernel_rfl)
    (of_decide_eq_true (by kernel_rfl)) (by unfold Func.isWrapper; first | (rw [if_pos (by decide +kernel)]; kernel_rfl) | (rw [if_neg (by decide +kernel)]; exact ⟨rfl, rfl⟩))
    (fun os started H enc _ => whole_lifted os started H enc)

theorem journalWhole_card : Rows.JournalWholeCardSaid :=
  Claim7.holds_tied_plain_at .later [] [.handle, .sentinel, .sentinel, .sentinel, .sentinel, .sentinel] true (true, "cdef72a3f3ec27d99d70980864bf9f4ae1c2d407f83b51fbe52da9ccb781ccbb") true
    journalWhole_holds (fun _ h => by cases h) (by kernel_rfl) (fun _ h => by cases h) journalWhole_row_tie rfl ⟨rfl, rfl⟩ (by kernel_rfl) rfl
    (fun f fn hf hfn => by
      obtain rfl : f = 6 := Option.some.inj ((show Tryz.prog.funcNamed "annex/annexlaw7.JournalWhole" = some 6 by kernel_rfl).symm.trans hf) |>.symm
      obtain rfl : fn = Tryz.f6 := (Option.some.inj (Tryz.func6.symm.trans hfn)).symm
      exact ⟨by kernel_rfl, fun j t ht => by
        rw [Tryz.params6] at ht
        have hm : t ∈ [3, 3, 3, 78, 79, 80] := by simpa using Array.mem_of_getElem? ht
        have hall : ([3, 3, 3, 78, 79, 80].all fun u => !Tryz.prog.wantsStandIn u) = true := by kernel_rfl
        exact (show Tryz.prog.wantsStandIn t = false by simpa using List.all_eq_true.1 hall t hm)⟩)
    (by kernel_rfl)
#print axioms journalWhole_card
end Go.Proofs.YtnmdnglbpkpfdaaGreatDoor
