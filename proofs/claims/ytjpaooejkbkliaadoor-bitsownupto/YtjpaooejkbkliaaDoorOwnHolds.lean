/- Whatever the bytes and the fields, of bulk at most the statement's: annexlaw1.BitsOwn answers true, and its arguments read as before; the package's five error variables hold what the program's text lays. -/
import Derived.Test.YtjpaooejkbkliaaDoorBulk
import Derived.Test.YtjpaooejkbkliaaDoorReaders
import Derived.Test.YtjpaooejkbkliaaDoorOwnZero
import Derived.Deep.DeepHandedRow
import Derived.Deep.DeepWitnessRowRef
namespace Go.Proofs.YtjpaooejkbkliaaDoor
open Go.ChangeShapes Go.WideShapes Go.ChangeAt Go.RowKit Go.Deep
set_option maxRecDepth 100000

theorem bulk_in {H : Type} {d : DataW H} {l : List (DataW H)} (h : d ∈ l) : Rows.uptoBulk d ≤ Rows.uptoBulkAll l := by
  induction l with
  | nil => cases h
  | cons x r ih =>
    simp only [Rows.uptoBulkAll]
    cases List.mem_cons.1 h with
    | inl e => subst e; omega
    | inr e => have := ih e; omega

theorem view_items3 {H : Type} {enc : TypeId × Value → H} {W : World} {fuel : Nat} {a0 : Option Addr} {len cap : Nat} {d : DataW H} {p : List MemPlace}
    (hf : DataW.trod enc Tryd.prog W 0 (fun _ => true) true fuel 45 (Value.slice a0 len cap).cells.toList = some (d, p)) :
    ∃ xs : List Itm, xs.length = len ∧ (0 < len → ∃ b o, a0 = some ⟨b, o, none⟩) ∧
      (∀ b o, a0 = some ⟨b, o, none⟩ → ∀ i (h : i < xs.length) j v, (xs[i]).cells[j]? = some v → W.cell? ⟨b, o + i * 4 + j, none⟩ = some v) ∧ (∀ x ∈ xs, Came W x) ∧ total xs ≤ 8 * Rows.uptoBulk d ∧ ∀ x ∈ xs, x.dl + 1 ≤ Rows.uptoBulk d := by
  rcases open_slice Tryd.underlying45 hf with ⟨hcs, hx⟩ | ⟨a, len', cap', m, n, D, Pl, hcs, _, hl, hm, hmm, hx, hel⟩
  · simp [Value.cells] at hcs
    obtain ⟨rfl, rfl, rfl⟩ := hcs
    exact ⟨[], rfl, fun h => absurd h (by omega), (fun b o h => by cases h), (fun x hx => by cases hx), by simp [total], (fun x hx => by cases hx)⟩
  · simp [Value.cells] at hcs
    obtain ⟨rfl, rfl, rfl⟩ := hcs
    simp only [if_true] at hmm
    subst hmm
    rw [cells32] at hel
    have hinh : Inhabited Itm := ⟨⟨0, 0, 0, none, 0, 0, []⟩⟩
    obtain ⟨X, hX⟩ := choose_lt (α := Itm) (p := fun i x => (∀ j v, x.cells[j]? = some v → W.cell? ((a.add (i * 4)).add j) = some v) ∧ Came W x ∧ x.dl + 1 ≤ Rows.uptoBulk (D i)) (n := len) (fun i hi => by
      obtain ⟨cs', h1, h2⟩ := hel i (by omega)
      exact item_of2 h1 h2)
    simp only [Prod.mk.injEq] at hx
    refine ⟨(List.range len).map X, by simp, fun h0 => ?_, fun b o hbo i hi j v hv => ?_, fun x hx => ?_, ?_, fun x hxm => ?_⟩
    · obtain ⟨b, o, spot⟩ := a
      have h := (hX 0 h0).1 0 _ rfl
      have hspot : spot = none := by simpa [Addr.add] using World.cell?_spot h
      subst hspot
      exact ⟨b, o, rfl⟩
    · obtain rfl := Option.some.inj hbo
      simp at hi hv
      have := (hX i hi).1 j v hv
      rwa [Addr.add_lit, Addr.add_lit] at this
    · obtain ⟨i, hi, rfl⟩ := List.mem_map.1 hx
      exact (hX i (by simpa using hi)).2.1
    · rw [hx.1]
      have h1 := fun sp => bulk_slice (H := H) ((List.range len).map D) sp
      have h2 := total_bulk ((List.range len).map X) ((List.range len).map D) (by simp) (fun i h1 h2 => by
        simp at h1
        simpa using (hX i h1).2.2)
      exact Nat.le_trans h2 (Nat.mul_le_mul_left 8 (Nat.le_of_succ_le (h1 _)))
    · obtain ⟨i, hi, rfl⟩ := List.mem_map.1 hxm
      have hi' : i < len := by simpa using hi
      have h1 := (hX i hi').2.2
      have h2 : Rows.uptoBulk (D i) ≤ Rows.uptoBulkAll ((List.range len).map D) := bulk_in (List.mem_map.2 ⟨i, hi, rfl⟩)
      rw [hx.1]
      have h3 := fun sp => bulk_slice (H := H) ((List.range len).map D) sp
      exact Nat.le_trans h1 (Nat.le_trans h2 (Nat.le_of_succ_le (h3 _)))

theorem reads8 (os : Os) {H : Type} (enc : TypeId × Value → H) : ∃ places, DataW.whole enc Tryd.prog ((World.doorLaid Tryd.prog 400 os).forCall (fun _ _ => 0) ⟨#[], #[.slice none 0 0, .slice none 0 0], []⟩).memory Tryd.f8.params.toList Rows.bitsOwnSpec.vars false #[Value.slice none 0 0, Value.slice none 0 0].toList 8 = some ([.nil, .nil], [], places) :=
  ⟨[], by kernel_rfl⟩

theorem own_lifted (os : Os) (started : os.Started) (H : Type) (enc : TypeId × Value → H) (F : Stop.Interp) :
    ReturnsInHanded {} Tryd.checked os 8 .any ((Rows.OpenSpec.upto Rows.bitsOwnSpec).preRow enc Tryd.prog Tryd.f8 Rows.bitsOwnUptoRow.domain false Rows.bitsOwnUptoRow.laid) (((Rows.OpenSpec.upto Rows.bitsOwnSpec).at F).post enc Tryd.prog Tryd.f8 false true false false) := by
  obtain ⟨places, hx⟩ := reads8 os enc
  refine returnsInHanded_of_row (C := Tryd.checked) (s := Rows.OpenSpec.upto Rows.bitsOwnSpec) own started (by kernel_rfl) Tryd.func8
    (witness_row_atRef (enc := enc) (C := Tryd.checked) false (World.doorLaid Tryd.prog 400 os) #[.slice none 0 0, .slice none 0 0] rfl (by kernel_rfl) (by kernel_rfl) (by kernel_rfl)
      (OpenSpec.preRow_of_cond 8 hx (by kernel_rfl) (fun k hk => by cases hk; kernel_rfl) (by kernel_rfl) (door_met os _))) ?_
  intro W base args ds gs before hval0 hW _ hcond _ hL _ _
  have hk := hcond _ rfl
  clear hcond
  have hval : ∀ (j : Nat) t v, Tryd.f8.params[j]? = some t → args[j]? = some v → Value.okWide Tryd.prog W .any base t v := hval0
  have hW' := hW
  obtain ⟨p, q, hA0, hV, rfl, hfz, hnd⟩ := hW
  have hA : DataW.TrodAll enc Tryd.prog W 0 (fun _ => true) true Tryd.f8.params.toList args.toList ds p := hA0
  rw [Tryd.params8] at hA hval
  obtain ⟨v0, v1, d0, d1, p0, p1, rfl, rfl, rfl, h0, h1⟩ := trodAll_two hA
  obtain ⟨rfl, rfl⟩ := trodVars_none hV
  obtain ⟨a0, la, ca, rfl⟩ := okWide_slice Tryd.underlying24 (hval 0 24 v0 rfl rfl)
  obtain ⟨a1, lb, cb, rfl⟩ := okWide_slice Tryd.underlying45 (hval 1 45 v1 rfl rfl)
  obtain ⟨er, hE⟩ := errs_of_laid hL
  have h0k := h0
  have h1k := h1
  obtain ⟨fa, hfa⟩ := h0
  obtain ⟨fb, hfb⟩ := h1
  clear hA0 hval0
  simp only [List.append_nil] at hW'
  have hlt : ∀ x ∈ p0 ++ p1, x.block < W.heap.size := fun x hx => by simpa using hW'.lt x hx
  have hbk : Rows.uptoBulk d0 + Rows.uptoBulk d1 ≤ 1048576 := by
    have h := of_decide_eq_true hk
    simp only [List.append_nil, Rows.uptoBulkAll] at h
    omega
  obtain ⟨b0, l0, c0, B, hcs, hLB, hsB, hBb⟩ := bytes_of2 (cs := (Value.slice a0 la ca).cells.toList) hfa
  simp [Value.cells] at hcs
  obtain ⟨rfl, rfl, rfl⟩ := hcs
  obtain ⟨xs, hxl, hxs, hxc, hxcame, htb, hxd⟩ := view_items3 hfb
  simp only at hBb
  have hcall : Calls Tryd.prog 8 #[.slice a0 la ca, .slice a1 lb cb] W fun e w' => e = .returned (.bool true) ∧ Below W.heap.size W w' := by
    by_cases hp : 0 < lb
    · obtain ⟨ib, io, rfl⟩ := hxs hp
      have hlt8 := len_total xs
      exact own_pos a0 la ca B ib io lb cb xs er W hE hLB hxl (fun i h j v hv => hxc ib io rfl i (by omega) j v hv) hxcame (by omega)
        (readers_pos ib io lb cb xs er W hE hxl hp (by omega) (fun i h j v hv => hxc ib io rfl i (by omega) j v hv) hxcame (fun x hx => by have := hxd x hx; omega))
    · obtain rfl : lb = 0 := by omega
      exact own_zero a0 la ca a1 cb er W hE
  refine hcall.mono ?_
  rintro e W' ⟨rfl, hb⟩
  refine ⟨_, rfl, _, _, _, [], p0 ++ p1, [], hW', ?_, ?_, rfl, hb.frame _, fun h => by cases h⟩
  · exact trodAll_mk1 (shut_bool Tryd.underlying4 _)
  · exact trodAll_mk2 (Below.trod laidOut (by kernel_rfl) (of_decide_eq_true (by kernel_rfl)) h0k hb (fun x hx => hlt x (List.mem_append_left _ hx))) (Below.trod laidOut (by kernel_rfl) (of_decide_eq_true (by kernel_rfl)) h1k hb (fun x hx => hlt x (List.mem_append_right _ hx)))

theorem bitsOwnUpto_holds : Rows.BitsOwnUptoSaid :=
  OpenClaim.holds_of_cond 8 Tryd.f8 rfl rfl rfl rfl rfl rfl rfl ⟨rfl, rfl, rfl, rfl, rfl⟩ rfl rfl rfl rfl rfl (by kernel_rfl) Tryd.func8 (by kernel_rfl)
    (of_decide_eq_true (by kernel_rfl)) (by unfold Func.isWrapper; first | (rw [if_pos (by decide +kernel)]; kernel_rfl) | (rw [if_neg (by decide +kernel)]; exact ⟨rfl, rfl⟩))
    (fun os started H enc _ F => by rw [OpenClaim.pre_eq_preRow]; exact own_lifted os started H enc F)

theorem bitsOwnUpto_card : Rows.BitsOwnUptoCardSaid :=
  Claim7.holds_tied_plain_at .later [] [.sentinel, .sentinel, .sentinel, .sentinel, .sentinel] true (true, "76035a17c8d7a8d169b67c2daed34137e4cc5a225582007a3a4cfb68c66a9b09") true
    bitsOwnUpto_holds (fun _ h => by cases h) (by kernel_rfl) (fun _ h => by cases h) bitsOwnUpto_row_tie rfl ⟨rfl, rfl⟩ (by kernel_rfl) rfl
    (fun f fn hf hfn => by
      obtain rfl : f = 8 := Option.some.inj ((show Tryd.prog.funcNamed "annex/annexlaw1.BitsOwn" = some 8 by kernel_rfl).symm.trans hf) |>.symm
      obtain rfl : fn = Tryd.f8 := (Option.some.inj (Tryd.func8.symm.trans hfn)).symm
      exact ⟨by kernel_rfl, fun j t ht => by
        rw [Tryd.params8] at ht
        have hm : t ∈ [24, 45] := by simpa using Array.mem_of_getElem? ht
        have hall : ([24, 45].all fun u => !Tryd.prog.wantsStandIn u) = true := by kernel_rfl
        exact (show Tryd.prog.wantsStandIn t = false by simpa using List.all_eq_true.1 hall t hm)⟩)
    (by kernel_rfl)
#print axioms bitsOwnUpto_card
end Go.Proofs.YtjpaooejkbkliaaDoor
