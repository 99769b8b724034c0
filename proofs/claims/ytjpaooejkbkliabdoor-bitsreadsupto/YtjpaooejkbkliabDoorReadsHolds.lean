/- Whatever the bytes and the calls, of bulk at most the statement's: annexlaw1.BitsReads answers true, and its arguments read as before; the package's five error variables hold what the program's text lays. -/
import Derived.Test.YtjpaooejkbkliabDoorView
import Derived.Test.YtjpaooejkbkliabDoorReads
import Derived.Deep.Slices
import Derived.Deep.DeepHandedRow
import Derived.Deep.DeepWitnessRowRef
namespace Go.Proofs.YtjpaooejkbkliabDoor
open Go.ChangeShapes Go.WideShapes Go.ChangeAt Go.RowKit Go.Deep
set_option maxRecDepth 100000

theorem cells37 : Tryd.prog.cellsOf 37 = 3 := by kernel_rfl
theorem cells4 : Tryd.prog.cellsOf 4 = 1 := by kernel_rfl

theorem bulk_one {H : Type} (d : DataW H) : 1 ≤ Rows.uptoBulk d := by
  cases d with
  | lit l => cases l <;> simp [Rows.uptoBulk]
  | nil => simp [Rows.uptoBulk]
  | ptr d => simp [Rows.uptoBulk]
  | slice elems spare => simp [Rows.uptoBulk]
  | agg parts => simp [Rows.uptoBulk]
  | iface t d => simp [Rows.uptoBulk]
  | map entries => simp [Rows.uptoBulk]
  | held h => simp [Rows.uptoBulk]
theorem bulk_length {H : Type} (l : List (DataW H)) : l.length ≤ Rows.uptoBulkAll l := by
  induction l with
  | nil => simp
  | cons x r ih => have := bulk_one x; simp only [Rows.uptoBulkAll, List.length_cons]; omega
theorem bulk_slice {H : Type} (el sp : List (DataW H)) : Rows.uptoBulkAll el + 1 ≤ Rows.uptoBulk (.slice el sp) := by
  simp only [Rows.uptoBulk]; omega
theorem bulk_four {H : Type} (l : List (DataW H)) (h : ∀ d ∈ l, 4 ≤ Rows.uptoBulk d) : 4 * l.length ≤ Rows.uptoBulkAll l := by
  induction l with
  | nil => simp
  | cons x r ih =>
    have h1 := h x (by simp)
    have h2 := ih (fun d hd => h d (by simp [hd]))
    simp only [Rows.uptoBulkAll, List.length_cons]
    omega

theorem bytes_of2 {H : Type} {enc : TypeId × Value → H} {W : World} {fuel : Nat} {a0 : Option Addr} {len cap : Nat} {d : DataW H} {p : List MemPlace}
    (hf : DataW.trod enc Tryd.prog W 0 (fun _ => true) true fuel 22 (Value.slice a0 len cap).cells.toList = some (d, p)) :
    ∃ Z, Lies W a0 len cap Z ∧ (∀ x ∈ Z, 0 ≤ x ∧ x ≤ 255) ∧ len + 1 ≤ Rows.uptoBulk d := by
  obtain ⟨Z, h1, h2, h3⟩ := view_bytes hf
  refine ⟨Z, h1, h2, ?_⟩
  rcases h3 with h | ⟨sp, h⟩
  · have := bulk_one d
    omega
  · subst h
    have e1 := bulk_slice (H := H) (lits .u8 Z) sp
    have e2 := bulk_length (H := H) (lits .u8 Z)
    have e3 : (lits (H := H) .u8 Z).length = len := by simp [lits, h1.hlen]
    omega

theorem op_of {H : Type} {enc : TypeId × Value → H} {W : World} {fuel : Nat} {cs : List Value} {y : DataW H × List MemPlace} {a : Addr}
    (hc : W.cells? 0 a 3 = some cs) (hf : DataW.trod enc Tryd.prog W 0 (fun _ => true) true fuel 37 cs = some y) :
    ∃ x : Op, W.cell? (a.add 0) = some (.int .i64 x.K) ∧ W.cell? (a.add 1) = some (.bool x.sec) ∧ W.cell? (a.add 2) = some (.int .i64 x.M) ∧ x.M ≤ 9223372036854775807 ∧ 4 ≤ Rows.uptoBulk y.1 := by
  obtain ⟨xs, n, _, hy, hl, hn, hfs⟩ := DataW.trod_struct Tryd.underlying37 hf
  rw [cells37] at hl
  obtain ⟨_, hlen, hcell⟩ := World.cells?_some hc
  match cs, hl with
  | [c0, c1, c2], _ =>
    match xs, hn with
    | [y0, y1, y2], _ =>
      have f0 : DataW.trod enc Tryd.prog W 0 (fun _ => true) true n 3 (([c0, c1, c2].drop 0).take (Tryd.prog.cellsOf 3)) = some y0 := hfs 0 _ rfl
      have f1 : DataW.trod enc Tryd.prog W 0 (fun _ => true) true n 4 (([c0, c1, c2].drop 1).take (Tryd.prog.cellsOf 4)) = some y1 := hfs 1 _ rfl
      have f2 : DataW.trod enc Tryd.prog W 0 (fun _ => true) true n 3 (([c0, c1, c2].drop 2).take (Tryd.prog.cellsOf 3)) = some y2 := hfs 2 _ rfl
      rw [cells3] at f0 f2
      rw [cells4] at f1
      obtain ⟨K, e0, _, _⟩ := DataW.trod_int Tryd.underlying3 f0
      obtain ⟨s, e1, _⟩ := DataW.trod_bool Tryd.underlying4 f1
      obtain ⟨M, e2, _, wM⟩ := DataW.trod_int Tryd.underlying3 f2
      simp at e0 e1 e2
      subst e0 e1 e2
      have hM := bounds_i64 wM
      refine ⟨⟨K, s, M⟩, hcell 0 (by omega), hcell 1 (by omega), hcell 2 (by omega), hM.2, ?_⟩
      rw [hy]
      have b0 := bulk_one y0.1
      have b1 := bulk_one y1.1
      have b2 := bulk_one y2.1
      simp [Rows.uptoBulk, Rows.uptoBulkAll]
      omega

theorem view_ops {H : Type} {enc : TypeId × Value → H} {W : World} {fuel : Nat} {a0 : Option Addr} {len cap : Nat} {d : DataW H} {p : List MemPlace}
    (hf : DataW.trod enc Tryd.prog W 0 (fun _ => true) true fuel 23 (Value.slice a0 len cap).cells.toList = some (d, p)) :
    ∃ xs : List Op, xs.length = len ∧ (∀ i (h : i < xs.length), ∃ b o, a0 = some ⟨b, o, none⟩ ∧ W.cell? ⟨b, o + i * 3, none⟩ = some (.int .i64 xs[i].K) ∧ W.cell? ⟨b, o + i * 3 + 1, none⟩ = some (.bool xs[i].sec) ∧ W.cell? ⟨b, o + i * 3 + 2, none⟩ = some (.int .i64 xs[i].M)) ∧ (∀ x ∈ xs, x.M ≤ 9223372036854775807) ∧ 4 * len ≤ Rows.uptoBulk d := by
  rcases open_slice Tryd.underlying23 hf with ⟨hcs, hx⟩ | ⟨a, len', cap', m, n, D, Pl, hcs, _, hl, hm, hmm, hx, hel⟩
  · simp [Value.cells] at hcs
    obtain ⟨rfl, rfl, rfl⟩ := hcs
    exact ⟨[], rfl, (fun i h => by simp at h), (fun x hx => by cases hx), by omega⟩
  · simp [Value.cells] at hcs
    obtain ⟨rfl, rfl, rfl⟩ := hcs
    simp only [if_true] at hmm
    subst hmm
    rw [cells37] at hel
    have hinh : Inhabited Op := ⟨⟨0, false, 0⟩⟩
    obtain ⟨X, hX⟩ := choose_lt (α := Op) (p := fun i x => W.cell? ((a.add (i * 3)).add 0) = some (.int .i64 x.K) ∧ W.cell? ((a.add (i * 3)).add 1) = some (.bool x.sec) ∧ W.cell? ((a.add (i * 3)).add 2) = some (.int .i64 x.M) ∧ x.M ≤ 9223372036854775807 ∧ 4 ≤ Rows.uptoBulk (D i)) (n := len) (fun i hi => by
      obtain ⟨cs', h1, h2⟩ := hel i (by omega)
      exact op_of h1 h2)
    simp only [Prod.mk.injEq] at hx
    refine ⟨(List.range len).map X, by simp, fun i hi => ?_, fun x hx => ?_, ?_⟩
    · have hi' : i < len := by simpa using hi
      obtain ⟨b, o, spot⟩ := a
      obtain ⟨k0, k1, k2, _⟩ := hX i hi'
      have hspot : spot = none := by simpa [Addr.add] using World.cell?_spot (hX 0 (by omega)).1
      subst hspot
      refine ⟨b, o, rfl, ?_, ?_, ?_⟩
      · simpa [Addr.add_lit] using k0
      · simpa [Addr.add_lit] using k1
      · simpa [Addr.add_lit] using k2
    · obtain ⟨i, hi, rfl⟩ := List.mem_map.1 hx
      exact (hX i (by simpa using hi)).2.2.2.1
    · rw [hx.1]
      have h1 := fun sp => bulk_slice (H := H) ((List.range len).map D) sp
      have h2 := bulk_four ((List.range len).map D) (fun d hd => by
        obtain ⟨i, hi, rfl⟩ := List.mem_map.1 hd
        exact (hX i (by simpa using hi)).2.2.2.2)
      simp only [List.length_map, List.length_range] at h2
      exact Nat.le_trans h2 (Nat.le_of_succ_le (h1 _))

theorem reads3 (os : Os) {H : Type} (enc : TypeId × Value → H) : ∃ places, DataW.whole enc Tryd.prog ((World.doorLaid Tryd.prog 400 os).forCall (fun _ _ => 0) ⟨#[], #[.slice none 0 0, .slice none 0 0, .slice none 0 0], []⟩).memory Tryd.f3.params.toList Rows.bitsReadsSpec.vars false #[Value.slice none 0 0, Value.slice none 0 0, Value.slice none 0 0].toList 8 = some ([.nil, .nil, .nil], [], places) :=
  ⟨[], by kernel_rfl⟩

theorem reads_lifted (os : Os) (started : os.Started) (H : Type) (enc : TypeId × Value → H) (F : Stop.Interp) :
    ReturnsInHanded {} Tryd.checked os 3 .any ((Rows.OpenSpec.upto Rows.bitsReadsSpec).preRow enc Tryd.prog Tryd.f3 Rows.bitsReadsUptoRow.domain false Rows.bitsReadsUptoRow.laid) (((Rows.OpenSpec.upto Rows.bitsReadsSpec).at F).post enc Tryd.prog Tryd.f3 false true false false) := by
  obtain ⟨places, hx⟩ := reads3 os enc
  refine returnsInHanded_of_row (C := Tryd.checked) (s := Rows.OpenSpec.upto Rows.bitsReadsSpec) own started (by kernel_rfl) Tryd.func3
    (witness_row_atRef (enc := enc) (C := Tryd.checked) false (World.doorLaid Tryd.prog 400 os) #[.slice none 0 0, .slice none 0 0, .slice none 0 0] rfl (by kernel_rfl) (by kernel_rfl) (by kernel_rfl)
      (OpenSpec.preRow_of_cond 8 hx (by kernel_rfl) (fun k hk => by cases hk; kernel_rfl) (by kernel_rfl) (door_met os _))) ?_
  intro W base args ds gs before hval0 hW _ hcond _ hL _ _
  have hk := hcond _ rfl
  clear hcond
  have hval : ∀ (j : Nat) t v, Tryd.f3.params[j]? = some t → args[j]? = some v → Value.okWide Tryd.prog W .any base t v := hval0
  have hW' := hW
  obtain ⟨p, q, hA0, hV, rfl, hfz, hnd⟩ := hW
  have hA : DataW.TrodAll enc Tryd.prog W 0 (fun _ => true) true Tryd.f3.params.toList args.toList ds p := hA0
  rw [Tryd.params3] at hA hval
  obtain ⟨v0, v1, v2, d0, d1, d2, p0, p1, p2, rfl, rfl, rfl, h0, h1, h2⟩ := trodAll_three hA
  obtain ⟨rfl, rfl⟩ := trodVars_none hV
  obtain ⟨a0, la, ca, rfl⟩ := okWide_slice Tryd.underlying22 (hval 0 22 v0 rfl rfl)
  obtain ⟨a1, lb, cb, rfl⟩ := okWide_slice Tryd.underlying22 (hval 1 22 v1 rfl rfl)
  obtain ⟨a2, lo, co, rfl⟩ := okWide_slice Tryd.underlying23 (hval 2 23 v2 rfl rfl)
  obtain ⟨er, hE⟩ := errs_of_laid hL
  have h0k := h0
  have h1k := h1
  have h2k := h2
  obtain ⟨fa, hfa⟩ := h0
  obtain ⟨fb, hfb⟩ := h1
  obtain ⟨fc, hfc⟩ := h2
  clear hA0 hval0
  simp only [List.append_nil] at hW'
  have hbk : Rows.uptoBulk d0 + (Rows.uptoBulk d1 + Rows.uptoBulk d2) ≤ 1048576 := by
    have h := of_decide_eq_true hk
    simp only [List.append_nil, Rows.uptoBulkAll] at h
    omega
  obtain ⟨A, hLA, hsA, hbA⟩ := bytes_of2 hfa
  obtain ⟨B, hLB, hsB, hbB⟩ := bytes_of2 hfb
  obtain ⟨xs, hxl, hxc, hxM, hxb⟩ := view_ops hfc
  refine (reads_any a0 la ca A a1 lb cb B a2 lo co xs er W hE hLA hLB hsA hsB (by omega) (by omega) hxl (by omega) hxc hxM).mono ?_
  rintro e W' ⟨rfl, hb⟩
  have hlt : ∀ x ∈ p0 ++ (p1 ++ p2), x.block < W.heap.size := fun x hx => by simpa using hW'.lt x (by simpa using hx)
  refine ⟨_, rfl, _, _, _, [], p0 ++ (p1 ++ p2), [], hW', ?_, ?_, rfl, hb.frame _, fun h => by cases h⟩
  · exact trodAll_mk1 (shut_bool Tryd.underlying4 _)
  · exact trodAll_mk3 (Below.trod laidOut (by kernel_rfl) (of_decide_eq_true (by kernel_rfl)) h0k hb (fun x hx => hlt x (List.mem_append_left _ hx))) (Below.trod laidOut (by kernel_rfl) (of_decide_eq_true (by kernel_rfl)) h1k hb (fun x hx => hlt x (List.mem_append_right _ (List.mem_append_left _ hx)))) (Below.trod laidOut (by kernel_rfl) (of_decide_eq_true (by kernel_rfl)) h2k hb (fun x hx => hlt x (List.mem_append_right _ (List.mem_append_right _ hx))))

theorem bitsReadsUpto_holds : Rows.BitsReadsUptoSaid :=
  OpenClaim.holds_of_cond 3 Tryd.f3 rfl rfl rfl rfl rfl rfl rfl ⟨rfl, rfl, rfl, rfl, rfl⟩ rfl rfl rfl rfl rfl (by kernel_rfl) Tryd.func3 (by kernel_rfl)
    (of_decide_eq_true (by kernel_rfl)) (by unfold Func.isWrapper; first | (rw [if_pos (by decide +kernel)]; kernel_rfl) | (rw [if_neg (by decide +kernel)]; exact ⟨rfl, rfl⟩))
    (fun os started H enc _ F => by rw [OpenClaim.pre_eq_preRow]; exact reads_lifted os started H enc F)

theorem bitsReadsUpto_card : Rows.BitsReadsUptoCardSaid :=
  Claim7.holds_tied_plain_at .later [] [.sentinel, .sentinel, .sentinel, .sentinel, .sentinel] true (true, "67564217b7030da1896a76e6b447c5eafd011838178db22a7546c6536de05734") true
    bitsReadsUpto_holds (fun _ h => by cases h) (by kernel_rfl) (fun _ h => by cases h) bitsReadsUpto_row_tie rfl ⟨rfl, rfl⟩ (by kernel_rfl) rfl
    (fun f fn hf hfn => by
      obtain rfl : f = 3 := Option.some.inj ((show Tryd.prog.funcNamed "annex/annexlaw1.BitsReads" = some 3 by kernel_rfl).symm.trans hf) |>.symm
      obtain rfl : fn = Tryd.f3 := (Option.some.inj (Tryd.func3.symm.trans hfn)).symm
      exact ⟨by kernel_rfl, fun j t ht => by
        rw [Tryd.params3] at ht
        have hm : t ∈ [22, 22, 23] := by simpa using Array.mem_of_getElem? ht
        have hall : ([22, 22, 23].all fun u => !Tryd.prog.wantsStandIn u) = true := by kernel_rfl
        exact (show Tryd.prog.wantsStandIn t = false by simpa using List.all_eq_true.1 hall t hm)⟩)
    (by kernel_rfl)
#print axioms bitsReadsUpto_card
end Go.Proofs.YtjpaooejkbkliabDoor
