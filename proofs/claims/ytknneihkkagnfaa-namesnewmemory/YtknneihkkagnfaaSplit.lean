/- names.Split: what the document says of every text; the list is new memory. -/
import Derived.Test.YtknneihkkagnfaaParts
import Derived.Test.YtknneihkkagnfaaPath
namespace Go.Proofs.Ytknneihkkagnfaa
open Go.RowKit Go.Shelf
set_option maxRecDepth 100000

attribute [local go_sem] Oper.semAt_some

/-- What Split leaves. -/
def SplitR (w : World) (p : ByteArray) (e : Ending) (w' : World) : Prop :=
  ∃ ao n c, e = .returned (.tuple #[.slice ao n c, .int .i64 (splitE (bs p))]) ∧ w'.ownsRow w.heap.size 9 1 (.slice ao n c) n (((splitL (bs p)).map tx).map Value.string) ∧ Below w.heap.size w w'

theorem allN_cuts (l : List UInt8) (h : (cuts l).length ≤ 16) : allN (cutsB l) = judge (cuts l) := by
  unfold allN judge cutsB
  rw [if_neg (show ¬ 16 < (cuts l).length by omega), List.all_map]
  have : ((fun s => okName (bs s)) ∘ tx) = okName := by funext x; simp
  rw [this]
theorem cutsB_len (l : List UInt8) : (cutsB l).length = (cuts l).length := by simp [cutsB]
theorem cutsB_small {l : List UInt8} (h : judge (cuts l) = 0) (x : ByteArray) (hx : x ∈ cutsB l) : x.size ≤ 23 := by
  obtain ⟨y, hy, rfl⟩ := List.mem_map.1 hx
  rw [size_bs, bs_tx]
  exact (okName_len ((judge_zero.1 h).2 y hy)).2
theorem deep_cuts {l : List UInt8} {pre : List ByteArray} (h : pre <+: cutsB l) (hl : pre.length = 17) : judge (cuts l) = 33 := by
  have := h.length_le
  rw [cutsB_len] at this
  unfold judge
  rw [if_pos (by omega)]
theorem splitE_path {p : ByteArray} (hp : (bs p).head? = some 47) (hr : ¬ p.toList = [47]) : splitE (bs p) = judge (cuts (bs p).tail) := by
  rw [ByteArray.toList_eq] at hr
  unfold splitE
  rw [if_pos hp, if_neg hr]
theorem splitL_path {p : ByteArray} (hp : (bs p).head? = some 47) (hr : ¬ p.toList = [47]) (h : judge (cuts (bs p).tail) = 0) : splitL (bs p) = cuts (bs p).tail := by
  have hE := splitE_path hp hr
  rw [ByteArray.toList_eq] at hr
  unfold splitL
  rw [if_pos ⟨hE.trans h, hr⟩]

theorem split_results {tmps : Array Value} {w : World} {B : Nat} {v : Value} {k : Int} (h2 : tmps[2]? = some (.pointer (some ⟨B, 0, none⟩))) (h3 : tmps[3]? = some (.pointer (some ⟨B + 1, 0, none⟩))) (hv : ∃ ao n c, v = .slice ao n c) (b0 : Boxed w B 22 v) (b1 : Boxed w (B + 1) 24 (.int .i64 k)) : (results Try.f13 tmps).run Try.prog w = .ok (.tuple #[v, .int .i64 k]) w := by
  obtain ⟨ao, n, c, rfl⟩ := hv
  have c0 := b0.cell
  have c1 := b1.cell
  simp [results, Try.f13, go_sem, h2, h3, c0, c1]

set_option maxHeartbeats 2000000 in
theorem split_in (n : Nat) (hn : 3 ≤ n) (p : ByteArray) (w : World) (hs : p.size ≤ 281474976710656) :
    CallsIn Fence.wide n Try.prog 13 #[.string p] w fun e w' => SplitR w p e w' := by
  have h1 : 1 ≤ n := by omega
  obtain ⟨i0, hi, hz0, hz1, hz2⟩ := info_parts Try.info9
  refine callsIn_of_wp_marks Try.func13 rfl trivial ?_ rfl
  simp only [Try.ntmps13, List.size_toArray, List.length_cons, List.length_nil, Nat.reduceAdd, Nat.reduceSub, Array.replicate_succ, Array.replicate_zero, List.push_toArray, List.append_toArray, List.nil_append, List.cons_append]
  have b00 := Boxed.new w 22 (.slice none 0 0)
  have hb00 : ∀ k, Below w.heap.size w ((w.alloc (.cells #[.slice none 0 0] 22)).alloc (.cells #[.int .i64 k] 24)) := fun k => ((Below.refl _ w).alloc (Nat.le_refl _) _).alloc (by simp) _
  have b01 : ∀ k, Boxed ((w.alloc (.cells #[.slice none 0 0] 22)).alloc (.cells #[.int .i64 k] 24)) (w.heap.size + 1) 24 (.int .i64 k) := fun k => by
    have := Boxed.new (w.alloc (.cells #[.slice none 0 0] 22)) 24 (.int .i64 k)
    rwa [World.size_alloc] at this
  by_cases hp : (bs p).head? = some 47
  · have hd : decide ((bs p).head? = some 47) = true := by simpa using hp
    by_cases hr : p.toList = [47]
    · have hr' : (p.toList == [47]) = true := by simpa using hr
      gi_wp2_with (refine ⟨trivial, ?_⟩; gi_at_call 24; refine (callsIn_wide.2 (has_any _ _)).mono ?_; rintro e w' ⟨rfl, rfl⟩; rw [hd])
      rw [ByteArray.toList_eq] at hr
      have e1 : splitE (bs p) = 0 := by rw [show bs p = [47] from hr]; decide
      have e2 : splitL (bs p) = [] := by rw [show bs p = [47] from hr]; decide
      refine ⟨_, split_results rfl rfl ⟨none, 0, 0, rfl⟩ (b00.alloc _) (b01 0), none, 0, 0, by rw [e1], by rw [e2]; exact World.ownsRow_nil _ _ _ _, hb00 0⟩
    · have hr' : (p.toList == [47]) = false := by simpa using hr
      gi_wp2_with (refine ⟨trivial, ?_⟩; first | (gi_at_call 24; refine (callsIn_wide.2 (has_any _ _)).mono ?_; rintro e w' ⟨rfl, rfl⟩; rw [hd]) | (gi_at_call 25; refine (parts_in _ _ _).mono ?_; rintro e w' ⟨rfl, rfl⟩))
      obtain ⟨W0, hW0⟩ : ∃ W0, ((((w.alloc (.cells #[.slice none 0 0] 22)).alloc (.cells #[.int .i64 0] 24)).alloc (.cells #[.slice none 0 0] 22)).alloc (.cells #[.string p] 9)) = W0 := ⟨_, rfl⟩
      have hsz : W0.heap.size = w.heap.size + 4 := by rw [← hW0]; simp
      have bR : Boxed W0 w.heap.size 22 (.slice none 0 0) := by rw [← hW0]; exact ((b00.alloc _).alloc _).alloc _
      have bE : Boxed W0 (w.heap.size + 1) 24 (.int .i64 0) := by rw [← hW0]; exact ((b01 0).alloc _).alloc _
      have bL : Boxed W0 (w.heap.size + 1 + 1) 22 (.slice none 0 0) := by
        rw [← hW0]
        have := Boxed.new ((w.alloc (.cells #[.slice none 0 0] 22)).alloc (.cells #[.int .i64 0] 24)) 22 (.slice none 0 0)
        simp only [World.size_alloc] at this
        exact this.alloc _
      have bP : Boxed W0 (w.heap.size + 1 + 1 + 1) 9 (.string p) := by
        rw [← hW0]
        have := Boxed.new (((w.alloc (.cells #[.slice none 0 0] 22)).alloc (.cells #[.int .i64 0] 24)).alloc (.cells #[.slice none 0 0] 22)) 9 (.string p)
        simpa only [World.size_alloc] using this
      have hB0 : Below w.heap.size w W0 := by rw [← hW0]; exact ((hb00 0).alloc (by simp; omega) _).alloc (by simp; omega) _
      rw [hW0]
      clear hW0 b00 hb00 b01
      refine wpIn_rangeFunc_ownG rfl h1 (gf := 30) (lb := #[.pointer (some ⟨w.heap.size + 1 + 1 + 1, 0, none⟩)]) rfl trivial (enters_of Try.func30 (by kernel_rfl) rfl)
        (parts_stops (n - 1) (by omega) (w.heap.size + 1 + 1 + 1) (w.heap.size + 1 + 1) p W0 bP.lt bP.cell hs hp) belowK_t (belowK_b (by omega)) (Below.refl _ _) (fun _ => rfl)
        (fun pre W => (∃ v, Boxed W (w.heap.size + 1 + 1) 22 v ∧ W.ownsRow (w.heap.size + 1 + 1) 9 1 v pre.length (pre.map Value.string) ∧ pre.length ≤ 16) ∧ Below (w.heap.size + 1 + 1) W0 W)
        (fun c pre W => ((c = .ret ∧ pre.length = 17) ∧ (Boxed W w.heap.size 22 (.slice none 0 0) ∧ Boxed W (w.heap.size + 1) 24 (.int .i64 33))) ∧ Below w.heap.size w W)
        (OwnFrom.and (Own.from (holdsRow_own (w.heap.size + 1 + 1) (w.heap.size + 1 + 1) 22 9 1 (fun pre : List ByteArray => pre.length) (fun pre => pre.map Value.string) (fun pre _ => pre.length ≤ 16)) _) (ownFrom_below (by omega) (by omega)))
        (fun c => OwnFrom.and (OwnFrom.and (ownFrom_pure _ (fun pre : List ByteArray => c = .ret ∧ pre.length = 17)) (OwnFrom.and (Own.from (boxed_own w.heap.size 22 (fun _ => .slice none 0 0)) _) (Own.from (boxed_own (w.heap.size + 1) 24 (fun _ => .int .i64 33)) _))) (ownFrom_below (Nat.le_refl _) (by omega)))
        ⟨⟨_, bL, World.ownsRow_nil _ _ _ _, by simp⟩, Below.refl _ _⟩
        (fun x => { tmps := #[.string p, undef, .pointer (some ⟨w.heap.size, 0, none⟩), .pointer (some ⟨w.heap.size + 1, 0, none⟩), .pointer (some ⟨w.heap.size + 1 + 1, 0, none⟩), .string x, undef, .string p, .bool true, .bool false, .string p, .bool false, .string p, .func (.func 30) #[] #[.pointer (some ⟨w.heap.size + 1 + 1 + 1, 0, none⟩)], .string x, undef, undef, undef, undef, undef, undef, undef, undef, undef, undef, undef, undef, undef, undef], defers := [] }) ?assign ?body ?done ?stop
      case assign =>
        intro l x W K hK
        gi_wp2
        exact hK
      case body =>
        rintro l pre x W ⟨⟨v, hv, hrow, hle⟩, hB⟩ hlt
        obtain ⟨ao, c, rfl⟩ := own_len hrow
        have bR' : Boxed W w.heap.size 22 (.slice none 0 0) := (hB.block _ (by omega)).trans bR
        have bE' : Boxed W (w.heap.size + 1) 24 (.int .i64 0) := (hB.block _ (by omega)).trans bE
        have hc := hv.cell
        by_cases h16 : pre.length = 16
        · have h16' : (pre.length : Int) = 16 := by omega
          have cR := bR'.cell; have cE := bE'.cell; have fR := bR'.frozen; have fE := bE'.frozen
          gi_wp2
          exact ⟨((KeepsOthers.setCell _ _ _).trans (KeepsOthers.setCell _ _ _)).from _, ⟨⟨rfl, by simp; omega⟩, (bR'.set _).other (by omega) _, (bE'.other (by omega) _).set _⟩, ((hB0.trans (hB.mono (by omega))).setCell (p := ⟨w.heap.size, 0, none⟩) (Nat.le_refl _) _).setCell (p := ⟨w.heap.size + 1, 0, none⟩) (by simp) _⟩
        · have h16' : ((pre.length : Int) == 16) = false := by simp; omega
          gi_wp2_with (gi_at_builtin; refine wpListIn_append_own _ rfl _ _ 22 rfl (w.heap.size + 1 + 1) 9 i0 (.string ⟨#[]⟩) 1 16 Try.underlying22 hi hz0 hz1 hz2 rfl (by decide) _ _ _ rfl (hrow.alloc _) ⟨W.heap.size, 0, none⟩ 1 1 [.string x] rfl rfl (cell_one_new _ _ _) (by simp [Value.oneCell']) (by simp [maxLen]; omega) (by omega) (by have := hB.size; simp; omega) ?_; intro v' w1 hown' hgrow _; obtain ⟨g', cap', rfl⟩ := ownsRow_succ hown'; obtain ⟨hv1, hv2, hr2, hk2, hb2⟩ := hv.appended (by decide) hrow (by have := hB.size; omega) (Nat.le_refl _) hown' hgrow; have hc1 := hv1.cell; have hf1 := hv1.frozen)
          exact ⟨hk2.from _, hb2, ⟨_, hv2, by simpa using hr2, by simp; omega⟩, hB.trans hb2⟩
      case done =>
        rintro D ys W hD rfl ⟨⟨v, hv, hrow, hle⟩, hB⟩ hK
        have hE := splitE_path hp hr
        have hne : 0 < (cutsB (bs p).tail).length := by
          rw [cutsB_len]; exact List.length_pos_iff.2 (cuts_ne _)
        have hle' := hle
        rw [cutsB_len] at hle'
        have hall := allN_cuts (bs p).tail hle'
        have hsm : judge (cuts (bs p).tail) = 0 → ∀ x, x ∈ cutsB (bs p).tail → x.size ≤ 23 := cutsB_small
        have hL := splitL_path hp hr
        have hmap : ((cuts (bs p).tail).map tx).map Value.string = (cutsB (bs p).tail).map Value.string := rfl
        generalize hT : cutsB (bs p).tail = T at hrow hne hle hall hsm hmap
        generalize hj : judge (cuts (bs p).tail) = J at hE hall hsm hL
        have hJ : J = 0 ∨ ¬ J = 0 := by omega
        have bR' : Boxed W w.heap.size 22 (.slice none 0 0) := (hB.block _ (by omega)).trans bR
        have bE' : Boxed W (w.heap.size + 1) 24 (.int .i64 0) := (hB.block _ (by omega)).trans bE
        obtain ⟨g, c, rfl⟩ : ∃ g c, v = .slice (some ⟨g, 0, none⟩) T.length c := by
          rcases hrow.2 with ⟨_, h0⟩ | ⟨g, cap, _, rfl, _⟩
          · omega
          · exact ⟨g, cap, rfl⟩
        have hlies := Lies.owned hrow
        have hc := hv.cell
        clear bP bL hs hd
        gi_wp2_with fail
        refine ⟨trivial, (callsIn_wide.2 (checkAll_any _ _ _ _ _ (by omega) hlies)).mono ?_⟩
        rintro e w2 ⟨rfl, hb2⟩
        rw [hall]
        have hD2 : D < W.heap.size := (Array.getElem?_eq_some_iff.1 hK).1
        have hK2 : w2.heap[D]? = some (.deferred (some [])) := (hb2.block D hD2).trans hK
        have hv2 : Boxed w2 _ _ _ := (hb2.block _ hv.lt).trans hv
        have bR2 : Boxed w2 _ _ _ := (hb2.block _ bR'.lt).trans bR'
        have bE2 : Boxed w2 _ _ _ := (hb2.block _ bE'.lt).trans bE'
        have hgW : g < W.heap.size := by
          rcases hrow.2 with ⟨h0, _⟩ | ⟨g', cap, cur, h0, _, hb, _⟩
          · cases h0
          · cases h0; exact (Array.getElem?_eq_some_iff.1 hb).1
        have hrow2 : w2.ownsRow (w.heap.size + 1 + 1) 9 1 (.slice (some ⟨g, 0, none⟩) T.length c) T.length (T.map Value.string) := by
          rcases hrow with ⟨h0, h1 | ⟨g', cap, cur, h2, h3, h4, h5⟩⟩
          · exact ⟨h0, Or.inl h1⟩
          · cases h2; exact ⟨h0, Or.inr ⟨g, c, cur, rfl, h3, (hb2.block _ hgW).trans h4, h5⟩⟩
        have hbw2 : Below w.heap.size w w2 := (hB0.trans (hB.mono (by omega))).trans (hb2.mono (by have := hB.size; omega))
        rcases hJ with hJ | hJ
        · subst hJ
          have hsm' := hsm rfl
          have hL' := hL rfl
          clear hsm hL
          have hg2 : g < w2.heap.size := Nat.lt_of_lt_of_le hgW hb2.size
          have hc2 := hv2.cell
          clear hc
          gi_wp2_with fail
          refine ⟨trivial, (callsIn_wide.2 (ownTexts_pos _ _ _ _ _ _ hle hsm' hg2 hrow2)).mono ?_⟩
          rintro e w3 ⟨rfl, hb3⟩
          have hK3 : w3.heap[D]? = some (.deferred (some [])) := (hb3.block D (Nat.lt_of_lt_of_le hD2 hb2.size)).trans hK2
          have bR3 : Boxed w3 _ _ _ := (hb3.block _ bR2.lt).trans bR2
          have bE3 : Boxed w3 _ _ _ := (hb3.block _ bE2.lt).trans bE2
          have hrow3 : w3.ownsRow (w.heap.size + 1 + 1) 9 1 (.slice (some ⟨g, 0, none⟩) T.length c) T.length (T.map Value.string) := by
            rcases hrow2 with ⟨h0, h1 | ⟨g', cap, cur, h2, h3, h4, h5⟩⟩
            · exact ⟨h0, Or.inl h1⟩
            · cases h2; exact ⟨h0, Or.inr ⟨g, c, cur, rfl, h3, (hb3.block _ hg2).trans h4, h5⟩⟩
          have hbw3 : Below w.heap.size w w3 := hbw2.trans (hb3.mono hbw2.size)
          have cR := bR3.cell; have cE := bE3.cell; have fR := bR3.frozen; have fE := bE3.frozen
          clear hc2
          gi_wp2
          have hK' := ((KeepsOthers.setCell w3 ⟨w.heap.size, 0, none⟩ (.slice (some ⟨g, 0, none⟩) T.length c)).trans (KeepsOthers.setCell _ ⟨w.heap.size + 1, 0, none⟩ (.int .i64 0))).same D _ hK3 rfl
          refine ⟨by simp, .inl ⟨_, _, rfl, run_takeDeferred hK', ?_⟩⟩
          have hg := grownBy_putObj' ((w3.setCell ⟨w.heap.size, 0, none⟩ (.slice (some ⟨g, 0, none⟩) T.length c)).setCell ⟨w.heap.size + 1, 0, none⟩ (.int .i64 0)) D (.deferred none)
          have hD0 : ∀ k, k < W0.heap.size → some k ≠ some D := fun k hk e => by cases e; omega
          have q0 := (bR3.set (.slice (some ⟨g, 0, none⟩) T.length c)).other (B' := w.heap.size + 1) (by omega) (.int .i64 0)
          have q1 := (bE3.other (B' := w.heap.size) (by omega) (.slice (some ⟨g, 0, none⟩) T.length c)).set (.int .i64 0)
          refine ⟨_, split_results rfl rfl ⟨_, _, _, rfl⟩ (q0.kept hg (hD0 _ (by omega))) (q1.kept hg (hD0 _ (by omega))), some ⟨g, 0, none⟩, T.length, c, by rw [hE], ?_, ?_⟩
          · rw [hL', hmap]
            have r1 := hrow3.kept (grownBy_setCell' w3 w.heap.size (.slice (some ⟨g, 0, none⟩) T.length c)) (.inr (bR3.not_row (by decide) hrow3).symm)
            have r2 := r1.kept (grownBy_setCell' _ (w.heap.size + 1) (.int .i64 0)) (.inr (Boxed.not_row (bE3.other (B' := w.heap.size) (by omega) _) (by decide) r1).symm)
            exact ownsRow_mono (ownsRow_putObj r2 _ hK' rfl) (by omega)
          · exact ((hbw3.setCell (p := ⟨w.heap.size, 0, none⟩) (Nat.le_refl _) _).setCell (p := ⟨w.heap.size + 1, 0, none⟩) (by simp) _).trans (belowK_b (w := w) (Nat.le_refl _) _ D _ _ (by omega) hK' rfl rfl)
        · have hJ' : (J == 0) = false := by simpa using hJ
          have cR := bR2.cell; have cE := bE2.cell; have fR := bR2.frozen; have fE := bE2.frozen
          have HE : Hid (splitE (bs p) = J) := ⟨hE⟩
          clear hc hE hsm hL hall
          gi_wp2
          have hK' := ((KeepsOthers.setCell w2 ⟨w.heap.size, 0, none⟩ (.slice none 0 0)).trans (KeepsOthers.setCell _ ⟨w.heap.size + 1, 0, none⟩ (.int .i64 J))).same D _ hK2 rfl
          refine ⟨by simp, .inl ⟨_, _, rfl, run_takeDeferred hK', ?_⟩⟩
          have hg := grownBy_putObj' ((w2.setCell ⟨w.heap.size, 0, none⟩ (.slice none 0 0)).setCell ⟨w.heap.size + 1, 0, none⟩ (.int .i64 J)) D (.deferred none)
          have hD0 : ∀ k, k < W0.heap.size → some k ≠ some D := fun k hk e => by cases e; omega
          have q0 := (bR2.set (.slice none 0 0)).other (B' := w.heap.size + 1) (by omega) (.int .i64 J)
          have q1 := (bE2.other (B' := w.heap.size) (by omega) (.slice none 0 0)).set (.int .i64 J)
          refine ⟨_, split_results rfl rfl ⟨_, _, _, rfl⟩ (q0.kept hg (hD0 _ (by omega))) (q1.kept hg (hD0 _ (by omega))), none, 0, 0, by rw [HE.out], ?_, ?_⟩
          · rw [splitL_err (by rw [HE.out]; exact hJ)]
            exact World.ownsRow_nil _ _ _ _
          · exact ((hbw2.setCell (p := ⟨w.heap.size, 0, none⟩) (Nat.le_refl _) _).setCell (p := ⟨w.heap.size + 1, 0, none⟩) (by simp) _).trans (belowK_b (w := w) (Nat.le_refl _) _ D _ _ (by omega) hK' rfl rfl)
      case stop =>
        rintro D c pre W hD hpre ⟨⟨⟨rfl, hlen⟩, bR', bE'⟩, hB⟩ hK
        have hE := (splitE_path hp hr).trans (deep_cuts hpre hlen)
        have hL : splitL (bs p) = [] := splitL_err (by rw [hE]; decide)
        gi_wp2
        refine ⟨by simp, .inl ⟨_, _, rfl, run_takeDeferred hK, ?_⟩⟩
        have hg := grownBy_putObj' W D (.deferred none)
        have hD0 : ∀ k, k < W0.heap.size → some k ≠ some D := fun k hk e => by cases e; omega
        refine ⟨_, split_results rfl rfl ⟨none, 0, 0, rfl⟩ (bR'.kept hg (hD0 _ (by omega))) (bE'.kept hg (hD0 _ (by omega))), none, 0, 0, by rw [hE], by rw [hL]; exact World.ownsRow_nil _ _ _ _, ?_⟩
        exact hB.trans (belowK_b (w := w) (Nat.le_refl _) W D _ _ (by omega) hK rfl rfl)
  · have hd : decide ((bs p).head? = some 47) = false := by simpa using hp
    gi_wp2_with (refine ⟨trivial, ?_⟩; gi_at_call 24; refine (callsIn_wide.2 (has_any _ _)).mono ?_; rintro e w' ⟨rfl, rfl⟩; rw [hd])
    have e1 : splitE (bs p) = 32 := by unfold splitE; rw [if_neg hp]
    have e2 : splitL (bs p) = [] := splitL_err (by rw [e1]; decide)
    refine ⟨_, split_results rfl rfl ⟨none, 0, 0, rfl⟩ (b00.alloc _) (b01 32), none, 0, 0, by rw [e1], by rw [e2]; exact World.ownsRow_nil _ _ _ _, hb00 32⟩

theorem split_any (p : ByteArray) (w : World) (hs : p.size ≤ 281474976710656) :
    Calls Try.prog 13 #[.string p] w fun e w' => SplitR w p e w' := (callsIn_wide (n := 3)).1 (split_in 3 (Nat.le_refl _) p w hs)
end Go.Proofs.Ytknneihkkagnfaa
