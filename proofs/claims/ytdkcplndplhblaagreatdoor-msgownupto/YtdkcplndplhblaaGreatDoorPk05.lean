/- names.Split: what the document says of every text; the list is new memory. -/
import Derived.Test.YtdkcplndplhblaaGreatDoorPk04
import Derived.Test.YtdkcplndplhblaaGreatDoorPk01
import Derived.BigQuiet
import Derived.Deep.QuietTactic
import Derived.OpenShut
import Derived.Laws.BitsAllLaws
import Derived.Test.YtdkcplndplhblaaGreatDoorPk03
namespace Go.Proofs.YtdkcplndplhblaaGreatDoor.N3
open Go.RowKit Go.Shelf
set_option maxRecDepth 100000

attribute [local go_sem] Oper.semAt_some

/-- What Split leaves. -/
def SplitR (w : World) (p : ByteArray) (e : Ending) (w' : World) : Prop :=
  ∃ ao n c, e = .returned (.tuple #[.slice ao n c, .int .i64 (splitE (bs p))]) ∧ w'.ownsRow w.heap.size 9 1 (.slice ao n c) n (((splitL (bs p)).map tx).map Value.string) ∧ Below w.heap.size w w'

theorem allN_cuts (l : List UInt8) (h : (cuts l).length ≤ 16) : allN (cutsB l) = judge (cuts l) := by
  unfold allN judge cutsB
  rw [if_neg (show ¬ 16 < (cuts l).length by omega), List.all_map]
  have : ((fun s => okName (bs s)) ∘ tx) = okName := by funext x; simp
  rw [this]
theorem cutsB_len (l : List UInt8) : (cutsB l).length = (cuts l).length := by simp [cutsB]
theorem cutsB_small {l : List UInt8} (h : judge (cuts l) = 0) (x : ByteArray) (hx : x ∈ cutsB l) : x.size ≤ 23 := by
  obtain ⟨y, hy, rfl⟩ := List.mem_map.1 hx
  rw [size_bs, bs_tx]
  exact (okName_len ((judge_zero.1 h).2 y hy)).2
theorem deep_cuts {l : List UInt8} {pre : List ByteArray} (h : pre <+: cutsB l) (hl : pre.length = 17) : judge (cuts l) = 33 := by
  have := h.length_le
  rw [cutsB_len] at this
  unfold judge
  rw [if_pos (by omega)]
theorem splitE_path {p : ByteArray} (hp : (bs p).head? = some 47) (hr : ¬ p.toList = [47]) : splitE (bs p) = judge (cuts (bs p).tail) := by
  rw [ByteArray.toList_eq] at hr
  unfold splitE
  rw [if_pos hp, if_neg hr]
theorem splitL_path {p : ByteArray} (hp : (bs p).head? = some 47) (hr : ¬ p.toList = [47]) (h : judge (cuts (bs p).tail) = 0) : splitL (bs p) = cuts (bs p).tail := by
  have hE := splitE_path hp hr
  rw [ByteArray.toList_eq] at hr
  unfold splitL
  rw [if_pos ⟨hE.trans h, hr⟩]

theorem split_results {tmps : Array Value} {w : World} {B : Nat} {v : Value} {k : Int} (h2 : tmps[2]? = some (.pointer (some ⟨B, 0, none⟩))) (h3 : tmps[3]? = some (.pointer (some ⟨B + 1, 0, none⟩))) (hv : ∃ ao n c, v = .slice ao n c) (b0 : Boxed w B 115 v) (b1 : Boxed w (B + 1) 25 (.int .i64 k)) : (results Tryz.f137 tmps).run Tryz.prog w = .ok (.tuple #[v, .int .i64 k]) w := by
  obtain ⟨ao, n, c, rfl⟩ := hv
  have c0 := b0.cell
  have c1 := b1.cell
  simp [results, Tryz.f137, go_sem, h2, h3, c0, c1]

set_option maxHeartbeats 2000000 in
theorem split_in (n : Nat) (hn : 3 ≤ n) (p : ByteArray) (w : World) (hs : p.size ≤ 281474976710656) :
    CallsIn Fence.wide n Tryz.prog 137 #[.string p] w fun e w' => SplitR w p e w' := by
  have h1 : 1 ≤ n := by omega
  obtain ⟨i0, hi, hz0, hz1, hz2⟩ := info_parts Tryz.info9
  refine callsIn_of_wp_marks Tryz.func137 rfl trivial ?_ rfl
  simp only [Tryz.ntmps137, List.size_toArray, List.length_cons, List.length_nil, Nat.reduceAdd, Nat.reduceSub, Array.replicate_succ, Array.replicate_zero, List.push_toArray, List.append_toArray, List.nil_append, List.cons_append]
  have b00 := Boxed.new w 115 (.slice none 0 0)
  have hb00 : ∀ k, Below w.heap.size w ((w.alloc (.cells #[.slice none 0 0] 115)).alloc (.cells #[.int .i64 k] 25)) := fun k => ((Below.refl _ w).alloc (Nat.le_refl _) _).alloc (by simp) _
  have b01 : ∀ k, Boxed ((w.alloc (.cells #[.slice none 0 0] 115)).alloc (.cells #[.int .i64 k] 25)) (w.heap.size + 1) 25 (.int .i64 k) := fun k => by
    have := Boxed.new (w.alloc (.cells #[.slice none 0 0] 115)) 25 (.int .i64 k)
    rwa [World.size_alloc] at this
  by_cases hp : (bs p).head? = some 47
  · have hd : decide ((bs p).head? = some 47) = true := by simpa using hp
    by_cases hr : p.toList = [47]
    · have hr' : (p.toList == [47]) = true := by simpa using hr
      gi_wp2_with (refine ⟨trivial, ?_⟩; gi_at_call 147; refine (callsIn_wide.2 (has_any _ _)).mono ?_; rintro e w' ⟨rfl, rfl⟩; rw [hd])
      rw [ByteArray.toList_eq] at hr
      have e1 : splitE (bs p) = 0 := by rw [show bs p = [47] from hr]; decide
      have e2 : splitL (bs p) = [] := by rw [show bs p = [47] from hr]; decide
      refine ⟨_, split_results rfl rfl ⟨none, 0, 0, rfl⟩ (b00.alloc _) (b01 0), none, 0, 0, by rw [e1], by rw [e2]; exact World.ownsRow_nil _ _ _ _, hb00 0⟩
    · have hr' : (p.toList == [47]) = false := by simpa using hr
      gi_wp2_with (refine ⟨trivial, ?_⟩; first | (gi_at_call 147; refine (callsIn_wide.2 (has_any _ _)).mono ?_; rintro e w' ⟨rfl, rfl⟩; rw [hd]) | (gi_at_call 148; refine (parts_in _ _ _).mono ?_; rintro e w' ⟨rfl, rfl⟩))
      obtain ⟨W0, hW0⟩ : ∃ W0, ((((w.alloc (.cells #[.slice none 0 0] 115)).alloc (.cells #[.int .i64 0] 25)).alloc (.cells #[.slice none 0 0] 115)).alloc (.cells #[.string p] 9)) = W0 := ⟨_, rfl⟩
      have hsz : W0.heap.size = w.heap.size + 4 := by rw [← hW0]; simp
      have bR : Boxed W0 w.heap.size 115 (.slice none 0 0) := by rw [← hW0]; exact ((b00.alloc _).alloc _).alloc _
      have bE : Boxed W0 (w.heap.size + 1) 25 (.int .i64 0) := by rw [← hW0]; exact ((b01 0).alloc _).alloc _
      have bL : Boxed W0 (w.heap.size + 1 + 1) 115 (.slice none 0 0) := by
        rw [← hW0]
        have := Boxed.new ((w.alloc (.cells #[.slice none 0 0] 115)).alloc (.cells #[.int .i64 0] 25)) 115 (.slice none 0 0)
        simp only [World.size_alloc] at this
        exact this.alloc _
      have bP : Boxed W0 (w.heap.size + 1 + 1 + 1) 9 (.string p) := by
        rw [← hW0]
        have := Boxed.new (((w.alloc (.cells #[.slice none 0 0] 115)).alloc (.cells #[.int .i64 0] 25)).alloc (.cells #[.slice none 0 0] 115)) 9 (.string p)
        simpa only [World.size_alloc] using this
      have hB0 : Below w.heap.size w W0 := by rw [← hW0]; exact ((hb00 0).alloc (by simp; omega) _).alloc (by simp; omega) _
      rw [hW0]
      clear hW0 b00 hb00 b01
      refine wpIn_rangeFunc_ownG rfl h1 (gf := 158) (lb := #[.pointer (some ⟨w.heap.size + 1 + 1 + 1, 0, none⟩)]) rfl trivial (enters_of Tryz.func158 (by kernel_rfl) rfl)
        (parts_stops (n - 1) (by omega) (w.heap.size + 1 + 1 + 1) (w.heap.size + 1 + 1) p W0 bP.lt bP.cell hs hp) belowK_t (belowK_b (by omega)) (Below.refl _ _) (fun _ => rfl)
        (fun pre W => (∃ v, Boxed W (w.heap.size + 1 + 1) 115 v ∧ W.ownsRow (w.heap.size + 1 + 1) 9 1 v pre.length (pre.map Value.string) ∧ pre.length ≤ 16) ∧ Below (w.heap.size + 1 + 1) W0 W)
        (fun c pre W => ((c = .ret ∧ pre.length = 17) ∧ (Boxed W w.heap.size 115 (.slice none 0 0) ∧ Boxed W (w.heap.size + 1) 25 (.int .i64 33))) ∧ Below w.heap.size w W)
        (OwnFrom.and (Own.from (holdsRow_own (w.heap.size + 1 + 1) (w.heap.size + 1 + 1) 115 9 1 (fun pre : List ByteArray => pre.length) (fun pre => pre.map Value.string) (fun pre _ => pre.length ≤ 16)) _) (ownFrom_below (by omega) (by omega)))
        (fun c => OwnFrom.and (OwnFrom.and (ownFrom_pure _ (fun pre : List ByteArray => c = .ret ∧ pre.length = 17)) (OwnFrom.and (Own.from (boxed_own w.heap.size 115 (fun _ => .slice none 0 0)) _) (Own.from (boxed_own (w.heap.size + 1) 25 (fun _ => .int .i64 33)) _))) (ownFrom_below (Nat.le_refl _) (by omega)))
        ⟨⟨_, bL, World.ownsRow_nil _ _ _ _, by simp⟩, Below.refl _ _⟩
        (fun x => { tmps := #[.string p, undef, .pointer (some ⟨w.heap.size, 0, none⟩), .pointer (some ⟨w.heap.size + 1, 0, none⟩), .pointer (some ⟨w.heap.size + 1 + 1, 0, none⟩), .string x, undef, .string p, .bool true, .bool false, .string p, .bool false, .string p, .func (.func 158) #[] #[.pointer (some ⟨w.heap.size + 1 + 1 + 1, 0, none⟩)], .string x, undef, undef, undef, undef, undef, undef, undef, undef, undef, undef, undef, undef, undef, undef], defers := [] }) ?assign ?body ?done ?stop
      case assign =>
        intro l x W K hK
        gi_wp2
        exact hK
      case body =>
        rintro l pre x W ⟨⟨v, hv, hrow, hle⟩, hB⟩ hlt
        obtain ⟨ao, c, rfl⟩ := own_len hrow
        have bR' : Boxed W w.heap.size 115 (.slice none 0 0) := (hB.block _ (by omega)).trans bR
        have bE' : Boxed W (w.heap.size + 1) 25 (.int .i64 0) := (hB.block _ (by omega)).trans bE
        have hc := hv.cell
        by_cases h16 : pre.length = 16
        · have h16' : (pre.length : Int) = 16 := by omega
          have cR := bR'.cell; have cE := bE'.cell; have fR := bR'.frozen; have fE := bE'.frozen
          gi_wp2
          exact ⟨((KeepsOthers.setCell _ _ _).trans (KeepsOthers.setCell _ _ _)).from _, ⟨⟨rfl, by simp; omega⟩, (bR'.set _).other (by omega) _, (bE'.other (by omega) _).set _⟩, ((hB0.trans (hB.mono (by omega))).setCell (p := ⟨w.heap.size, 0, none⟩) (Nat.le_refl _) _).setCell (p := ⟨w.heap.size + 1, 0, none⟩) (by simp) _⟩
        · have h16' : ((pre.length : Int) == 16) = false := by simp; omega
          gi_wp2_with (gi_at_builtin; refine wpListIn_append_own _ rfl _ _ 115 rfl (w.heap.size + 1 + 1) 9 i0 (.string ⟨#[]⟩) 1 16 Tryz.underlying115 hi hz0 hz1 hz2 rfl (by decide) _ _ _ rfl (hrow.alloc _) ⟨W.heap.size, 0, none⟩ 1 1 [.string x] rfl rfl (cell_one_new _ _ _) (by simp [Value.oneCell']) (by simp [maxLen]; omega) (by omega) (by have := hB.size; simp; omega) ?_; intro v' w1 hown' hgrow _; obtain ⟨g', cap', rfl⟩ := ownsRow_succ hown'; obtain ⟨hv1, hv2, hr2, hk2, hb2⟩ := hv.appended (by decide) hrow (by have := hB.size; omega) (Nat.le_refl _) hown' hgrow; have hc1 := hv1.cell; have hf1 := hv1.frozen)
          exact ⟨hk2.from _, hb2, ⟨_, hv2, by simpa using hr2, by simp; omega⟩, hB.trans hb2⟩
      case done =>
        rintro D ys W hD rfl ⟨⟨v, hv, hrow, hle⟩, hB⟩ hK
        have hE := splitE_path hp hr
        have hne : 0 < (cutsB (bs p).tail).length := by
          rw [cutsB_len]; exact List.length_pos_iff.2 (cuts_ne _)
        have hle' := hle
        rw [cutsB_len] at hle'
        have hall := allN_cuts (bs p).tail hle'
        have hsm : judge (cuts (bs p).tail) = 0 → ∀ x, x ∈ cutsB (bs p).tail → x.size ≤ 23 := cutsB_small
        have hL := splitL_path hp hr
        have hmap : ((cuts (bs p).tail).map tx).map Value.string = (cutsB (bs p).tail).map Value.string := rfl
        generalize hT : cutsB (bs p).tail = T at hrow hne hle hall hsm hmap
        generalize hj : judge (cuts (bs p).tail) = J at hE hall hsm hL
        have hJ : J = 0 ∨ ¬ J = 0 := by omega
        have bR' : Boxed W w.heap.size 115 (.slice none 0 0) := (hB.block _ (by omega)).trans bR
        have bE' : Boxed W (w.heap.size + 1) 25 (.int .i64 0) := (hB.block _ (by omega)).trans bE
        obtain ⟨g, c, rfl⟩ : ∃ g c, v = .slice (some ⟨g, 0, none⟩) T.length c := by
          rcases hrow.2 with ⟨_, h0⟩ | ⟨g, cap, _, rfl, _⟩
          · omega
          · exact ⟨g, cap, rfl⟩
        have hlies := Lies.owned hrow
        have hc := hv.cell
        clear bP bL hs hd
        gi_wp2_with fail
        refine ⟨trivial, (callsIn_wide.2 (checkAll_any _ _ _ _ _ (by omega) hlies)).mono ?_⟩
        rintro e w2 ⟨rfl, hb2⟩
        rw [hall]
        have hD2 : D < W.heap.size := (Array.getElem?_eq_some_iff.1 hK).1
        have hK2 : w2.heap[D]? = some (.deferred (some [])) := (hb2.block D hD2).trans hK
        have hv2 : Boxed w2 _ _ _ := (hb2.block _ hv.lt).trans hv
        have bR2 : Boxed w2 _ _ _ := (hb2.block _ bR'.lt).trans bR'
        have bE2 : Boxed w2 _ _ _ := (hb2.block _ bE'.lt).trans bE'
        have hgW : g < W.heap.size := by
          rcases hrow.2 with ⟨h0, _⟩ | ⟨g', cap, cur, h0, _, hb, _⟩
          · cases h0
          · cases h0; exact (Array.getElem?_eq_some_iff.1 hb).1
        have hrow2 : w2.ownsRow (w.heap.size + 1 + 1) 9 1 (.slice (some ⟨g, 0, none⟩) T.length c) T.length (T.map Value.string) := by
          rcases hrow with ⟨h0, h1 | ⟨g', cap, cur, h2, h3, h4, h5⟩⟩
          · exact ⟨h0, Or.inl h1⟩
          · cases h2; exact ⟨h0, Or.inr ⟨g, c, cur, rfl, h3, (hb2.block _ hgW).trans h4, h5⟩⟩
        have hbw2 : Below w.heap.size w w2 := (hB0.trans (hB.mono (by omega))).trans (hb2.mono (by have := hB.size; omega))
        rcases hJ with hJ | hJ
        · subst hJ
          have hsm' := hsm rfl
          have hL' := hL rfl
          clear hsm hL
          have hg2 : g < w2.heap.size := Nat.lt_of_lt_of_le hgW hb2.size
          have hc2 := hv2.cell
          clear hc
          gi_wp2_with fail
          refine ⟨trivial, (callsIn_wide.2 (ownTexts_pos _ _ _ _ _ _ hle hsm' hg2 hrow2)).mono ?_⟩
          rintro e w3 ⟨rfl, hb3⟩
          have hK3 : w3.heap[D]? = some (.deferred (some [])) := (hb3.block D (Nat.lt_of_lt_of_le hD2 hb2.size)).trans hK2
          have bR3 : Boxed w3 _ _ _ := (hb3.block _ bR2.lt).trans bR2
          have bE3 : Boxed w3 _ _ _ := (hb3.block _ bE2.lt).trans bE2
          have hrow3 : w3.ownsRow (w.heap.size + 1 + 1) 9 1 (.slice (some ⟨g, 0, none⟩) T.length c) T.length (T.map Value.string) := by
            rcases hrow2 with ⟨h0, h1 | ⟨g', cap, cur, h2, h3, h4, h5⟩⟩
            · exact ⟨h0, Or.inl h1⟩
            · cases h2; exact ⟨h0, Or.inr ⟨g, c, cur, rfl, h3, (hb3.block _ hg2).trans h4, h5⟩⟩
          have hbw3 : Below w.heap.size w w3 := hbw2.trans (hb3.mono hbw2.size)
          have cR := bR3.cell; have cE := bE3.cell; have fR := bR3.frozen; have fE := bE3.frozen
          clear hc2
          gi_wp2
          have hK' := ((KeepsOthers.setCell w3 ⟨w.heap.size, 0, none⟩ (.slice (some ⟨g, 0, none⟩) T.length c)).trans (KeepsOthers.setCell _ ⟨w.heap.size + 1, 0, none⟩ (.int .i64 0))).same D _ hK3 rfl
          refine ⟨by simp, .inl ⟨_, _, rfl, run_takeDeferred hK', ?_⟩⟩
          have hg := grownBy_putObj' ((w3.setCell ⟨w.heap.size, 0, none⟩ (.slice (some ⟨g, 0, none⟩) T.length c)).setCell ⟨w.heap.size + 1, 0, none⟩ (.int .i64 0)) D (.deferred none)
          have hD0 : ∀ k, k < W0.heap.size → some k ≠ some D := fun k hk e => by cases e; omega
          have q0 := (bR3.set (.slice (some ⟨g, 0, none⟩) T.length c)).other (B' := w.heap.size + 1) (by omega) (.int .i64 0)
          have q1 := (bE3.other (B' := w.heap.size) (by omega) (.slice (some ⟨g, 0, none⟩) T.length c)).set (.int .i64 0)
          refine ⟨_, split_results rfl rfl ⟨_, _, _, rfl⟩ (q0.kept hg (hD0 _ (by omega))) (q1.kept hg (hD0 _ (by omega))), some ⟨g, 0, none⟩, T.length, c, by rw [hE], ?_, ?_⟩
          · rw [hL', hmap]
            have r1 := hrow3.kept (grownBy_setCell' w3 w.heap.size (.slice (some ⟨g, 0, none⟩) T.length c)) (.inr (bR3.not_row (by decide) hrow3).symm)
            have r2 := r1.kept (grownBy_setCell' _ (w.heap.size + 1) (.int .i64 0)) (.inr (Boxed.not_row (bE3.other (B' := w.heap.size) (by omega) _) (by decide) r1).symm)
            exact ownsRow_mono (ownsRow_putObj r2 _ hK' rfl) (by omega)
          · exact ((hbw3.setCell (p := ⟨w.heap.size, 0, none⟩) (Nat.le_refl _) _).setCell (p := ⟨w.heap.size + 1, 0, none⟩) (by simp) _).trans (belowK_b (w := w) (Nat.le_refl _) _ D _ _ (by omega) hK' rfl rfl)
        · have hJ' : (J == 0) = false := by simpa using hJ
          have cR := bR2.cell; have cE := bE2.cell; have fR := bR2.frozen; have fE := bE2.frozen
          have HE : Hid (splitE (bs p) = J) := ⟨hE⟩
          clear hc hE hsm hL hall
          gi_wp2
          have hK' := ((KeepsOthers.setCell w2 ⟨w.heap.size, 0, none⟩ (.slice none 0 0)).trans (KeepsOthers.setCell _ ⟨w.heap.size + 1, 0, none⟩ (.int .i64 J))).same D _ hK2 rfl
          refine ⟨by simp, .inl ⟨_, _, rfl, run_takeDeferred hK', ?_⟩⟩
          have hg := grownBy_putObj' ((w2.setCell ⟨w.heap.size, 0, none⟩ (.slice none 0 0)).setCell ⟨w.heap.size + 1, 0, none⟩ (.int .i64 J)) D (.deferred none)
          have hD0 : ∀ k, k < W0.heap.size → some k ≠ some D := fun k hk e => by cases e; omega
          have q0 := (bR2.set (.slice none 0 0)).other (B' := w.heap.size + 1) (by omega) (.int .i64 J)
          have q1 := (bE2.other (B' := w.heap.size) (by omega) (.slice none 0 0)).set (.int .i64 J)
          refine ⟨_, split_results rfl rfl ⟨_, _, _, rfl⟩ (q0.kept hg (hD0 _ (by omega))) (q1.kept hg (hD0 _ (by omega))), none, 0, 0, by rw [HE.out], ?_, ?_⟩
          · rw [splitL_err (by rw [HE.out]; exact hJ)]
            exact World.ownsRow_nil _ _ _ _
          · exact ((hbw2.setCell (p := ⟨w.heap.size, 0, none⟩) (Nat.le_refl _) _).setCell (p := ⟨w.heap.size + 1, 0, none⟩) (by simp) _).trans (belowK_b (w := w) (Nat.le_refl _) _ D _ _ (by omega) hK' rfl rfl)
      case stop =>
        rintro D c pre W hD hpre ⟨⟨⟨rfl, hlen⟩, bR', bE'⟩, hB⟩ hK
        have hE := (splitE_path hp hr).trans (deep_cuts hpre hlen)
        have hL : splitL (bs p) = [] := splitL_err (by rw [hE]; decide)
        gi_wp2
        refine ⟨by simp, .inl ⟨_, _, rfl, run_takeDeferred hK, ?_⟩⟩
        have hg := grownBy_putObj' W D (.deferred none)
        have hD0 : ∀ k, k < W0.heap.size → some k ≠ some D := fun k hk e => by cases e; omega
        refine ⟨_, split_results rfl rfl ⟨none, 0, 0, rfl⟩ (bR'.kept hg (hD0 _ (by omega))) (bE'.kept hg (hD0 _ (by omega))), none, 0, 0, by rw [hE], by rw [hL]; exact World.ownsRow_nil _ _ _ _, ?_⟩
        exact hB.trans (belowK_b (w := w) (Nat.le_refl _) W D _ _ (by omega) hK rfl rfl)
  · have hd : decide ((bs p).head? = some 47) = false := by simpa using hp
    gi_wp2_with (refine ⟨trivial, ?_⟩; gi_at_call 147; refine (callsIn_wide.2 (has_any _ _)).mono ?_; rintro e w' ⟨rfl, rfl⟩; rw [hd])
    have e1 : splitE (bs p) = 32 := by unfold splitE; rw [if_neg hp]
    have e2 : splitL (bs p) = [] := splitL_err (by rw [e1]; decide)
    refine ⟨_, split_results rfl rfl ⟨none, 0, 0, rfl⟩ (b00.alloc _) (b01 32), none, 0, 0, by rw [e1], by rw [e2]; exact World.ownsRow_nil _ _ _ _, hb00 32⟩

theorem split_any (p : ByteArray) (w : World) (hs : p.size ≤ 281474976710656) :
    Calls Tryz.prog 137 #[.string p] w fun e w' => SplitR w p e w' := (callsIn_wide (n := 3)).1 (split_in 3 (Nat.le_refl _) p w hs)
end Go.Proofs.YtdkcplndplhblaaGreatDoor.N3

/- What the texts on sums stand on. -/

/- The sum's step, forwards and backwards, as numbers; what follows of it. -/
namespace Go.Proofs.YtdkcplndplhblaaGreatDoor.S2
open Go.RowKit
set_option maxRecDepth 100000

/-- A number of 64 bits. -/
abbrev U (h : Int) : Prop := 0 ≤ h ∧ h ≤ 18446744073709551615
/-- A byte. -/
abbrev By (x : Int) : Prop := 0 ≤ x ∧ x ≤ 255
/-- The step of a number and a byte. -/
def stp (h x : Int) : Int := IntKind.u64.wrap (bits .xor .u64 h x * 1099511628211)
/-- The number times the inverse. -/
def inv (h : Int) : Int := IntKind.u64.wrap (h * 14886173955864302971)
/-- The step undone. -/
def und (h x : Int) : Int := bits .xor .u64 (inv h) x
def fwd (h : Int) (l : List Int) : Int := l.foldl stp h
def bwd (h : Int) (l : List Int) : Int := l.foldr (fun x g => und g x) h

theorem By.u {x : Int} (h : By x) : U x := ⟨h.1, by have := h.2; omega⟩
theorem U.wrap (n : Int) : U (IntKind.u64.wrap n) := by
  rw [IntKind.wrap_u64]; exact ⟨by omega, by omega⟩
theorem xorN {a b : Int} (ha : U a) (hb : U b) : bits .xor .u64 a b = ((a.toNat ^^^ b.toNat : Nat) : Int) := by
  have h1 := ha.1; have h2 := ha.2; have h3 := hb.1; have h4 := hb.2
  exact u64_xor a b h1 (by omega) h3 (by omega)
theorem U.xor {a b : Int} (ha : U a) (hb : U b) : U (bits .xor .u64 a b) := by
  rw [xorN ha hb]
  have h1 := ha.1; have h2 := ha.2; have h3 := hb.1; have h4 := hb.2
  have : a.toNat ^^^ b.toNat < 2 ^ 64 := Nat.xor_lt_two_pow (by omega) (by omega)
  exact ⟨by omega, by omega⟩
theorem xor_self {a b : Int} (ha : U a) (hb : U b) : bits .xor .u64 (bits .xor .u64 a b) b = a := by
  rw [xorN (ha.xor hb) hb, xorN ha hb, Int.toNat_natCast, Nat.xor_assoc, Nat.xor_self, Nat.xor_zero]
  have := ha.1; omega
theorem xor_comm {a b : Int} (ha : U a) (hb : U b) : bits .xor .u64 a b = bits .xor .u64 b a := by
  rw [xorN ha hb, xorN hb ha, Nat.xor_comm]
theorem xor_assoc {a b c : Int} (ha : U a) (hb : U b) (hc : U c) : bits .xor .u64 (bits .xor .u64 a b) c = bits .xor .u64 a (bits .xor .u64 b c) := by
  rw [xorN (ha.xor hb) hc, xorN ha hb, xorN ha (hb.xor hc), xorN hb hc, Int.toNat_natCast, Int.toNat_natCast, Nat.xor_assoc]
theorem xor_inj {a b c : Int} (ha : U a) (hb : U b) (hc : U c) (h : bits .xor .u64 a b = bits .xor .u64 a c) : b = c := by
  have e1 := xor_self hb ha
  have e2 := xor_self hc ha
  rw [xor_comm hb ha] at e1
  rw [xor_comm hc ha] at e2
  rw [← e1, ← e2, h]
theorem U.stp (h x : Int) : U (stp h x) := U.wrap _
theorem U.inv (h : Int) : U (inv h) := U.wrap _
theorem U.und (h : Int) {x : Int} (hx : By x) : U (und h x) := (U.inv h).xor hx.u
theorem inv_mul {a : Int} (ha : U a) : inv (IntKind.u64.wrap (a * 1099511628211)) = a := by
  have h1 := ha.1; have h2 := ha.2
  unfold inv
  rw [IntKind.wrap_u64, IntKind.wrap_u64]
  omega
theorem mul_inv {a : Int} (ha : U a) : IntKind.u64.wrap (inv a * 1099511628211) = a := by
  have h1 := ha.1; have h2 := ha.2
  unfold inv
  rw [IntKind.wrap_u64, IntKind.wrap_u64]
  omega
theorem und_stp {h x : Int} (hh : U h) (hx : By x) : und (stp h x) x = h := by
  unfold und stp
  rw [inv_mul (hh.xor hx.u), xor_self hh hx.u]
theorem stp_und {h x : Int} (hh : U h) (hx : By x) : stp (und h x) x = h := by
  unfold und stp
  rw [xor_self (U.inv h) hx.u, mul_inv hh]
theorem U.fwd {h : Int} (l : List Int) (hh : U h) : U (fwd h l) := by
  induction l generalizing h with
  | nil => exact hh
  | cons x l ih => exact ih (U.stp h x)
theorem U.bwd {h : Int} (l : List Int) (hl : ∀ x ∈ l, By x) (hh : U h) : U (bwd h l) := by
  cases l with
  | nil => exact hh
  | cons x l => exact U.und _ (hl x (by simp))
theorem fwd_append (h : Int) (a b : List Int) : fwd h (a ++ b) = fwd (fwd h a) b := List.foldl_append ..
theorem bwd_append (h : Int) (a b : List Int) : bwd h (a ++ b) = bwd (bwd h b) a := List.foldr_append ..
theorem bwd_fwd {h : Int} (l : List Int) (hl : ∀ x ∈ l, By x) (hh : U h) : bwd (fwd h l) l = h := by
  induction l generalizing h with
  | nil => rfl
  | cons x l ih =>
    show und (bwd (fwd (stp h x) l) l) x = h
    rw [ih (fun y hy => hl y (by simp [hy])) (U.stp h x), und_stp hh (hl x (by simp))]
theorem fwd_bwd {h : Int} (l : List Int) (hl : ∀ x ∈ l, By x) (hh : U h) : fwd (bwd h l) l = h := by
  induction l with
  | nil => rfl
  | cons x l ih =>
    show fwd (stp (und (bwd h l) x) x) l = h
    rw [stp_und (U.bwd l (fun y hy => hl y (by simp [hy])) hh) (hl x (by simp)), ih (fun y hy => hl y (by simp [hy]))]
theorem fwd_inj {g h : Int} (l : List Int) (hl : ∀ x ∈ l, By x) (hg : U g) (hh : U h) : fwd g l = fwd h l ↔ g = h := by
  refine ⟨fun e => ?_, fun e => by rw [e]⟩
  rw [← bwd_fwd l hl hg, ← bwd_fwd l hl hh, e]
theorem bwd_inj {g h : Int} (l : List Int) (hl : ∀ x ∈ l, By x) (hg : U g) (hh : U h) : bwd g l = bwd h l ↔ g = h := by
  refine ⟨fun e => ?_, fun e => by rw [e]⟩
  rw [← fwd_bwd l hl hg, ← fwd_bwd l hl hh, e]
end Go.Proofs.YtdkcplndplhblaaGreatDoor.S2

/- sum.step, sum.undo, sum.inverseOfPrime by their contracts. -/
namespace Go.Proofs.YtdkcplndplhblaaGreatDoor.S2
open Go.RowKit
set_option maxRecDepth 100000

set_option maxHeartbeats 400000 in
theorem step_any (h x : Int) (w : World) (hx : By x) :
    Calls Tryz.prog 141 #[.int .u64 h, .int .u8 x] w fun e w' => e = .returned (.int .u64 (stp h x)) ∧ w' = w := by
  have h1 := hx.1; have h2 := hx.2
  go_enter Tryz.func141, Tryz.ntmps141
  go_wp2
  go_ret
  exact ⟨rfl, rfl⟩
end Go.Proofs.YtdkcplndplhblaaGreatDoor.S2

/- sum.More, sum.Back, sum.Sum by their contracts. -/
namespace Go.Proofs.YtdkcplndplhblaaGreatDoor.S2
open Go.RowKit
set_option maxRecDepth 100000

theorem by_getD {l : List Int} (hl : ∀ x ∈ l, By x) {k : Nat} (hk : k < l.length) : By (l.getD k 0) := by
  have : l.getD k 0 = l[k] := by simp [List.getD, hk]
  rw [this]; exact hl _ (List.getElem_mem hk)
theorem take_succ_getD (l : List Int) {k : Nat} (hk : k < l.length) : l.take (k + 1) = l.take k ++ [l.getD k 0] := by
  rw [List.take_succ_eq_append_getElem hk]
  simp [List.getD, hk]
theorem drop_getD (l : List Int) {k : Nat} (hk : k < l.length) : l.drop k = l.getD k 0 :: l.drop (k + 1) := by
  rw [List.drop_eq_getElem_cons hk]
  simp [List.getD, hk]

set_option maxHeartbeats 400000 in
theorem more_pos (h : Int) (b o c n : Nat) (bs : List Int) (w : World) (hn : n ≤ 9223372036854775807) (hl : bs.length = n) (hby : ∀ x ∈ bs, By x)
    (hc : ∀ t, t < n → w.cell? ⟨b, o + t, none⟩ = some (.int .u8 (bs.getD t 0))) :
    Calls Tryz.prog 123 #[.int .u64 h, .slice (some ⟨b, o, none⟩) n c] w fun e w' => e = .returned (.int .u64 (fwd h bs)) ∧ w' = w := by
  have hni : (n : Int) ≤ 9223372036854775807 := by omega
  go_enter Tryz.func123, Tryz.ntmps123
  go_wp2
  go_loopw [0, 9] (fun g i wr => ∃ k : Nat, k ≤ n ∧ i = .int .i64 k ∧ g = .int .u64 (fwd h (bs.take k)) ∧ wr = w) (fun _ i _ => n - (intOf i).toNat)
  case atStart => exact ⟨0, Nat.zero_le _, rfl, by simp [fwd], rfl⟩
  case round =>
    obtain ⟨k, hk, rfl, rfl, hwr⟩ := hrel
    subst wr
    by_cases hlt : k < n
    · have hck := hc k hlt
      have hx := by_getD hby (show k < bs.length by omega)
      have hs : fwd h (bs.take (k + 1)) = stp (fwd h (bs.take k)) (bs.getD k 0) := by
        rw [take_succ_getD bs (by omega), fwd_append]; rfl
      have HS : Hid _ := hs
      clear hs
      clear hc hby
      generalize fwd h (bs.take k) = g at *
      generalize bs.getD k 0 = x at *
      go_wp2_with (go_at_call 141; refine (step_any _ _ _ hx).mono ?_; rintro e w1 ⟨rfl, hw1⟩; subst w1)
      go_roundw
      case rel => exact ⟨k + 1, by omega, by go_num, by rw [HS.out], by trivial⟩
      case measure => simp [intOf]; omega
    · clear hc hby
      go_wp2
      go_ret
      rw [List.take_of_length_le (by omega)]
      exact ⟨rfl, rfl⟩

set_option maxHeartbeats 400000 in
theorem more_zero (h : Int) (ao : Option Addr) (c : Nat) (w : World) :
    Calls Tryz.prog 123 #[.int .u64 h, .slice ao 0 c] w fun e w' => e = .returned (.int .u64 h) ∧ w' = w := by
  go_enter Tryz.func123, Tryz.ntmps123
  go_wp2
  refine wp_loop_rounds 1 ?_
  rw [rounds_succ]
  go_wp2
  go_ret
  exact ⟨rfl, rfl⟩

/-- More, of any number and any list. -/
theorem more_any (h : Int) (ao : Option Addr) (n c : Nat) (bs : List Int) (w : World) (hn : n ≤ 9223372036854775807) (hL : Lies w ao n c bs) (hby : ∀ x ∈ bs, By x) :
    Calls Tryz.prog 123 #[.int .u64 h, .slice ao n c] w fun e w' => e = .returned (.int .u64 (fwd h bs)) ∧ w' = w := by
  by_cases h0 : 0 < n
  · obtain ⟨b, o, rfl, hc⟩ := hL.at h0
    exact more_pos h b o c n bs w hn hL.hlen hby hc
  · obtain rfl : n = 0 := by omega
    obtain rfl := List.eq_nil_of_length_eq_zero hL.hlen
    exact more_zero h ao c w

set_option maxHeartbeats 400000 in
theorem sum_any (ao : Option Addr) (n c : Nat) (bs : List Int) (w : World) (hn : n ≤ 9223372036854775807) (hL : Lies w ao n c bs) (hby : ∀ x ∈ bs, By x) :
    Calls Tryz.prog 95 #[.slice ao n c] w fun e w' => e = .returned (.int .u64 (fwd 14695981039346656037 bs)) ∧ w' = w := by
  go_enter Tryz.func95, Tryz.ntmps95
  go_wp2_with (go_at_call 123; refine (more_any _ ao n c bs _ hn hL hby).mono ?_; rintro e w1 ⟨rfl, hw1⟩; subst w1)
  go_ret
  exact ⟨rfl, rfl⟩
end Go.Proofs.YtdkcplndplhblaaGreatDoor.S2

/- Messages and their fields, as data and in memory. -/
namespace Go.Proofs.YtdkcplndplhblaaGreatDoor
open Go.RowKit
set_option maxRecDepth 100000

/-- An entry of a directory. -/
structure Ent where
  name : ByteArray
  id : Int
  kind : Int
/-- What stands in a field. -/
inductive Val where
  | small (x : Int)
  | great (x : Int)
  | flag (b : Bool)
  | path (s : ByteArray)
  | name (s : ByteArray)
  | content (d : List Int)
  | attr (i k z c : Int)
  | entries (l : List Ent)
/-- A request. -/
structure Req where
  client : Int
  seq : Int
  ack : Int
  epoch : Int
  op : Int
  id : Int
  id2 : Int
  off : Int
  len : Int
  path : ByteArray
  name : ByteArray
  name2 : ByteArray
  data : List Int
/-- A reply. -/
structure Rep where
  client : Int
  seq : Int
  epoch : Int
  op : Int
  status : Int
  ai : Int
  ak : Int
  az : Int
  ac : Int
  data : List Int
  list : List Ent
  more : Bool

/-- The cells of entries. -/
def entCells (l : List Ent) : List Value := l.flatMap fun e => [.string e.name, .int .i64 e.id, .int .i64 e.kind]
theorem entCells_length (l : List Ent) : (entCells l).length = l.length * 3 := by
  induction l with
  | nil => rfl
  | cons e l ih => simp only [entCells, List.flatMap_cons, List.length_append, List.length_cons, List.length_nil] at *; omega

/-- A slice reads as cells, so many to an element. -/
structure CLies (w : World) (ao : Option Addr) (n cap k : Nat) (cs : List Value) : Prop where
  hlen : cs.length = n * k
  hle : n ≤ cap
  hnone : ao = none → n = 0 ∧ cap = 0
  hcells : ∀ ad, ao = some ad → ∀ t u, cs[t]? = some u → w.cell? (ad.add t) = some u

theorem CLies.below {B : Nat} {w w' : World} {ao : Option Addr} {n cap k : Nat} {cs : List Value} (h : CLies w ao n cap k cs) (hb : Below B w w') (hB : w.heap.size ≤ B) : CLies w' ao n cap k cs :=
  ⟨h.hlen, h.hle, h.hnone, fun ad had t u hu => by
    have hc := h.hcells ad had t u hu
    exact (hb.cell (Nat.lt_of_lt_of_le (World.block_lt_of_cell? w _ hc) hB)).trans hc⟩
theorem CLies.grown {w w' : World} {row : Option Nat} {ao : Option Addr} {n cap k : Nat} {cs : List Value} (h : CLies w ao n cap k cs) (hg : w.grownBy w' row) (hne : ∀ ad, ao = some ad → some ad.block ≠ row) : CLies w' ao n cap k cs :=
  ⟨h.hlen, h.hle, h.hnone, fun ad had t u hu => hg.cell (h.hcells ad had t u hu) (by rw [add_block]; exact hne ad had)⟩
theorem CLies.boxed {w : World} {ao : Option Addr} {n cap k : Nat} {cs : List Value} (h : CLies w ao n cap k cs) (o : Obj) : CLies (w.alloc o) ao n cap k cs := h.grown (World.grownBy_alloc w o none) (fun _ _ => by simp)
theorem CLies.nil (w : World) (k : Nat) : CLies w Option.none 0 0 k [] := ⟨by simp, Nat.le_refl _, fun _ => ⟨rfl, rfl⟩, fun _ h => by cases h⟩
theorem CLies.owned {w : World} {base n cap k : Nat} {e : TypeId} {ao : Option Addr} {cs : List Value} (h : w.ownsRow base e k (.slice ao n cap) n cs) : CLies w ao n cap k cs := by
  have hl : cs.length = n * k := h.1
  rcases h.2 with ⟨hv, hn⟩ | ⟨g', cap', cur, hv, _, hb, hnc, _, hsz, hcur⟩
  · cases hv
    simp at hl
    subst hl
    exact CLies.nil w k
  · cases hv
    refine ⟨hl, hnc, (fun h => by cases h), fun ad had t u hu => ?_⟩
    obtain rfl := Option.some.inj had
    rw [Addr.add_lit, Nat.zero_add]
    have ht : t < n * k := by
      have := (List.getElem?_eq_some_iff.1 hu).1
      omega
    rw [← hcur, List.getElem?_take, if_pos ht] at hu
    simp [World.cell?, hb]
    simpa using hu
/-- The address of a list that is not empty, written out. -/
theorem CLies.at {w : World} {ao : Option Addr} {n cap k : Nat} {cs : List Value} (h : CLies w ao n cap k cs) (hp : 0 < n) (hk : 0 < k) :
    ∃ b o, ao = some ⟨b, o, none⟩ ∧ b < w.heap.size ∧ ∀ t (ht : t < cs.length), w.cell? ⟨b, o + t, none⟩ = some cs[t] := by
  cases ao with
  | none => have := (h.hnone rfl).1; omega
  | some ad =>
    have hc : ∀ i (hi : i < cs.length), w.cell? (ad.add i) = some cs[i] := fun i hi => h.hcells ad rfl i _ (by simp [hi])
    obtain ⟨b, off, spot⟩ := ad
    have h0 := hc 0 (by rw [h.hlen]; exact Nat.mul_pos hp hk)
    have hspot : spot = none := by simpa [Addr.add] using World.cell?_spot h0
    subst hspot
    refine ⟨b, off, rfl, ?_, fun t ht => by rw [← Go.WideShapes.add_plain]; exact hc t ht⟩
    have := World.block_lt_of_cell? w _ h0
    simpa [add_block] using this
theorem CLies.new (w : World) (l : List Value) (n k : Nat) (e : TypeId) (hl : l.length = n * k) (C : Array Value) (hC : C = l.toArray) : CLies (w.alloc (.cells C e)) (some ⟨w.heap.size, 0, none⟩) n n k l := by
  subst hC
  refine ⟨hl, Nat.le_refl _, (fun h => by cases h), fun ad had t u hu => ?_⟩
  obtain rfl := Option.some.inj had
  rw [Addr.add_lit, Nat.zero_add, World.cell?_alloc_at _ _ _ _ rfl]
  simpa using hu

/-- An interface value that holds what stands in a field. -/
def VRep (w : World) (v : Value) : Val → Prop
  | .small x => v = .iface 128 (.int .i64 x)
  | .great x => v = .iface 133 (.int .i64 x)
  | .flag b => v = .iface 163 (.bool b)
  | .path s => v = .iface 155 (.string s)
  | .name s => v = .iface 156 (.string s)
  | .content d => ∃ ao n c, v = .iface 157 (.slice ao n c) ∧ Lies w ao n c d
  | .attr i k z c => v = .iface 161 (.agg #[.int .i64 i, .int .i64 k, .int .i64 z, .int .i64 c])
  | .entries l => ∃ ao n c, v = .iface 162 (.slice ao n c) ∧ CLies w ao n c 3 (entCells l) ∧ l.length = n
theorem VRep.below {B : Nat} {w w' : World} {v : Value} {x : Val} (h : VRep w v x) (hb : Below B w w') (hB : w.heap.size ≤ B) : VRep w' v x := by
  cases x with
  | content d => obtain ⟨ao, n, c, rfl, hL⟩ := h; exact ⟨ao, n, c, rfl, hL.below hb hB⟩
  | entries l => obtain ⟨ao, n, c, rfl, hL, hl⟩ := h; exact ⟨ao, n, c, rfl, hL.below hb hB, hl⟩
  | _ => exact h

theorem VRep.iface {w : World} {v : Value} {x : Val} (h : VRep w v x) : ∃ t u, v = .iface t u := by
  cases x with
  | content d => obtain ⟨ao, n, c, rfl, hL⟩ := h; exact ⟨_, _, rfl⟩
  | entries l => obtain ⟨ao, n, c, rfl, hL, hl⟩ := h; exact ⟨_, _, rfl⟩
  | _ => exact ⟨_, _, h⟩
theorem cells_new (W : World) (C : Array Value) (t : TypeId) (k : Nat) (hk : k = W.heap.size) : ∀ j u, C.toList[j]? = some u → (W.alloc (.cells C t)).cell? ((⟨k, 0, none⟩ : Addr).add j) = some u := by
  subst hk
  intro j u hu
  rw [Addr.add_lit, Nat.zero_add, World.cell?_alloc_at _ _ _ _ rfl]
  simpa using hu
theorem cell_later {B : Nat} {w w' : World} {a : Addr} {v : Value} (hb : Below B w w') (h : w.cell? a = some v) (hB : w.heap.size ≤ B) : w'.cell? a = some v := (hb.cell (Nat.lt_of_lt_of_le (World.block_lt_of_cell? w _ h) hB)).trans h

/-- The fields' values lie in memory as said. -/
def FReps (w : World) : List (Int × Value) → List (Int × Val) → Prop
  | [], [] => True
  | f :: fs, g :: gs => f.1 = g.1 ∧ VRep w f.2 g.2 ∧ FReps w fs gs
  | _, _ => False
theorem FReps.below {B : Nat} {w w' : World} (hb : Below B w w') (hB : w.heap.size ≤ B) : ∀ {fs : List (Int × Value)} {gs : List (Int × Val)}, FReps w fs gs → FReps w' fs gs
  | [], [], _ => trivial
  | _ :: _, _ :: _, h => ⟨h.1, h.2.1.below hb hB, FReps.below hb hB h.2.2⟩
  | [], _ :: _, h => h.elim
  | _ :: _, [], h => h.elim
theorem FReps.length {w : World} : ∀ {fs : List (Int × Value)} {gs : List (Int × Val)}, FReps w fs gs → fs.length = gs.length
  | [], [], _ => rfl
  | _ :: _, _ :: _, h => by simp [FReps.length h.2.2]
  | [], _ :: _, h => h.elim
  | _ :: _, [], h => h.elim
theorem FReps.get {w : World} : ∀ {fs : List (Int × Value)} {gs : List (Int × Val)}, FReps w fs gs → ∀ t (h1 : t < fs.length) (h2 : t < gs.length), fs[t].1 = gs[t].1 ∧ VRep w fs[t].2 gs[t].2
  | _ :: _, _ :: _, h, 0, _, _ => ⟨h.1, h.2.1⟩
  | _ :: fs, _ :: gs, h, t + 1, h1, h2 => FReps.get h.2.2 t (by simpa using h1) (by simpa using h2)
  | [], [], _, t, h1, _ => by simp at h1
  | [], _ :: _, h, _, _, _ => h.elim
  | _ :: _, [], h, _, _, _ => h.elim
theorem FReps.app {w : World} : ∀ {fs : List (Int × Value)} {gs : List (Int × Val)} {f : Int × Value} {g : Int × Val}, FReps w fs gs → f.1 = g.1 → VRep w f.2 g.2 → FReps w (fs ++ [f]) (gs ++ [g])
  | [], [], _, _, _, h1, h2 => ⟨h1, h2, trivial⟩
  | _ :: _, _ :: _, _, _, h, h1, h2 => ⟨h.1, h.2.1, FReps.app h.2.2 h1 h2⟩
  | [], _ :: _, _, _, h, _, _ => h.elim
  | _ :: _, [], _, _, h, _, _ => h.elim

/-- The cells of fields. -/
def fCells (fs : List (Int × Value)) : List Value := fs.flatMap fun f => [.int .i64 f.1, f.2]
theorem fCells_length (l : List (Int × Value)) : (fCells l).length = l.length * 2 := by
  induction l with
  | nil => rfl
  | cons e l ih => simp only [fCells, List.flatMap_cons, List.length_append, List.length_cons, List.length_nil] at *; omega
theorem fCells_app (a b : List (Int × Value)) : fCells (a ++ b) = fCells a ++ fCells b := by simp [fCells]
theorem fCells_get : ∀ (l : List (Int × Value)) (t : Nat) (h : t < l.length), (fCells l)[t * 2]? = some (.int .i64 l[t].1) ∧ (fCells l)[t * 2 + 1]? = some l[t].2
  | f :: l, 0, _ => ⟨rfl, rfl⟩
  | f :: l, t + 1, h => by
    have ih := fCells_get l t (by simpa using h)
    have e : fCells (f :: l) = .int .i64 f.1 :: f.2 :: fCells l := rfl
    rw [e, show (t + 1) * 2 = t * 2 + 1 + 1 by omega]
    simpa using ih

/-- A slice of fields. -/
structure FLies (w : World) (ao : Option Addr) (n cap : Nat) (gs : List (Int × Val)) : Prop where
  hlen : gs.length = n
  ex : ∃ fs, CLies w ao n cap 2 (fCells fs) ∧ FReps w fs gs
theorem FLies.below {B : Nat} {w w' : World} {ao : Option Addr} {n cap : Nat} {gs : List (Int × Val)} (h : FLies w ao n cap gs) (hb : Below B w w') (hB : w.heap.size ≤ B) : FLies w' ao n cap gs := by
  obtain ⟨fs, h1, h2⟩ := h.ex
  exact ⟨h.hlen, fs, h1.below hb hB, FReps.below hb hB h2⟩
theorem FLies.at {w : World} {ao : Option Addr} {n cap : Nat} {gs : List (Int × Val)} (h : FLies w ao n cap gs) {t : Nat} (ht : t < gs.length) :
    ∃ b o v, ao = some ⟨b, o, none⟩ ∧ b < w.heap.size ∧ w.cell? ⟨b, o + t * 2, none⟩ = some (.int .i64 gs[t].1) ∧ w.cell? ⟨b, o + t * 2 + 1, none⟩ = some v ∧ VRep w v gs[t].2 := by
  obtain ⟨fs, h1, h2⟩ := h.ex
  have hl := h2.length
  have hg := h.hlen
  have hf : t < fs.length := by omega
  obtain ⟨b, o, rfl, hb, hc⟩ := h1.at (by omega) (by omega)
  obtain ⟨q1, q2⟩ := fCells_get fs t hf
  obtain ⟨e1, e2⟩ := h2.get t hf (by omega)
  have hlen := fCells_length fs
  refine ⟨b, o, fs[t].2, rfl, hb, ?_, ?_, e2⟩
  · rw [hc (t * 2) (by omega), ← e1]
    rw [List.getElem?_eq_getElem (by omega)] at q1
    exact q1
  · rw [Nat.add_assoc, hc (t * 2 + 1) (by omega)]
    rw [List.getElem?_eq_getElem (by omega)] at q2
    exact q2
end Go.Proofs.YtdkcplndplhblaaGreatDoor

/- A book of lists in memory; annexlaw1.mark by its contract. -/
namespace Go.Proofs.YtdkcplndplhblaaGreatDoor
open Go.RowKit
set_option maxRecDepth 100000

/-- What stands at the place j of the i-th list. -/
def markI (i j : Nat) : Int := ((i * 167 + i / 256 * 91 + j * 29 : Nat) : Int) % 256
def marks (i n : Nat) : List Int := (List.range n).map (markI i)
theorem markI_small (i j : Nat) : 0 ≤ markI i j ∧ markI i j ≤ 255 := by unfold markI; omega
theorem marks_length (i n : Nat) : (marks i n).length = n := by simp [marks]
theorem marks_snoc (i n : Nat) : marks i (n + 1) = marks i n ++ [markI i n] := by simp [marks, List.range_succ]

set_option maxHeartbeats 400000 in
theorem mark4_any (i j : Nat) (w : World) (hi : i ≤ 1000000000000) (hj : j ≤ 1000000000000) :
    Calls Tryz.prog 59 #[.int .i64 i, .int .i64 j] w fun e w' => e = .returned (.int .u8 (markI i j)) ∧ w' = w := by
  have h1 : (i : Int) ≤ 1000000000000 := by omega
  have h2 : (j : Int) ≤ 1000000000000 := by omega
  have h3 : (0 : Int) ≤ i := by omega
  have h4 : (0 : Int) ≤ j := by omega
  go_enter Tryz.func59, Tryz.ntmps59
  go_wp2
  go_ret
  refine ⟨?_, rfl⟩
  unfold markI
  have e : ((i * 167 + i / 256 * 91 + j * 29 : Nat) : Int) = (i : Int) * 167 + (i : Int) / 256 * 91 + (j : Int) * 29 := by omega
  rw [e]
  rfl

/-- A list of the book: where it lies, how long it is. -/
structure Bl where
  ao : Option Addr
  len : Nat
  cap : Nat
def Bl.val (e : Bl) : Value := .slice e.ao e.len e.cap

/-- A book in memory: its box, its two rows, its lists, each with its marks; 'B' holds of every block that is the book's. -/
structure Bk (w : World) (base bk : Nat) (vE : Value) (B : Nat → Prop) (es : List Bl) : Prop where
  rows : ∃ vL vN, w.heap[bk]? = some (.cells #[vL, vN, vE] 59) ∧ w.ownsRow base 22 1 vL es.length (es.map Bl.val) ∧ w.ownsRow base 3 1 vN es.length (es.map fun e => Value.int .i64 (e.len : Int)) ∧
    (∀ k, vL.ownBlock = some k → B k) ∧ (∀ k, vN.ownBlock = some k → B k)
  hbk : base ≤ bk ∧ B bk
  lies : ∀ i (h : i < es.length), Lies w (es[i]).ao (es[i]).len (es[i]).cap (marks (i / 3) (es[i]).len)
  mine : ∀ e ∈ es, ∀ ad, e.ao = some ad → B ad.block ∧ base ≤ ad.block ∧ ∃ cs, w.heap[ad.block]? = some (.cells cs 5)
/-- What leaves the book's blocks alone leaves the book. -/
theorem Bk.keep {w w' : World} {vE : Value} {base bk : Nat} {B : Nat → Prop} {es : List Bl} (h : Bk w base bk vE B es) (hk : ∀ k, k < w.heap.size → B k → w'.heap[k]? = w.heap[k]?) : Bk w' base bk vE B es := by
  obtain ⟨⟨vL, vN, hb, hL, hN, hBL, hBN⟩, hbk, hl, hm⟩ := h
  have own : ∀ {e n : Nat} {v : Value} {xs : List Value}, w.ownsRow base e 1 v n xs → (∀ k, v.ownBlock = some k → B k) → w'.ownsRow base e 1 v n xs := by
    intro e n v xs ho hB
    obtain ⟨h1, h2⟩ := ho
    refine ⟨h1, ?_⟩
    rcases h2 with h2 | ⟨g, cap, cur, hv, hg, hh, r⟩
    · exact Or.inl h2
    · refine Or.inr ⟨g, cap, cur, hv, hg, (hk g (lt_of_block hh) (hB g ?_)).trans hh, r⟩
      subst hv; rfl
  refine ⟨⟨vL, vN, (hk bk (lt_of_block hb) hbk.2).trans hb, own hL hBL, own hN hBN, hBL, hBN⟩, hbk, fun i hi => ?_, fun e he ad had => ?_⟩
  · have hli := hl i hi
    refine ⟨hli.hlen, hli.hle, hli.hnone, fun ad had t u hu => ?_⟩
    obtain ⟨hB, _, cs, hcs⟩ := hm _ (List.getElem_mem hi) ad had
    have hc := hli.hcells ad had t u hu
    rw [← hc]
    exact World.cell?_of_block (w := w) (by rw [add_block]; exact hk _ (lt_of_block hcs) hB)
  · obtain ⟨hB, hbs, cs, hcs⟩ := hm e he ad had
    exact ⟨hB, hbs, cs, (hk _ (lt_of_block hcs) hB).trans hcs⟩
theorem Bk.below {w w' : World} {vE : Value} {base bk : Nat} {B : Nat → Prop} {es : List Bl} (h : Bk w base bk vE B es) (hb : Below w.heap.size w w') : Bk w' base bk vE B es := h.keep fun k hk _ => hb.block k hk
end Go.Proofs.YtdkcplndplhblaaGreatDoor
