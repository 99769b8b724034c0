/- Bytes in hex digits: the program's hexText, the document's Hex. -/
import Derived.Test.YtjkmdacgiebbfaaDoorW2
import Derived.Laws.MakeOwn
namespace Go.Proofs.YtjkmdacgiebbfaaDoor
open Go.RowKit Go.Sort
set_option maxRecDepth 100000

def hexOf (b : UInt8) : By := [digB (b >>> 4), digB (b &&& 15)]
def hexT (l : By) : By := if l = [] then [34, 34] else l.flatMap hexOf
theorem digs_bare (b : UInt8) : bareB (digB (b >>> 4)) = true ∧ bareB (digB (b &&& 15)) = true := u8_all (p := fun b => bareB (digB (b >>> 4)) = true ∧ bareB (digB (b &&& 15)) = true) (by decide +kernel) b
theorem hex_bare (l : By) : (l.flatMap hexOf).all bareB = true := by
  induction l with
  | nil => rfl
  | cons b l ih =>
    rw [List.flatMap_cons, List.all_append, ih, Bool.and_true]
    have := digs_bare b
    simp [hexOf, this.1, this.2]
theorem hex_len (l : By) : (l.flatMap hexOf).length = 2 * l.length := by
  induction l with
  | nil => rfl
  | cons b l ih => rw [List.flatMap_cons, List.length_append, ih, List.length_cons]; simp [hexOf]; omega
theorem text_hex (l : By) : textT (l.flatMap hexOf) = hexT l := by
  unfold hexT
  cases l with
  | nil => rfl
  | cons b l =>
    have hb : bareW ((b :: l).flatMap hexOf) = true := by
      unfold bareW
      rw [hex_bare, Bool.and_true, List.flatMap_cons]
      rfl
    unfold textT
    rw [if_pos hb, if_neg (by simp)]

/-- A list of bytes. -/
structure BAt (w : World) (v : Value) (l : By) : Prop where
  form : ∃ ao c, v = .slice ao l.length c ∧ (∀ ad, ao = some ad → ∀ j (h : j < l.length), w.cell? (ad.add j) = some (ub l[j])) ∧ (ao = none → l = [])
theorem BAt.below {w w' : World} {v : Value} {l : By} (h : BAt w v l) (hb : Below w.heap.size w w') : BAt w' v l := by
  obtain ⟨ao, c, rfl, h1, h2⟩ := h.form
  refine ⟨ao, c, rfl, fun ad had j hj => ?_, h2⟩
  have hc := h1 ad had j hj
  exact (hb.cell (World.block_lt_of_cell? w _ hc)).trans hc

theorem BAt.cell {w : World} {ad : Addr} {n c : Nat} {l : By} (h : BAt w (.slice (some ad) n c) l) (q : Nat) (hq : q < l.length) : w.cell? (ad.add q) = some (ub l[q]) := by
  obtain ⟨ao, c', he, h1, _⟩ := h.form
  cases he
  exact h1 ad rfl q hq
theorem hex_step (l : By) (q : Nat) (h : q < l.length) : (l.take (q + 1)).flatMap hexOf = (l.take q).flatMap hexOf ++ hexOf l[q] := by
  rw [List.take_add_one, List.getElem?_eq_getElem h, List.flatMap_append]
  simp
theorem own_made (w : World) (c : Nat) (hc : c ≤ 140737488355328) : (w.alloc (.cells (madeCells (Value.int IntKind.u8 0).cells (c * 1)) 5)).ownsRow w.heap.size 5 1 (.slice (some ⟨w.heap.size, 0, none⟩) 0 c) 0 (([] : By).map ub) :=
  ⟨rfl, .inr ⟨_, _, _, rfl, Nat.le_refl _, heap_alloc_new _ _, Nat.zero_le _, by simp only [maxLen]; omega, by rw [size_madeCells], by simp⟩⟩

set_option maxHeartbeats 2000000 in
theorem hexText_any (v : Value) (l : By) (w : World) (hA : BAt w v l) (hl : l.length ≤ 10000000000000) :
    Calls Tryd.prog 10 #[v] w fun e w' => e = .returned (.string (tx (hexT l))) ∧ Below w.heap.size w w' := by
  obtain ⟨ao, c, rfl, hc, hnone⟩ := hA.form
  obtain ⟨i0, hi, hz0, hz1, hz2⟩ := info_parts Tryd.info5
  have hli : (l.length : Int) ≤ 10000000000000 := by omega
  have hmk := run_make w 23 5 i0 (.int .u8 0) Tryd.underlying23 hi hz0 .i64 .i64 0 (2 * (l.length : Int)) (by omega) (by omega) (by rw [hz2]; omega) (by omega)
  rw [hz1, show (2 * (l.length : Int)).toNat = 2 * l.length by omega] at hmk
  have HO0 := Lib.hid (own_made w (2 * l.length) (by omega))
  have HA := Lib.hid hA
  clear hA hc
  have hT := Text_any (tx (l.flatMap hexOf))
  rw [bs_tx, text_hex] at hT
  have HT := Lib.hid hT
  clear hT
  go_enter Tryd.func10, Tryd.ntmps10
  go_wp2_with fail
  go_loopw [3, 5, 12] (fun r _ k wr => ∃ q n : Nat, q ≤ l.length ∧ k = .int .i64 q ∧ wr.ownsRow w.heap.size 5 1 r n (((l.take q).flatMap hexOf).map ub) ∧ Below w.heap.size w wr) (fun _ _ k _ => l.length - (intOf k).toNat)
  case atStart => exact ⟨0, 0, Nat.zero_le _, rfl, by have := HO0.out; rw [Nat.mul_one] at this; exact this, (Below.refl _ w).alloc (Nat.le_refl _) _⟩
  case round =>
    obtain ⟨q, n, hq, rfl, hO, hB⟩ := hrel
    obtain ⟨ra, rc, rfl⟩ := own_slice hO
    have hnl : n = ((l.take q).flatMap hexOf).length := by have := hO.1; rw [List.length_map] at this; omega
    rw [hex_len, List.length_take] at hnl
    have hnb : n ≤ 2 * q := by omega
    clear hnl
    have HB := Lib.hid hB
    have hws : w.heap.size ≤ wr.heap.size := hB.size
    have HA2 := Lib.hid (HA.out.below hB)
    clear HO0 HA hB hmk
    by_cases hlt : q < l.length
    · obtain ⟨ao', c', he, hc, _⟩ := HA2.out.form
      cases he
      cases ao with
      | none => have := hnone rfl; subst this; simp at hlt
      | some ad =>
        have hcell := hc ad rfl q hlt
        have HS := Lib.hid (hex_step l q hlt)
        obtain ⟨b, hbq⟩ : ∃ b, l[q] = b := ⟨_, rfl⟩
        rw [hbq] at hcell HS
        clear hc hbq
        obtain ⟨e1, p1⟩ := nib_hi b
        have q1 : 0 ≤ (b.toNat : Int) / 16 := by omega
        have q2 : (b.toNat : Int) / 16 < 16 := by omega
        obtain ⟨e2, p2⟩ := nib_lo b
        have q3 : 0 ≤ bits BinOp.and IntKind.u8 (b.toNat : Int) 15 := by omega
        have q4 : bits BinOp.and IntKind.u8 (b.toNat : Int) 15 < 16 := by omega
        have d1 : ∀ h : ((b.toNat : Int) / 16).toNat < hexS.size, (hexS[((b.toNat : Int) / 16).toNat]'h).toNat = (digB (b >>> 4)).toNat := fun h => by
          have e : ((b.toNat : Int) / 16).toNat = (b >>> 4).toNat := by omega
          rw [hexS_at _ (by omega), of_nib (b >>> 4) _ e.symm]
        have d2 : ∀ h : (bits BinOp.and IntKind.u8 (b.toNat : Int) 15).toNat < hexS.size, (hexS[(bits BinOp.and IntKind.u8 (b.toNat : Int) 15).toNat]'h).toNat = (digB (b &&& 15)).toNat := fun h => by
          have e : (bits BinOp.and IntKind.u8 (b.toNat : Int) 15).toNat = (b &&& 15).toNat := by omega
          rw [hexS_at _ (by omega), of_nib (b &&& 15) _ e.symm]
        have hv : ∀ (h : ((b.toNat : Int) / 16).toNat < hexS.size) (h' : (bits BinOp.and IntKind.u8 (b.toNat : Int) 15).toNat < hexS.size), [Value.int .u8 (((hexS[((b.toNat : Int) / 16).toNat]'h).toNat : Nat) : Int), Value.int .u8 (((hexS[(bits BinOp.and IntKind.u8 (b.toNat : Int) 15).toNat]'h').toNat : Nat) : Int)] = (hexOf b).map ub := fun h h' => by
          rw [d1 h, d2 h']; rfl
        clear e1 p1 e2 p2 d1 d2
        have HV := Lib.hid hv
        clear hv
        go_wp2_with fail
        go_region_law (first
          | (refine step_append_lies _ rfl (.tmp 16) (.tmp 23) 23 rfl w.heap.size 5 i0 (.int .u8 0) 1 1 Tryd.underlying23 hi hz0 hz1 hz2 rfl (by decide) _ n _ rfl (hO.drew.alloc _) ⟨wr.heap.size, 0, none⟩ 2 2 [_, _] rfl rfl (World.news_of_block (heap_alloc_new _ _)) (by intro u hu; simp at hu; rcases hu with rfl | rfl <;> rfl) (by decide) (by unfold maxLen; omega) (by omega) (by simp; omega) _ rfl ?_; intro gC cC wC hoC hgC hatC hltC)
          | fail)
        all_goals
          go_wp2_with fail
          go_roundw
          case rel =>
            refine ⟨q + 1, n + 2, by omega, by go_num, ?_, HB.out.trans (grown_B hO hws (((Below.refl _ wr).drew).alloc (Nat.le_refl _) _) hgC)⟩
            rw [HS.out, List.map_append, ← HV.out]
            exact hoC
          case measure => simp [intOf]; omega
    · obtain rfl : q = l.length := by omega
      have hO2 := hO
      rw [List.take_length] at hO2
      have hcv2 := conv_row hO2
      have hT := HT.out wr (by rw [size_tx, hex_len]; omega)
      clear hO2
      go_wp2_with fail
      refine hT.mono ?_
      rintro e w4 ⟨rfl, hb4⟩
      clear hT
      have HB4 := Lib.hid hb4
      clear hb4
      go_wp2_with fail
      go_ret
      exact ⟨rfl, HB.out.trans (HB4.out.mono hws)⟩

theorem ownM_nil (w : World) (B : Nat) : OwnM w B (.slice none 0 0) 0 (([] : By).map ub) := ⟨rfl, .inl ⟨rfl, rfl⟩⟩
set_option maxHeartbeats 2000000 in
theorem rhex_any (v : Value) (l : By) (w : World) (hA : BAt w v l) (hl : l.length ≤ 10000000000000) :
    Calls Tryd.prog 15 #[v] w fun e w' => e = .returned (.string (tx (hexT l))) ∧ Below w.heap.size w w' := by
  obtain ⟨ao, c, rfl, hc, hnone⟩ := hA.form
  obtain ⟨i0, hi, hz0, hz1, hz2⟩ := info_parts Tryd.info5
  have hli : (l.length : Int) ≤ 10000000000000 := by omega
  have HA := Lib.hid hA
  clear hA hc
  by_cases h0 : l = []
  · subst h0
    go_enter Tryd.func15, Tryd.ntmps15
    go_wp2_with fail
    go_ret
    exact ⟨rfl, Below.refl _ w⟩
  · have hpos : 0 < l.length := List.length_pos_iff.2 h0
    have hT : hexT l = l.flatMap hexOf := if_neg h0
    rw [hT]
    clear hT h0
    have hz : ((l.length : Int) == 0) = false := by rw [beq_eq_false_iff_ne]; omega
    go_enter Tryd.func15, Tryd.ntmps15
    go_wp2_with fail
    go_loopw [3, 4] (fun r k wr => ∃ q n : Nat, q ≤ l.length ∧ k = .int .i64 q ∧ OwnM wr w.heap.size r n (((l.take q).flatMap hexOf).map ub) ∧ Below w.heap.size w wr) (fun _ k _ => l.length - (intOf k).toNat)
    case atStart => exact ⟨0, 0, Nat.zero_le _, rfl, ownM_nil _ _, Below.refl _ w⟩
    case round =>
      obtain ⟨q, n, hq, rfl, hO, hB⟩ := hrel
      obtain ⟨ra, rc, rfl⟩ := hO.slice
      have hnl : n = ((l.take q).flatMap hexOf).length := by have := hO.1; rw [List.length_map] at this; omega
      rw [hex_len, List.length_take] at hnl
      have hnb : n ≤ 2 * q := by omega
      clear hnl
      have HO := Lib.hid hO
      have HB := Lib.hid hB
      have hws : w.heap.size ≤ wr.heap.size := hB.size
      have HA2 := Lib.hid (HA.out.below hB)
      clear hB hO
      by_cases hlt : q < l.length
      · cases ao with
        | none => have := hnone rfl; subst this; simp at hlt
        | some ad =>
          have hcell := HA2.out.cell q hlt
          have HS := Lib.hid (hex_step l q hlt)
          obtain ⟨b, hbq⟩ : ∃ b, l[q] = b := ⟨_, rfl⟩
          rw [hbq] at hcell HS
          obtain ⟨e1, p1⟩ := nib_div b
          have q1 : 0 ≤ (b.toNat : Int) / 16 := by omega
          have q2 : (b.toNat : Int) / 16 < 16 := by omega
          obtain ⟨e2, p2⟩ := nib_mod b
          have q3 : 0 ≤ (b.toNat : Int) % 16 := by omega
          have q4 : (b.toNat : Int) % 16 < 16 := by omega
          have d1 : ∀ h : b.toNat / 16 < hexS.size, (hexS[b.toNat / 16]'h).toNat = (digB (b >>> 4)).toNat := fun h => by
            have e : b.toNat / 16 = (b >>> 4).toNat := by omega
            rw [hexS_at _ (by omega), of_nib (b >>> 4) _ e.symm]
          have d2 : ∀ h : b.toNat % 16 < hexS.size, (hexS[b.toNat % 16]'h).toNat = (digB (b &&& 15)).toNat := fun h => by
            have e : b.toNat % 16 = (b &&& 15).toNat := by omega
            rw [hexS_at _ (by omega), of_nib (b &&& 15) _ e.symm]
          have v1 : ∀ (h : b.toNat / 16 < hexS.size), [Value.int .u8 (((hexS[b.toNat / 16]'h).toNat : Nat) : Int)] = [digB (b >>> 4)].map ub := fun h => by
            rw [d1 h]; rfl
          have v2 : ∀ (h : b.toNat % 16 < hexS.size), [Value.int .u8 (((hexS[b.toNat % 16]'h).toNat : Nat) : Int)] = [digB (b &&& 15)].map ub := fun h => by
            rw [d2 h]; rfl
          clear e1 p1 e2 p2 d1 d2
          have V1 := Lib.hid v1
          have V2 := Lib.hid v2
          clear v1 v2
          go_wp2_with (first
            | (at_builtin; refine wpList_append_M rfl (.tmp 14) (.tmp 21) 23 rfl w.heap.size i0 Tryd.underlying23 hi hz0 hz1 hz2 (.slice ra n rc) n _ rfl (HO.out.alloc _) ⟨wr.heap.size, 0, none⟩ 1 1 ([digB (b >>> 4)].map ub) rfl rfl (by rw [← V1.out (show b.toNat / 16 < 16 by omega)]; exact World.news_of_block (heap_alloc_new _ _)) (one_ub _) (by omega) (by simp; omega) ?_; intro x2 w2 hA2; have hb2 := hA2.below (HO.out.alloc _) ((Below.refl w.heap.size wr).alloc hws _) (by simp; omega); have HO2 := Lib.hid hA2.own; obtain ⟨xa, xc, rfl⟩ := hA2.own.slice; have hcell2 := hbq ▸ (HA.out.below (HB.out.trans hb2)).cell q hlt; have hs2 : w.heap.size ≤ w2.heap.size := Nat.le_trans hws hb2.size; have HB2 := Lib.hid (HB.out.trans hb2); clear hA2 hb2)
            | (at_builtin; refine wpList_append_M rfl (.tmp 23) (.tmp 30) 23 rfl w.heap.size i0 Tryd.underlying23 hi hz0 hz1 hz2 (.slice xa (n + 1) xc) (n + 1) _ rfl (HO2.out.alloc _) ⟨w2.heap.size, 0, none⟩ 1 1 ([digB (b &&& 15)].map ub) rfl rfl (by rw [← V2.out (show b.toNat % 16 < 16 by omega)]; exact World.news_of_block (heap_alloc_new _ _)) (one_ub _) (by omega) (by simp; omega) ?_; intro x3 w3 hA3; have hb3 := hA3.below (HO2.out.alloc _) ((Below.refl w.heap.size w2).alloc hs2 _) (by simp; omega); have HO3 := Lib.hid hA3.own; have HB3 := Lib.hid (HB2.out.trans hb3); clear hA3 hb3)
            | fail)
          go_roundw
          case rel =>
            refine ⟨q + 1, n + 1 + 1, by omega, by go_num, ?_, HB3.out⟩
            have := HO3.out
            rw [HS.out, List.map_append]
            rw [List.append_assoc] at this
            exact this
          case measure => simp [intOf]; omega
      · obtain rfl : q = l.length := by omega
        have hO2 := HO.out
        rw [List.take_length] at hO2
        have hcv2 := conv_M hO2
        clear hO2
        go_wp2_with fail
        go_ret
        exact ⟨rfl, HB.out⟩
end Go.Proofs.YtjkmdacgiebbfaaDoor
