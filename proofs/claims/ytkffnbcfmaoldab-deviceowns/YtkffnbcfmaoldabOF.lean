/- (*Hoard).apart by its contract. -/
import Derived.Test.YtkffnbcfmaoldabOE
import Derived.BigQuiet
namespace Go.Proofs.Ytkffnbcfmaoldab
open Go.RowKit Go.Maps
set_option maxRecDepth 100000

/-- The mark of a list. -/
def mkb (t : Nat) : Int := ((1 + t % 250 : Nat) : Int)
theorem mkb_bd (t : Nat) : 1 ≤ mkb t ∧ mkb t ≤ 250 := by unfold mkb; omega
/-- Those ahead of t are marked, the others are as they were. -/
structure Mkd (w : World) (es : List It) (t : Nat) : Prop where
  lo : ∀ i e, es[i]? = some e → i < t → w.heap[e.g]? = some (bl (List.replicate e.L.length (mkb i)))
  hi : ∀ i e, es[i]? = some e → t ≤ i → w.heap[e.g]? = some (bl e.L)
theorem It.inj {es : List It} (nd : (es.map It.g).Nodup) {i j : Nat} {e f : It} (hi : es[i]? = some e) (hj : es[j]? = some f) (h : e.g = f.g) : i = j := by
  obtain ⟨a1, a2⟩ := List.getElem?_eq_some_iff.1 hi
  obtain ⟨b1, b2⟩ := List.getElem?_eq_some_iff.1 hj
  rcases Nat.lt_trichotomy i j with c | c | c
  · exact absurd (by rw [List.getElem_map, List.getElem_map, a2, b2, h]) (List.pairwise_iff_getElem.1 nd i j (by simpa using a1) (by simpa using b1) c)
  · exact c
  · exact absurd (by rw [List.getElem_map, List.getElem_map, a2, b2, h]) (List.pairwise_iff_getElem.1 nd j i (by simpa using b1) (by simpa using a1) c)
theorem Mkd.step {w w' : World} {es : List It} {t : Nat} {e : It} (h : Mkd w es t) (nd : (es.map It.g).Nodup) (he : es[t]? = some e) (T : Turns (fun i => i = e.g) w w') (hb : w'.heap[e.g]? = some (bl (List.replicate e.L.length (mkb t)))) : Mkd w' es (t + 1) := by
  refine ⟨fun i f hf hi => ?_, fun i f hf hi => ?_⟩
  · by_cases c : i = t
    · subst c; rw [he] at hf; cases hf; exact hb
    · have := h.lo i f hf (by omega)
      exact (T.block f.g (heap_lt this) (fun q => c (It.inj nd hf he q))).trans this
  · have := h.hi i f hf (by omega)
    exact (T.block f.g (heap_lt this) (fun q => by have := It.inj nd hf he q; omega)).trans this
theorem Mkd.turns {F : Nat → Prop} {w w' : World} {es : List It} {t : Nat} (h : Mkd w es t) (T : Turns F w w') (hF : ∀ e ∈ es, ¬ F e.g) : Mkd w' es t :=
  ⟨fun i e he hi => (T.block e.g (heap_lt (h.lo i e he hi)) (hF e (List.mem_of_getElem? he))).trans (h.lo i e he hi), fun i e he hi => (T.block e.g (heap_lt (h.hi i e he hi)) (hF e (List.mem_of_getElem? he))).trans (h.hi i e he hi)⟩
/-- The hoard's lists as apart reads them. -/
structure Hl (w : World) (base hb N : Nat) (aL : Option Addr) (cL : Nat) (es : List It) : Prop where
  box : w.cell? ⟨hb, 0, none⟩ = some (.slice aL N cL)
  row : w.ownsRow base 29 1 (.slice aL N cL) N (es.map It.val)
theorem Hl.get {w : World} {base hb N : Nat} {aL : Option Addr} {cL : Nat} {es : List It} (h : Hl w base hb N aL cL es) {t : Nat} {e : It} (he : es[t]? = some e) (ht : t < N) : ∃ gL, aL = some ⟨gL, 0, none⟩ ∧ w.cell? ⟨gL, t, none⟩ = some e.val := by
  obtain ⟨g, cap, hv, hc⟩ := own_get h.row ht
  refine ⟨g, ?_, ?_⟩
  · cases hv; rfl
  · rw [hc]; simp [he]
theorem Hl.turns {F : Nat → Prop} {w w' : World} {base hb N : Nat} {aL : Option Addr} {cL : Nat} {es : List It} (h : Hl w base hb N aL cL es) (T : Turns F w w') (h1 : ¬ F hb) (h2 : ∀ b, (Value.slice aL N cL).ownBlock = some b → ¬ F b) : Hl w' base hb N aL cL es :=
  ⟨(World.cell?_of_block (T.block hb (World.block_lt_of_cell? w _ h.box) h1)).trans h.box, own_turns h.row T h2⟩
/-- The lists that go on behind: each in a row of its own. -/
def Fars (w : World) (B : Nat) (es : List It) (fv : List Value) : Prop := ∀ i e v, es[i]? = some e → fv[i]? = some v → w.ownsRow B 5 1 v (e.L.length + 600) ((List.replicate (e.L.length + 600) (mkb i)).map (Value.int .u8))
theorem rep_one (n k : Nat) (m : Int) : (List.replicate n m).map (Value.int .u8) ++ rep k [.int .u8 m] = (List.replicate (n + k) m).map (Value.int .u8) := by
  have : rep k [Value.int .u8 m] = List.replicate k (.int .u8 m) := by
    induction k with
    | zero => rfl
    | succ k ih => rw [rep_succ, ih, List.replicate_succ']
  rw [this, List.map_replicate, List.map_replicate, List.replicate_append_replicate]

set_option maxHeartbeats 4000000 in
theorem apart_h {w : World} {base hb : Nat} {K : Nat → Prop} {vL vW : Value} {es : List It} (h : Hd w base hb K vL vW es) (hbase : base ≤ w.heap.size) (hgb : ∀ e ∈ es, base ≤ e.g) (hes : es.length ≤ 1000) (hen : ∀ e ∈ es, e.L.length ≤ 1000000) :
    Calls Try.prog 25 #[.pointer (some ⟨hb, 0, none⟩)] w fun e w' => e = .returned (.bool true) ∧ Turns (fun i => ∃ e ∈ es, e.g = i) w w' := by
  obtain ⟨i0, hi, hz0, hz1, hz2⟩ := info_parts Try.info5
  obtain ⟨i1, hi', hy0, hy1, hy2⟩ := info_parts Try.info29
  obtain ⟨aL, cL, rfl⟩ := row_slice h.rl
  obtain ⟨N, hN⟩ : ∃ N, es.length = N := ⟨_, rfl⟩
  have hbox := h.box
  have hrl := h.rl
  have hnd := h.nd
  rw [hN] at hbox hrl hes
  have b0 : w.cell? ⟨hb, 0, none⟩ = some (.slice aL N cL) := by simp [World.cell?, hbox]
  have hH : Hl w base hb N aL cL es := ⟨b0, hrl⟩
  have hM : Mkd w es 0 := ⟨fun i e _ q => by omega, fun i e he _ => h.dat e (List.mem_of_getElem? he)⟩
  have n1 : ∀ e ∈ es, e.g ≠ hb := fun e he q => by
    have := h.dat e he
    rw [q, hbox] at this
    exact absurd (Obj.cells.inj (Option.some.inj this)).2.1 (by decide)
  have n2 : ∀ e ∈ es, (Value.slice aL N cL).ownBlock ≠ some e.g := fun e he => own_ne hrl (h.dat e he) (by decide)
  clear h hbox hrl b0
  have hNi : (N : Int) ≤ 1000 := by omega
  have G1 : ¬ ∃ e ∈ es, e.g = hb := fun ⟨e, he, q⟩ => n1 e he q
  have G2 : ∀ b, (Value.slice aL N cL).ownBlock = some b → ¬ ∃ e ∈ es, e.g = b := fun b hb ⟨e, he, q⟩ => n2 e he (by rw [q]; exact hb)
  go_enter Try.func25, Try.ntmps25
  have c0 := hH.box
  go_wp2_with fail
  go_loopw [4] (fun i wr => ∃ t : Nat, t ≤ N ∧ i = .int .i64 t ∧ Turns (fun i => ∃ e ∈ es, e.g = i) w wr ∧ Mkd wr es t) (fun i _ => N - (intOf i).toNat)
  case atStart => exact ⟨0, Nat.zero_le _, rfl, Turns.refl _ _, hM⟩
  case round =>
    clear hM c0
    obtain ⟨t, ht, rfl, hT, hM⟩ := hrel
    have hHr := hH.turns hT G1 G2
    have c0 := hHr.box
    by_cases hlt : t < N
    · have hti : (t : Int) < N := by omega
      obtain ⟨e, he⟩ : ∃ e, es[t]? = some e := ⟨_, List.getElem?_eq_getElem (by omega)⟩
      have hem := List.mem_of_getElem? he
      obtain ⟨gL, haL, l0⟩ := hHr.get he hlt
      subst haL
      have hdat := hM.hi t e he (Nat.le_refl _)
      have hL := hen e hem
      obtain ⟨n, hn⟩ : ∃ n, e.L.length = n := ⟨_, rfl⟩
      have l0 : wr.cell? ⟨gL, t, none⟩ = some (.slice (some ⟨e.g, 0, none⟩) n n) := by rw [l0, ← hn]; rfl
      rw [hn] at hL
      have hm : IntKind.u8.wrap (IntKind.i64.wrap (1 + ((t % 250 : Nat) : Int))) = mkb t := by
        rw [Go.IntWalk.i64_in _ ⟨by omega, by omega⟩]
        unfold mkb
        rw [Go.IntWalk.u8_in _ ⟨by omega, by omega⟩]
        omega
      have hni : (n : Int) ≤ 1000000 := by omega
      rename World => W1
      go_wp2_with fail
      go_loopw [5] (fun j wr => ∃ (q : Nat) (bs : List Int), q ≤ n ∧ j = .int .i64 q ∧ wr.heap[e.g]? = some (bl bs) ∧ bs.length = n ∧ (∀ u, u < q → bs[u]? = some (mkb t)) ∧ Turns (fun i => i = e.g) W1 wr) (fun j _ => n - (intOf j).toNat)
      case atStart => exact ⟨0, e.L, Nat.zero_le _, rfl, hdat, hn, (fun u hu => by omega), Turns.refl _ _⟩
      case round =>
        clear hdat
        obtain ⟨q, bs, hq, rfl, hbs, hbl, hmk, hT2⟩ := hrel
        have hG1 : ¬ hb = e.g := fun r => n1 e hem r.symm
        have hH2 := hHr.turns hT2 hG1 (fun b hb' r => n2 e hem (by rw [← r]; exact hb'))
        have d0 := hH2.box
        have d1 : wr.cell? ⟨gL, t, none⟩ = some (.slice (some ⟨e.g, 0, none⟩) n n) := (World.cell?_of_block (hT2.block gL (World.block_lt_of_cell? W1 _ l0) (fun r => n2 e hem (by rw [← r]; rfl)))).trans l0
        by_cases hlq : q < n
        · have hqi : (q : Int) < n := by omega
          obtain ⟨v, hv⟩ : ∃ v, (bs.map (Value.int .u8)).toArray[q]? = some v := ⟨_, Array.getElem?_eq_getElem (by simp [hbl]; omega)⟩
          have k0 : wr.cell? ⟨e.g, q, none⟩ = some v := by simp only [World.cell?, hbs]; exact hv
          have f0 : wr.frozen? ⟨e.g, q, none⟩ = false := by simp [World.frozen?, hbs]
          have HG2 : Hid ((wr.setCell ⟨e.g, q, none⟩ (.int .u8 (mkb t))).heap[e.g]? = some (bl (bs.set q (mkb t)))) := by
            have r := heap_setCell_same _ e.g q _ _ (.int .u8 (mkb t)) hbs
            refine Eq.trans r ?_
            simp
          have HT2 : Hid (Turns (fun i => i = e.g) W1 (wr.setCell ⟨e.g, q, none⟩ (.int .u8 (mkb t)))) := hT2.trans (Turns.cell wr e.g q _) (fun _ _ h => h)
          have HBS : Hid (∀ u, u < q + 1 → (bs.set q (mkb t))[u]? = some (mkb t)) := fun u hu => by
            rw [List.getElem?_set]
            by_cases r : q = u
            · rw [if_pos r, if_pos (by omega)]
            · rw [if_neg r]; exact hmk u (by omega)
          clear hbs hv hT2 hmk hH2
          go_wp2_with fail
          go_roundw
          case rel => exact ⟨q + 1, bs.set q (mkb t), by omega, by go_num, HG2.out, by simp [hbl], HBS.out, HT2.out⟩
          case measure => simp [intOf]; omega
        · obtain rfl : q = n := by omega
          obtain rfl : bs = List.replicate q (mkb t) := by
            refine List.ext_getElem? (fun u => ?_)
            by_cases hu : u < q
            · rw [hmk u hu, List.getElem?_replicate, if_pos hu]
            · rw [List.getElem?_eq_none (by omega), List.getElem?_eq_none (by simp; omega)]
          have hM2 := hM.step hnd he hT2 (by rw [hn]; exact hbs)
          have hTT := hT.trans hT2 (fun i _ r => ⟨e, hem, r.symm⟩)
          go_wp2_with fail
          go_roundw
          case rel => exact ⟨t + 1, by omega, by go_num, hTT, hM2⟩
          case measure => simp [intOf]; omega
    · have hti : ¬ (t : Int) < N := by omega
      have htN : t = N := by omega
      rw [htN] at hM
      rename World => W2
      have hTW := hT
      have hnF : ∀ e ∈ es, ¬ (fun _ : Nat => False) e.g := fun _ _ => id
      clear hT hH
      go_wp2_with fail
      go_loopw [3, 6] (fun far i wr => ∃ (q : Nat) (fv : List Value), q ≤ N ∧ i = .int .i64 q ∧ wr.ownsRow W2.heap.size 29 1 far q fv ∧ Fars wr W2.heap.size es fv ∧ Below W2.heap.size W2 wr) (fun _ i _ => N - (intOf i).toNat)
      case atStart => exact ⟨0, [], Nat.zero_le _, rfl, ⟨rfl, Or.inl ⟨rfl, rfl⟩⟩, (fun i e v _ hv => by simp at hv), Below.refl _ _⟩
      case round =>
        clear c0
        obtain ⟨q, fv, hq, rfl, hfar, hfs, hB⟩ := hrel
        have hH3 := hHr.turns (Below.turns hB (fun _ => False)) id (fun _ _ => id)
        have hM3 := hM.turns (Below.turns hB (fun _ => False)) hnF
        have c0 := hH3.box
        by_cases hlq : q < N
        · have hqi : (q : Int) < N := by omega
          obtain ⟨e, he⟩ : ∃ e, es[q]? = some e := ⟨_, List.getElem?_eq_getElem (by omega)⟩
          have hem := List.mem_of_getElem? he
          obtain ⟨gL, haL, lv⟩ := hH3.get he hlq
          subst haL
          have hdat := hM3.lo q e he hlq
          have hL := hen e hem
          have hge := hgb e hem
          obtain ⟨n, hn⟩ : ∃ n, e.L.length = n := ⟨_, rfl⟩
          have l0 : wr.cell? ⟨gL, q, none⟩ = some (.slice (some ⟨e.g, 0, none⟩) n n) := by rw [lv, ← hn]; rfl
          clear lv
          rw [hn] at hL hdat
          have hm : IntKind.u8.wrap (IntKind.i64.wrap (1 + ((q % 250 : Nat) : Int))) = mkb q := by
            rw [Go.IntWalk.i64_in _ ⟨by omega, by omega⟩]
            unfold mkb
            rw [Go.IntWalk.u8_in _ ⟨by omega, by omega⟩]
            omega
          have hni : (n : Int) ≤ 1000000 := by omega
          rename World => W3
          have hst : Far W3 W3 base 5 1 n 0 (.slice (some ⟨e.g, 0, none⟩) n n) e.g ((List.replicate n (mkb q)).map (Value.int .u8)) [.int .u8 (mkb q)] := Far.start _ (own_full hdat (by simp) hge (by unfold maxLen; omega))
          have hsz := hB.size
          have hbs2 : base ≤ W3.heap.size := by
            have := hTW.size
            omega
          go_wp2_with fail
          go_loopw [7, 8] (fun l k wr => ∃ p : Nat, p ≤ 600 ∧ k = .int .i64 p ∧ Far W3 wr base 5 1 n p l e.g ((List.replicate n (mkb q)).map (Value.int .u8)) [.int .u8 (mkb q)]) (fun _ k _ => 600 - (intOf k).toNat)
          case atStart => exact ⟨0, Nat.zero_le _, rfl, hst⟩
          case round =>
            clear hst
            obtain ⟨p, hp, rfl, hF⟩ := hrel
            have hown := hF.own
            have hFs := hF.blw.size
            by_cases hlp : p < 600
            · have hpi : (p : Int) < 600 := by omega
              obtain ⟨al, cl, rfl⟩ := row_slice hown
              go_wp2_with (at_builtin; refine wpList_append_own_split _ rfl _ _ 29 rfl base 5 i0 (.int .u8 0) 1 1 Try.underlying29 hi hz0 hz1 hz2 rfl (by decide) _ _ _ rfl (hown.alloc _) ⟨wr.heap.size, 0, none⟩ 1 1 [.int .u8 (mkb q)] (by decide) rfl rfl (cell_one_new _ _ _) (by intro u hu; simp at hu; subst hu; rfl) (by unfold maxLen; omega) (by omega) (by simp; omega) ?_; intro v3 w3 hv3 hl3)
              have hF3 := hF.step hv3 hl3
              go_roundw
              case rel => exact ⟨p + 1, by omega, by go_num, hF3⟩
              case measure => simp [intOf]; omega
            · have hpi : ¬ (p : Int) < 600 := by omega
              obtain rfl : p = 600 := by omega
              have hdn := ownsRow_mono (hF.done (by omega)) hsz
              rw [rep_one] at hdn
              obtain ⟨al, cl, rfl⟩ := row_slice hown
              have hfar4 := own_turns hfar (Below.turns hF.blw (fun _ => False)) (fun _ _ => id)
              obtain ⟨af, cf, rfl⟩ := row_slice hfar4
              have hB4 := hB.trans (hF.blw.mono hsz)
              have hfs4 : Fars wr W2.heap.size es fv := fun i e v h1 h2 => own_turns (hfs i e v h1 h2) (Below.turns hF.blw (fun _ => False)) (fun _ _ => id)
              have hfl := hfar4.1
              clear hfar hfs hF hown hB
              go_wp2_with (at_builtin; refine wpList_append_own_at _ rfl _ _ 27 rfl W2.heap.size 29 i1 (.slice none 0 0) 1 24 Try.underlying27 hi' hy0 hy1 hy2 rfl (by decide) _ q _ rfl (hfar4.alloc _) ⟨wr.heap.size, 0, none⟩ 1 1 [.slice al (n + 600) cl] rfl rfl (cell_one_new _ _ _) (by intro u hu; simp at hu; subst hu; rfl) (by unfold maxLen; omega) (by omega) (by simp; omega) ?_; intro vB wB hoB hgB hnB hatB)
              have tB : Turns (fun i => (Value.slice af q cf).ownBlock = some i) wr wB := (Turns.alloc _ wr _).trans (Turns.grown (F := fun i => (Value.slice af q cf).ownBlock = some i) hgB (fun b hb => hb)) (fun _ _ h => h)
              have hne : ∀ k v xs, wr.ownsRow W2.heap.size 5 1 v k xs → ∀ b, v.ownBlock = some b → ¬ (Value.slice af q cf).ownBlock = some b := fun k v xs ho b hb r => by
                rcases hfar4.2 with ⟨r1, _⟩ | ⟨g', cap, cur, r1, _, hh, _⟩
                · rw [r1] at r; cases r
                · rw [r1] at r; cases r; exact own_ne ho hh (by decide) hb
              have hfsB : Fars wB W2.heap.size es (fv ++ [.slice al (n + 600) cl]) := fun i f v h1 h2 => by
                rw [List.getElem?_append] at h2
                by_cases hil : i < fv.length
                · rw [if_pos hil] at h2
                  exact own_turns (hfs4 i f v h1 h2) tB (hne _ _ _ (hfs4 i f v h1 h2))
                · rw [if_neg hil] at h2
                  have hi0 : i - fv.length = 0 := by
                    have := (List.getElem?_eq_some_iff.1 h2).1
                    simp at this; omega
                  rw [hi0] at h2
                  have hiq : i = q := by omega
                  subst hiq
                  rw [he] at h1
                  cases h1
                  cases h2
                  rw [hn]
                  exact own_turns hdn tB (hne _ _ _ hdn)
              have hBB : Below W2.heap.size W2 wB := hB4.trans (tB.below (fun i r => (hfar4.lt i r).1) hB4.size)
              go_roundw
              case rel => exact ⟨q + 1, _, by omega, by go_num, hoB, hfsB, hBB⟩
              case measure => simp [intOf]; omega
        · have hqi : ¬ (q : Int) < N := by omega
          obtain rfl : q = N := by omega
          have hfl := hfar.1
          obtain ⟨af, cf, rfl⟩ := row_slice hfar
          rename World => W3
          have hTT : Turns (fun i => ∃ e ∈ es, e.g = i) w W3 := hTW.trans (Below.turns hB (fun _ => False)) (fun _ _ h => h.elim)
          clear hB hM hHr hTW
          go_wp2_with fail
          go_loopw [9] (fun i wr => ∃ t : Nat, t ≤ q ∧ i = .int .i64 t ∧ Below W3.heap.size W3 wr) (fun i _ => q - (intOf i).toNat)
          case atStart => exact ⟨0, Nat.zero_le _, rfl, Below.refl _ _⟩
          case round =>
            obtain ⟨t, ht, rfl, hB⟩ := hrel
            have c1 := cell_later hB c0
            by_cases hlt : t < q
            · have hti : (t : Int) < q := by omega
              obtain ⟨e, he⟩ : ∃ e, es[t]? = some e := ⟨_, List.getElem?_eq_getElem (by omega)⟩
              have hem := List.mem_of_getElem? he
              obtain ⟨gL, haL, lv⟩ := hH3.get he hlt
              subst haL
              have hdat := hM3.lo t e he hlt
              have hL := hen e hem
              obtain ⟨n, hn⟩ : ∃ n, e.L.length = n := ⟨_, rfl⟩
              have l0 : W3.cell? ⟨gL, t, none⟩ = some (.slice (some ⟨e.g, 0, none⟩) n n) := by rw [lv, ← hn]; rfl
              clear lv
              rw [hn] at hL hdat
              have l1 := cell_later hB l0
              obtain ⟨gF, cF, haF, hf0⟩ := own_get hfar hlt
              obtain ⟨v, hv⟩ : ∃ v, fv[t]? = some v := ⟨_, List.getElem?_eq_getElem (by omega)⟩
              have hro := hfs t e v he hv
              rw [hn] at hro
              rw [hv] at hf0
              obtain ⟨av, cv, rfl⟩ := row_slice hro
              obtain ⟨gv, cv', hav, _⟩ := own_get hro (i := 0) (by omega)
              have hav : av = some ⟨gv, 0, none⟩ ∧ cv = cv' := by cases hav; exact ⟨rfl, rfl⟩
              obtain ⟨rfl, rfl⟩ := hav
              have haF' : af = some ⟨gF, 0, none⟩ := by cases haF; rfl
              subst haF'
              have f1 := cell_later hB hf0
              have hm : IntKind.u8.wrap (IntKind.i64.wrap (1 + ((t % 250 : Nat) : Int))) = mkb t := by
                rw [Go.IntWalk.i64_in _ ⟨by omega, by omega⟩]
                unfold mkb
                rw [Go.IntWalk.u8_in _ ⟨by omega, by omega⟩]
                omega
              have hni : (n : Int) ≤ 1000000 := by omega
              have rdF : ∀ u, u < n + 600 → W3.cell? ⟨gv, u, none⟩ = some (.int .u8 (mkb t)) := fun u hu => by
                obtain ⟨g', c', hv', hc⟩ := own_get hro hu
                cases hv'
                rw [hc, List.getElem?_map, List.getElem?_replicate, if_pos hu]
                rfl
              have rdL : ∀ u, u < n → W3.cell? ⟨e.g, u, none⟩ = some (.int .u8 (mkb t)) := fun u hu => by
                simp only [World.cell?, hdat]
                simp [hu]
              clear hro hdat hfs
              rename World => W4
              go_wp2_with fail
              go_quiet (fail)
              go_wp2_with fail
              go_loopw [10] (fun j wr => ∃ u : Nat, u ≤ n + 600 ∧ j = .int .i64 u ∧ Below W3.heap.size W3 wr) (fun j _ => n + 600 - (intOf j).toNat)
              case atStart => exact ⟨0, Nat.zero_le _, rfl, by first | exact hB | exact Below.drewN hB _⟩
              case round =>
                clear c1 l1 f1
                obtain ⟨u, hu, rfl, hB5⟩ := hrel
                have c2 := cell_later hB5 c0
                have l2 := cell_later hB5 l0
                have f2 := cell_later hB5 hf0
                by_cases hlu : u < n + 600
                · have hui : (u : Int) < n + 600 := by omega
                  have r1 := cell_later hB5 (rdF u hlu)
                  by_cases hun : u < n
                  · have huni : (u : Int) < n := by omega
                    have r2 := cell_later hB5 (rdL u hun)
                    clear rdF rdL c0 l0 hf0
                    go_wp2_with fail
                    refine ⟨⟨u + 1, by omega, by simp, hB5⟩, by simp [intOf]; omega⟩
                  · have huni : ¬ (u : Int) < n := by omega
                    clear rdF rdL c0 l0 hf0
                    go_wp2_with fail
                    refine ⟨⟨u + 1, by omega, by simp, hB5⟩, by simp [intOf]; omega⟩
                · have hui : ¬ (u : Int) < n + 600 := by omega
                  go_wp2_with fail
                  go_roundw
                  case rel => exact ⟨t + 1, by omega, by go_num, hB5⟩
                  case measure => simp [intOf]; omega
            · have hti : ¬ (t : Int) < q := by omega
              go_wp2
              go_ret
              exact ⟨rfl, hTT.trans (Below.turns hB (fun _ => False)) (fun _ _ h => h.elim)⟩
end Go.Proofs.Ytkffnbcfmaoldab
