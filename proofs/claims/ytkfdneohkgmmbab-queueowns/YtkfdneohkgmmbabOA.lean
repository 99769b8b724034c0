/- apart, by its contract: lists that fill their blocks are written over and go on behind. (Written by mkOA.py out of dev-src's OE, OF.) -/
import Derived.Test.YtkfdneohkgmmbabKP
import Derived.Maps.AppendAt
namespace Go.Proofs.Ytkfdneohkgmmbab
open Go.RowKit
set_option maxRecDepth 100000

/-- A list that was handed out: its block, its ints; the copy of what it was. -/
structure Ow where
  g : Nat
  L : List Int
  u : Value
def Ow.val (x : Ow) : Value := .slice (some ⟨x.g, 0, none⟩) x.L.length x.L.length
/-- A row of ints that fills its block. -/
abbrev il (bs : List Int) : Obj := .cells (bs.map (Value.int .i64)).toArray 3 (0, 0)
theorem own_get {w : World} {base e n : Nat} {v : Value} {xs : List Value} (h : w.ownsRow base e 1 v n xs) {i : Nat} (hi : i < n) : ∃ g cap, v = .slice (some ⟨g, 0, none⟩) n cap ∧ w.cell? ⟨g, i, none⟩ = xs[i]? := by
  rcases own_shape h with ⟨_, q⟩ | ⟨g, cap, rfl, _⟩
  · omega
  · exact ⟨g, cap, rfl, h.cellAt i (by omega)⟩
theorem cell_later {w w' : World} {a : Addr} {v : Value} (hb : Below w.heap.size w w') (h : w.cell? a = some v) : w'.cell? a = some v := (hb.cell (World.block_lt_of_cell? w _ h)).trans h
/-- The mark of a list. -/
def mkb (t : Nat) : Int := -1000 - (t : Int)
/-- Bytes that fill a block are a row. -/
theorem own_full {w : World} {base g e size n : Nat} {xs : List Value} (h : w.heap[g]? = some (.cells xs.toArray e (0, 0))) (hn : xs.length = n * size) (hb : base ≤ g) (hm : n ≤ maxLen) : w.ownsRow base e size (.slice (some ⟨g, 0, none⟩) n n) n xs :=
  ⟨hn, Or.inr ⟨g, n, xs.toArray, rfl, hb, h, Nat.le_refl _, hm, by simp [hn], by simp [← hn]⟩⟩
def rep (k : Nat) (m : List Value) : List Value := (List.replicate k m).flatten
theorem rep_succ (k : Nat) (m : List Value) : rep (k + 1) m = rep k m ++ m := by
  simp [rep, List.replicate_succ', List.flatten_append]
/-- A list in its k-th round, begun at the world wi. -/
structure Far (wi w : World) (base e size n k : Nat) (v : Value) (g : Nat) (L m : List Value) : Prop where
  blw : Below wi.heap.size wi w
  own : w.ownsRow base e size v (n + k) (L ++ rep k m)
  pos : (k = 0 ∧ v = .slice (some ⟨g, 0, none⟩) n n) ∨ (∀ b, v.ownBlock = some b → wi.heap.size ≤ b)
theorem Far.start {w : World} {base e size n g : Nat} {L : List Value} (m : List Value) (h : w.ownsRow base e size (.slice (some ⟨g, 0, none⟩) n n) n L) : Far w w base e size n 0 (.slice (some ⟨g, 0, none⟩) n n) g L m :=
  ⟨Below.refl _ _, by simpa [rep] using h, Or.inl ⟨rfl, rfl⟩⟩
theorem Far.step {wi w w' : World} {base e size n k g : Nat} {v v' : Value} {L m : List Value} {o : Obj} (h : Far wi w base e size n k v g L m) (ho : w'.ownsRow base e size v' (n + k + 1) (L ++ rep k m ++ m)) (hl : Laid (w.alloc o) w' v v' (n + k) (n + k + 1)) :
    Far wi w' base e size n (k + 1) v' g L m := by
  have b1 := h.blw.alloc h.blw.size o
  have hs := h.blw.size
  have hw : (w.alloc o).heap.size = w.heap.size + 1 := by simp
  have fin : (∀ b, v'.ownBlock = some b → wi.heap.size ≤ b) → Below wi.heap.size wi w' → Far wi w' base e size n (k + 1) v' g L m := fun q r => ⟨r, by rw [rep_succ, ← List.append_assoc]; exact ho, Or.inr q⟩
  rcases hl with ⟨g', cap, rfl, rfl, hg⟩ | ⟨cap, rfl, hg⟩
  · have hg' : wi.heap.size ≤ g' := by
      rcases h.pos with ⟨rfl, q⟩ | q
      · cases q
        rcases ho.2 with ⟨q, _⟩ | ⟨_, _, _, q, _, _, q2, _⟩
        · cases q
        · cases q; omega
      · exact q g' rfl
    refine fin (fun b e => by cases e; exact hg') (b1.trans ?_)
    exact (Turns.grown (F := fun i => i = g') hg (fun b e => by cases e; rfl)).below (fun i e => by omega) (by omega)
  · refine fin (fun b e => by cases e; show wi.heap.size ≤ (w.alloc o).heap.size; omega) (b1.trans ?_)
    exact (Turns.grown (F := fun i => False) hg (fun b e => by cases e)).below (fun i e => e.elim) (by omega)
theorem Far.done {wi w : World} {base e size n k g : Nat} {v : Value} {L m : List Value} (h : Far wi w base e size n k v g L m) (hk : 0 < k) : w.ownsRow wi.heap.size e size v (n + k) (L ++ rep k m) :=
  own_up h.own (h.pos.elim (fun q => by omega) id)
/-- Those ahead of t are marked, the others are as they were. -/
structure Mkd (w : World) (es : List Ow) (t : Nat) : Prop where
  lo : ∀ i e, es[i]? = some e → i < t → w.heap[e.g]? = some (il (List.replicate e.L.length (mkb i)))
  hi : ∀ i e, es[i]? = some e → t ≤ i → w.heap[e.g]? = some (il e.L)
theorem Ow.inj {es : List Ow} (nd : (es.map Ow.g).Nodup) {i j : Nat} {e f : Ow} (hi : es[i]? = some e) (hj : es[j]? = some f) (h : e.g = f.g) : i = j := by
  obtain ⟨a1, a2⟩ := List.getElem?_eq_some_iff.1 hi
  obtain ⟨b1, b2⟩ := List.getElem?_eq_some_iff.1 hj
  rcases Nat.lt_trichotomy i j with c | c | c
  · exact absurd (by rw [List.getElem_map, List.getElem_map, a2, b2, h]) (List.pairwise_iff_getElem.1 nd i j (by simpa using a1) (by simpa using b1) c)
  · exact c
  · exact absurd (by rw [List.getElem_map, List.getElem_map, a2, b2, h]) (List.pairwise_iff_getElem.1 nd j i (by simpa using b1) (by simpa using a1) c)
theorem Mkd.step {w w' : World} {es : List Ow} {t : Nat} {e : Ow} (h : Mkd w es t) (nd : (es.map Ow.g).Nodup) (he : es[t]? = some e) (T : Turns (fun i => i = e.g) w w') (hb : w'.heap[e.g]? = some (il (List.replicate e.L.length (mkb t)))) : Mkd w' es (t + 1) := by
  refine ⟨fun i f hf hi => ?_, fun i f hf hi => ?_⟩
  · by_cases c : i = t
    · subst c; rw [he] at hf; cases hf; exact hb
    · have := h.lo i f hf (by omega)
      exact (T.block f.g (heap_lt this) (fun q => c (Ow.inj nd hf he q))).trans this
  · have := h.hi i f hf (by omega)
    exact (T.block f.g (heap_lt this) (fun q => by have := Ow.inj nd hf he q; omega)).trans this
theorem Mkd.turns {F : Nat → Prop} {w w' : World} {es : List Ow} {t : Nat} (h : Mkd w es t) (T : Turns F w w') (hF : ∀ e ∈ es, ¬ F e.g) : Mkd w' es t :=
  ⟨fun i e he hi => (T.block e.g (heap_lt (h.lo i e he hi)) (hF e (List.mem_of_getElem? he))).trans (h.lo i e he hi), fun i e he hi => (T.block e.g (heap_lt (h.hi i e he hi)) (hF e (List.mem_of_getElem? he))).trans (h.hi i e he hi)⟩
/-- The lists as apart reads them. -/
structure Hl (w : World) (base N : Nat) (aL : Option Addr) (cL : Nat) (es : List Ow) : Prop where
  row : w.ownsRow base 34 1 (.slice aL N cL) N (es.map Ow.val)
theorem Hl.get {w : World} {base N : Nat} {aL : Option Addr} {cL : Nat} {es : List Ow} (h : Hl w base N aL cL es) {t : Nat} {e : Ow} (he : es[t]? = some e) (ht : t < N) : ∃ gL, aL = some ⟨gL, 0, none⟩ ∧ w.cell? ⟨gL, t, none⟩ = some e.val := by
  obtain ⟨g, cap, hv, hc⟩ := own_get h.row ht
  refine ⟨g, ?_, ?_⟩
  · cases hv; rfl
  · rw [hc]; simp [he]
theorem Hl.turns {F : Nat → Prop} {w w' : World} {base N : Nat} {aL : Option Addr} {cL : Nat} {es : List Ow} (h : Hl w base N aL cL es) (T : Turns F w w') (h2 : ∀ b, (Value.slice aL N cL).ownBlock = some b → ¬ F b) : Hl w' base N aL cL es := ⟨own_turns h.row T h2⟩
/-- The lists that go on behind: each in a row of its own. -/
def Fars (w : World) (B : Nat) (es : List Ow) (fv : List Value) : Prop := ∀ i e v, es[i]? = some e → fv[i]? = some v → w.ownsRow B 3 1 v (e.L.length + 90) ((List.replicate (e.L.length + 90) (mkb i)).map (Value.int .i64))
theorem rep_one (n k : Nat) (m : Int) : (List.replicate n m).map (Value.int .i64) ++ rep k [.int .i64 m] = (List.replicate (n + k) m).map (Value.int .i64) := by
  have : rep k [Value.int .i64 m] = List.replicate k (.int .i64 m) := by
    induction k with
    | zero => rfl
    | succ k ih => rw [rep_succ, ih, List.replicate_succ']
  rw [this, List.map_replicate, List.map_replicate, List.replicate_append_replicate]

set_option maxHeartbeats 4000000 in
theorem apart_any {w : World} {base : Nat} {vL : Value} {es : List Ow} (hrl : w.ownsRow base 34 1 vL es.length (es.map Ow.val)) (hdt : ∀ e ∈ es, w.heap[e.g]? = some (il e.L)) (hnd : (es.map Ow.g).Nodup) (hbase : base ≤ w.heap.size) (hgb : ∀ e ∈ es, base ≤ e.g) (hes : es.length ≤ 1000) (hen : ∀ e ∈ es, e.L.length ≤ 1000000) :
    Calls Try.prog 16 #[vL] w fun e w' => e = .returned (.bool true) ∧ Turns (fun i => ∃ e ∈ es, e.g = i) w w' := by
  obtain ⟨i0, hi, hz0, hz1, hz2⟩ := info_parts Try.infoInt
  obtain ⟨i1, hi', hy0, hy1, hy2⟩ := info_parts Try.infoSI
  obtain ⟨aL, cL, rfl⟩ := own_slice hrl
  obtain ⟨N, hN⟩ : ∃ N, es.length = N := ⟨_, rfl⟩
  rw [hN] at hrl hes ⊢
  have hH : Hl w base N aL cL es := ⟨hrl⟩
  have hM : Mkd w es 0 := ⟨fun i e _ q => by omega, fun i e he _ => hdt e (List.mem_of_getElem? he)⟩
  have n2 : ∀ e ∈ es, (Value.slice aL N cL).ownBlock ≠ some e.g := fun e he => own_typ hrl (hdt e he) (by decide)
  clear hrl hdt
  have hNi : (N : Int) ≤ 1000 := by omega
  have G2 : ∀ b, (Value.slice aL N cL).ownBlock = some b → ¬ ∃ e ∈ es, e.g = b := fun b hb ⟨e, he, q⟩ => n2 e he (by rw [q]; exact hb)
  go_enter Try.func16, Try.ntmps16
  go_wp2_with fail
  go_loopw [4] (fun i wr => ∃ t : Nat, t ≤ N ∧ i = .int .i64 t ∧ Turns (fun i => ∃ e ∈ es, e.g = i) w wr ∧ Mkd wr es t) (fun i _ => N - (intOf i).toNat)
  case atStart => exact ⟨0, Nat.zero_le _, rfl, Turns.refl _ _, hM⟩
  case round =>
    clear hM
    obtain ⟨t, ht, rfl, hT, hM⟩ := hrel
    have hHr := hH.turns hT G2
    by_cases hlt : t < N
    · have hti : (t : Int) < N := by omega
      obtain ⟨e, he⟩ : ∃ e, es[t]? = some e := ⟨_, List.getElem?_eq_getElem (by omega)⟩
      have hem := List.mem_of_getElem? he
      obtain ⟨gL, haL, l0⟩ := hHr.get he hlt
      subst haL
      have hdat := hM.hi t e he (Nat.le_refl _)
      have hL := hen e hem
      obtain ⟨n, hn⟩ : ∃ n, e.L.length = n := ⟨_, rfl⟩
      have l0 : wr.cell? ⟨gL, t, none⟩ = some (.slice (some ⟨e.g, 0, none⟩) n n) := by rw [l0, ← hn]; rfl
      rw [hn] at hL
      have hm : (-1000 : Int) - (t : Int) = mkb t := rfl
      have hni : (n : Int) ≤ 1000000 := by omega
      rename World => W1
      go_wp2_with fail
      go_loopw [5] (fun j wr => ∃ (q : Nat) (bs : List Int), q ≤ n ∧ j = .int .i64 q ∧ wr.heap[e.g]? = some (il bs) ∧ bs.length = n ∧ (∀ u, u < q → bs[u]? = some (mkb t)) ∧ Turns (fun i => i = e.g) W1 wr) (fun j _ => n - (intOf j).toNat)
      case atStart => exact ⟨0, e.L, Nat.zero_le _, rfl, hdat, hn, (fun u hu => by omega), Turns.refl _ _⟩
      case round =>
        clear hdat
        obtain ⟨q, bs, hq, rfl, hbs, hbl, hmk, hT2⟩ := hrel
        have hH2 := hHr.turns hT2 (fun b hb' r => n2 e hem (by rw [← r]; exact hb'))
        have d1 : wr.cell? ⟨gL, t, none⟩ = some (.slice (some ⟨e.g, 0, none⟩) n n) := (World.cell?_of_block (hT2.block gL (World.block_lt_of_cell? W1 _ l0) (fun r => n2 e hem (by rw [← r]; rfl)))).trans l0
        by_cases hlq : q < n
        · have hqi : (q : Int) < n := by omega
          obtain ⟨v, hv⟩ : ∃ v, (bs.map (Value.int .i64)).toArray[q]? = some v := ⟨_, Array.getElem?_eq_getElem (by simp [hbl]; omega)⟩
          have k0 : wr.cell? ⟨e.g, q, none⟩ = some v := by simp only [World.cell?, hbs]; exact hv
          have f0 : wr.frozen? ⟨e.g, q, none⟩ = false := by simp [World.frozen?, hbs]
          have HG2 : Hid ((wr.setCell ⟨e.g, q, none⟩ (.int .i64 (mkb t))).heap[e.g]? = some (il (bs.set q (mkb t)))) := by
            have r := heap_setCell_same _ e.g q _ _ (.int .i64 (mkb t)) hbs
            refine Eq.trans r ?_
            simp
          have HT2 : Hid (Turns (fun i => i = e.g) W1 (wr.setCell ⟨e.g, q, none⟩ (.int .i64 (mkb t)))) := hT2.trans (Turns.cell wr e.g q _) (fun _ _ h => h)
          have HBS : Hid (∀ u, u < q + 1 → (bs.set q (mkb t))[u]? = some (mkb t)) := fun u hu => by
            rw [List.getElem?_set]
            by_cases r : q = u
            · rw [if_pos r, if_pos (by omega)]
            · rw [if_neg r]; exact hmk u (by omega)
          clear hbs hv hT2 hmk hH2
          go_wp2_with fail
          go_roundw
          case rel => exact ⟨q + 1, bs.set q (mkb t), by omega, by go_num, HG2.out, by simp [hbl], HBS.out, HT2.out⟩
          case measure => simp [intOf]; omega
        · obtain rfl : q = n := by omega
          obtain rfl : bs = List.replicate q (mkb t) := by
            refine List.ext_getElem? (fun u => ?_)
            by_cases hu : u < q
            · rw [hmk u hu, List.getElem?_replicate, if_pos hu]
            · rw [List.getElem?_eq_none (by omega), List.getElem?_eq_none (by simp; omega)]
          have hM2 := hM.step hnd he hT2 (by rw [hn]; exact hbs)
          have hTT := hT.trans hT2 (fun i _ r => ⟨e, hem, r.symm⟩)
          go_wp2_with fail
          go_roundw
          case rel => exact ⟨t + 1, by omega, by go_num, hTT, hM2⟩
          case measure => simp [intOf]; omega
    · have hti : ¬ (t : Int) < N := by omega
      have htN : t = N := by omega
      rw [htN] at hM
      rename World => W2
      have hTW := hT
      have hnF : ∀ e ∈ es, ¬ (fun _ : Nat => False) e.g := fun _ _ => id
      clear hT hH
      go_wp2_with fail
      go_loopw [3, 6] (fun far i wr => ∃ (q : Nat) (fv : List Value), q ≤ N ∧ i = .int .i64 q ∧ wr.ownsRow W2.heap.size 34 1 far q fv ∧ Fars wr W2.heap.size es fv ∧ Below W2.heap.size W2 wr) (fun _ i _ => N - (intOf i).toNat)
      case atStart => exact ⟨0, [], Nat.zero_le _, rfl, ⟨rfl, Or.inl ⟨rfl, rfl⟩⟩, (fun i e v _ hv => by simp at hv), Below.refl _ _⟩
      case round =>
        obtain ⟨q, fv, hq, rfl, hfar, hfs, hB⟩ := hrel
        have hH3 := hHr.turns (Below.turns hB (fun _ => False)) (fun _ _ => id)
        have hM3 := hM.turns (Below.turns hB (fun _ => False)) hnF
        by_cases hlq : q < N
        · have hqi : (q : Int) < N := by omega
          obtain ⟨e, he⟩ : ∃ e, es[q]? = some e := ⟨_, List.getElem?_eq_getElem (by omega)⟩
          have hem := List.mem_of_getElem? he
          obtain ⟨gL, haL, lv⟩ := hH3.get he hlq
          subst haL
          have hdat := hM3.lo q e he hlq
          have hL := hen e hem
          have hge := hgb e hem
          obtain ⟨n, hn⟩ : ∃ n, e.L.length = n := ⟨_, rfl⟩
          have l0 : wr.cell? ⟨gL, q, none⟩ = some (.slice (some ⟨e.g, 0, none⟩) n n) := by rw [lv, ← hn]; rfl
          clear lv
          rw [hn] at hL hdat
          have hm : (-1000 : Int) - (q : Int) = mkb q := rfl
          have hni : (n : Int) ≤ 1000000 := by omega
          rename World => W3
          have hst : Far W3 W3 base 3 1 n 0 (.slice (some ⟨e.g, 0, none⟩) n n) e.g ((List.replicate n (mkb q)).map (Value.int .i64)) [.int .i64 (mkb q)] := Far.start _ (own_full hdat (by simp) hge (by unfold maxLen; omega))
          have hsz := hB.size
          have hbs2 : base ≤ W3.heap.size := by
            have := hTW.size
            omega
          go_wp2_with fail
          go_loopw [7, 8] (fun l k wr => ∃ p : Nat, p ≤ 90 ∧ k = .int .i64 p ∧ Far W3 wr base 3 1 n p l e.g ((List.replicate n (mkb q)).map (Value.int .i64)) [.int .i64 (mkb q)]) (fun _ k _ => 90 - (intOf k).toNat)
          case atStart => exact ⟨0, Nat.zero_le _, rfl, hst⟩
          case round =>
            clear hst
            obtain ⟨p, hp, rfl, hF⟩ := hrel
            have hown := hF.own
            have hFs := hF.blw.size
            by_cases hlp : p < 90
            · have hpi : (p : Int) < 90 := by omega
              obtain ⟨al, cl, rfl⟩ := own_slice hown
              go_wp2_with (at_builtin; refine wpList_append_own_split _ rfl _ _ 34 rfl base 3 i0 (.int .i64 0) 1 8 Try.underlying34 hi hz0 hz1 hz2 rfl (by decide) _ _ _ rfl (hown.alloc _) ⟨wr.heap.size, 0, none⟩ 1 1 [.int .i64 (mkb q)] (by decide) rfl rfl (cell_one_new _ _ _) (by intro u hu; simp at hu; subst hu; rfl) (by unfold maxLen; omega) (by omega) (by simp; omega) ?_; intro v3 w3 hv3 hl3)
              have hF3 := hF.step hv3 hl3
              go_roundw
              case rel => exact ⟨p + 1, by omega, by go_num, hF3⟩
              case measure => simp [intOf]; omega
            · have hpi : ¬ (p : Int) < 90 := by omega
              obtain rfl : p = 90 := by omega
              have hdn := ownsRow_mono (hF.done (by omega)) hsz
              rw [rep_one] at hdn
              obtain ⟨al, cl, rfl⟩ := own_slice hown
              have hfar4 := own_turns hfar (Below.turns hF.blw (fun _ => False)) (fun _ _ => id)
              obtain ⟨af, cf, rfl⟩ := own_slice hfar4
              have hB4 := hB.trans (hF.blw.mono hsz)
              have hfs4 : Fars wr W2.heap.size es fv := fun i e v h1 h2 => own_turns (hfs i e v h1 h2) (Below.turns hF.blw (fun _ => False)) (fun _ _ => id)
              have hfl := hfar4.1
              clear hfar hfs hF hown hB
              go_wp2_with (at_builtin; refine wpList_append_own_at _ rfl _ _ 41 rfl W2.heap.size 34 i1 (.slice none 0 0) 1 24 Try.underlying41 hi' hy0 hy1 hy2 rfl (by decide) _ q _ rfl (hfar4.alloc _) ⟨wr.heap.size, 0, none⟩ 1 1 [.slice al (n + 90) cl] rfl rfl (cell_one_new _ _ _) (by intro u hu; simp at hu; subst hu; rfl) (by unfold maxLen; omega) (by omega) (by simp; omega) ?_; intro vB wB hoB hgB hnB hatB)
              have tB : Turns (fun i => (Value.slice af q cf).ownBlock = some i) wr wB := (Turns.alloc _ wr _).trans (Turns.grown (F := fun i => (Value.slice af q cf).ownBlock = some i) hgB (fun b hb => hb)) (fun _ _ h => h)
              have hne : ∀ k v xs, wr.ownsRow W2.heap.size 3 1 v k xs → ∀ b, v.ownBlock = some b → ¬ (Value.slice af q cf).ownBlock = some b := fun k v xs ho b hb r => by
                rcases hfar4.2 with ⟨r1, _⟩ | ⟨g', cap, cur, r1, _, hh, _⟩
                · rw [r1] at r; cases r
                · rw [r1] at r; cases r; exact own_typ ho hh (by decide) hb
              have hfsB : Fars wB W2.heap.size es (fv ++ [.slice al (n + 90) cl]) := fun i f v h1 h2 => by
                rw [List.getElem?_append] at h2
                by_cases hil : i < fv.length
                · rw [if_pos hil] at h2
                  exact own_turns (hfs4 i f v h1 h2) tB (hne _ _ _ (hfs4 i f v h1 h2))
                · rw [if_neg hil] at h2
                  have hi0 : i - fv.length = 0 := by
                    have := (List.getElem?_eq_some_iff.1 h2).1
                    simp at this; omega
                  rw [hi0] at h2
                  have hiq : i = q := by omega
                  subst hiq
                  rw [he] at h1
                  cases h1
                  cases h2
                  rw [hn]
                  exact own_turns hdn tB (hne _ _ _ hdn)
              have hBB : Below W2.heap.size W2 wB := hB4.trans (tB.below (fun i r => (hfar4.lt i r).1) hB4.size)
              go_roundw
              case rel => exact ⟨q + 1, _, by omega, by go_num, hoB, hfsB, hBB⟩
              case measure => simp [intOf]; omega
        · have hqi : ¬ (q : Int) < N := by omega
          obtain rfl : q = N := by omega
          have hfl := hfar.1
          obtain ⟨af, cf, rfl⟩ := own_slice hfar
          rename World => W3
          have hTT : Turns (fun i => ∃ e ∈ es, e.g = i) w W3 := hTW.trans (Below.turns hB (fun _ => False)) (fun _ _ h => h.elim)
          clear hB hM hHr hTW
          go_wp2_with fail
          go_loopw [9] (fun i wr => ∃ t : Nat, t ≤ q ∧ i = .int .i64 t ∧ Below W3.heap.size W3 wr) (fun i _ => q - (intOf i).toNat)
          case atStart => exact ⟨0, Nat.zero_le _, rfl, Below.refl _ _⟩
          case round =>
            obtain ⟨t, ht, rfl, hB⟩ := hrel
            by_cases hlt : t < q
            · have hti : (t : Int) < q := by omega
              obtain ⟨e, he⟩ : ∃ e, es[t]? = some e := ⟨_, List.getElem?_eq_getElem (by omega)⟩
              have hem := List.mem_of_getElem? he
              obtain ⟨gL, haL, lv⟩ := hH3.get he hlt
              subst haL
              have hdat := hM3.lo t e he hlt
              have hL := hen e hem
              obtain ⟨n, hn⟩ : ∃ n, e.L.length = n := ⟨_, rfl⟩
              have l0 : W3.cell? ⟨gL, t, none⟩ = some (.slice (some ⟨e.g, 0, none⟩) n n) := by rw [lv, ← hn]; rfl
              clear lv
              rw [hn] at hL hdat
              have l1 := cell_later hB l0
              obtain ⟨gF, cF, haF, hf0⟩ := own_get hfar hlt
              obtain ⟨v, hv⟩ : ∃ v, fv[t]? = some v := ⟨_, List.getElem?_eq_getElem (by omega)⟩
              have hro := hfs t e v he hv
              rw [hn] at hro
              rw [hv] at hf0
              obtain ⟨av, cv, rfl⟩ := own_slice hro
              obtain ⟨gv, cv', hav, _⟩ := own_get hro (i := 0) (by omega)
              have hav : av = some ⟨gv, 0, none⟩ ∧ cv = cv' := by cases hav; exact ⟨rfl, rfl⟩
              obtain ⟨rfl, rfl⟩ := hav
              have haF' : af = some ⟨gF, 0, none⟩ := by cases haF; rfl
              subst haF'
              have f1 := cell_later hB hf0
              have hm : (-1000 : Int) - (t : Int) = mkb t := rfl
              have hni : (n : Int) ≤ 1000000 := by omega
              have rdF : ∀ u, u < n + 90 → W3.cell? ⟨gv, u, none⟩ = some (.int .i64 (mkb t)) := fun u hu => by
                obtain ⟨g', c', hv', hc⟩ := own_get hro hu
                cases hv'
                rw [hc, List.getElem?_map, List.getElem?_replicate, if_pos hu]
                rfl
              have rdL : ∀ u, u < n → W3.cell? ⟨e.g, u, none⟩ = some (.int .i64 (mkb t)) := fun u hu => by
                simp only [World.cell?, hdat]
                simp [hu]
              clear hro hdat hfs
              rename World => W4
              go_wp2_with fail
              go_loopw [10] (fun j wr => ∃ u : Nat, u ≤ n + 90 ∧ j = .int .i64 u ∧ Below W3.heap.size W3 wr) (fun j _ => n + 90 - (intOf j).toNat)
              case atStart => exact ⟨0, Nat.zero_le _, rfl, by first | exact hB | exact Below.drewN hB _⟩
              case round =>
                clear l1 f1
                obtain ⟨u, hu, rfl, hB5⟩ := hrel
                have l2 := cell_later hB5 l0
                have f2 := cell_later hB5 hf0
                by_cases hlu : u < n + 90
                · have hui : (u : Int) < n + 90 := by omega
                  have r1 := cell_later hB5 (rdF u hlu)
                  by_cases hun : u < n
                  · have huni : (u : Int) < n := by omega
                    have r2 := cell_later hB5 (rdL u hun)
                    clear rdF rdL l0 hf0
                    go_wp2_with fail
                    refine ⟨⟨u + 1, by omega, by simp, hB5⟩, by simp [intOf]; omega⟩
                  · have huni : ¬ (u : Int) < n := by omega
                    clear rdF rdL l0 hf0
                    go_wp2_with fail
                    refine ⟨⟨u + 1, by omega, by simp, hB5⟩, by simp [intOf]; omega⟩
                · have hui : ¬ (u : Int) < n + 90 := by omega
                  go_wp2_with fail
                  go_roundw
                  case rel => exact ⟨t + 1, by omega, by go_num, hB5⟩
                  case measure => simp [intOf]; omega
            · have hti : ¬ (t : Int) < q := by omega
              go_wp2
              go_ret
              exact ⟨rfl, hTT.trans (Below.turns hB (fun _ => False)) (fun _ _ h => h.elim)⟩
end Go.Proofs.Ytkfdneohkgmmbab
