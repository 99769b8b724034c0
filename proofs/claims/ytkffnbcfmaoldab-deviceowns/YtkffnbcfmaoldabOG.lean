/- apartPending by its contract. -/
import Derived.Test.YtkffnbcfmaoldabOF
import Derived.Test.YtkffnbcfmaoldabOD
namespace Go.Proofs.Ytkffnbcfmaoldab
open Go.RowKit Go.Maps
set_option maxRecDepth 100000

/-- The mark of a list of what pends. -/
def pm (t : Nat) : List Value := [.int .i64 ((1000 + t : Nat) : Int), .slice none 0 0]
theorem rep_len (k : Nat) (a b : Value) : (rep k [a, b]).length = k * 2 := by
  induction k with
  | zero => rfl
  | succ k ih => rw [rep_succ, List.length_append, ih]; simp; omega
theorem rep_at (k : Nat) (a b : Value) {u : Nat} (hu : u < k) : (rep k [a, b])[u * 2]? = some a ∧ (rep k [a, b])[u * 2 + 1]? = some b := by
  induction k with
  | zero => omega
  | succ k ih =>
    rw [rep_succ, List.getElem?_append, List.getElem?_append, rep_len]
    by_cases h : u < k
    · rw [if_pos (by omega), if_pos (by omega)]; exact ih h
    · obtain rfl : u = k := by omega
      rw [if_neg (by omega), if_neg (by omega), show u * 2 - u * 2 = 0 by omega, show u * 2 + 1 - u * 2 = 1 by omega]
      exact ⟨rfl, rfl⟩
theorem rep_ext {bs : List Value} {k : Nat} {a b : Value} (hl : bs.length = k * 2) (h : ∀ u, u < k → bs[u * 2]? = some a ∧ bs[u * 2 + 1]? = some b) : bs = rep k [a, b] := by
  refine List.ext_getElem? (fun i => ?_)
  by_cases hi : i < k * 2
  · obtain ⟨u, r, hr, rfl⟩ : ∃ u r, r < 2 ∧ i = u * 2 + r := ⟨i / 2, i % 2, by omega, by omega⟩
    have hu : u < k := by omega
    obtain ⟨h1, h2⟩ := h u hu
    obtain ⟨g1, g2⟩ := rep_at k a b hu
    obtain rfl | rfl : r = 0 ∨ r = 1 := by omega
    · rw [Nat.add_zero, h1, g1]
    · rw [h2, g2]
  · rw [List.getElem?_eq_none (by omega), List.getElem?_eq_none (by rw [rep_len]; omega)]
theorem rep_add (n k : Nat) (m : List Value) : rep n m ++ rep k m = rep (n + k) m := by
  unfold rep
  rw [← List.flatten_append, List.replicate_append_replicate]
theorem own_get2 {w : World} {base e n : Nat} {v : Value} {xs : List Value} (h : w.ownsRow base e 2 v n xs) {i : Nat} (hi : i < n) : ∃ g cap, v = .slice (some ⟨g, 0, none⟩) n cap ∧ w.cell? ⟨g, i * 2, none⟩ = xs[i * 2]? ∧ w.cell? ⟨g, i * 2 + 1, none⟩ = xs[i * 2 + 1]? := by
  rcases h.2 with ⟨_, h0⟩ | ⟨g, cap, cur, hv, _, hg, h1, h2, h3, h4⟩
  · omega
  · refine ⟨g, cap, hv, ?_, ?_⟩
    · rw [← h4, List.getElem?_take, if_pos (by omega)]
      simp only [World.cell?, hg]
      simp
    · rw [← h4, List.getElem?_take, if_pos (by omega)]
      simp only [World.cell?, hg]
      simp
/-- Those ahead of t are marked. -/
structure Pmk (w : World) (ps : List (Nat × Nat)) (t : Nat) : Prop where
  lo : ∀ i p, ps[i]? = some p → i < t → w.heap[p.1]? = some (.cells (rep p.2 (pm i)).toArray 41 (0, 0))
  hi : ∀ i p, ps[i]? = some p → t ≤ i → ∃ cs : List Value, w.heap[p.1]? = some (.cells cs.toArray 41 (0, 0)) ∧ cs.length = p.2 * 2
theorem pls_inj {ps : List (Nat × Nat)} (nd : (ps.map (·.1)).Nodup) {i j : Nat} {e f : Nat × Nat} (hi : ps[i]? = some e) (hj : ps[j]? = some f) (h : e.1 = f.1) : i = j := by
  obtain ⟨a1, a2⟩ := List.getElem?_eq_some_iff.1 hi
  obtain ⟨b1, b2⟩ := List.getElem?_eq_some_iff.1 hj
  rcases Nat.lt_trichotomy i j with c | c | c
  · exact absurd (by rw [List.getElem_map, List.getElem_map, a2, b2, h]) (List.pairwise_iff_getElem.1 nd i j (by simpa using a1) (by simpa using b1) c)
  · exact c
  · exact absurd (by rw [List.getElem_map, List.getElem_map, a2, b2, h]) (List.pairwise_iff_getElem.1 nd j i (by simpa using b1) (by simpa using a1) c)
theorem Pmk.step {w w' : World} {ps : List (Nat × Nat)} {t : Nat} {p : Nat × Nat} (h : Pmk w ps t) (nd : (ps.map (·.1)).Nodup) (he : ps[t]? = some p) (T : Turns (fun i => i = p.1) w w') (hb : w'.heap[p.1]? = some (.cells (rep p.2 (pm t)).toArray 41 (0, 0))) : Pmk w' ps (t + 1) := by
  refine ⟨fun i f hf hi => ?_, fun i f hf hi => ?_⟩
  · by_cases c : i = t
    · subst c; rw [he] at hf; cases hf; exact hb
    · have := h.lo i f hf (by omega)
      exact (T.block f.1 (heap_lt this) (fun q => c (pls_inj nd hf he q))).trans this
  · obtain ⟨cs, this, hl⟩ := h.hi i f hf (by omega)
    exact ⟨cs, (T.block f.1 (heap_lt this) (fun q => by have := pls_inj nd hf he q; omega)).trans this, hl⟩
theorem Pmk.turns {F : Nat → Prop} {w w' : World} {ps : List (Nat × Nat)} {t : Nat} (h : Pmk w ps t) (T : Turns F w w') (hF : ∀ p ∈ ps, ¬ F p.1) : Pmk w' ps t :=
  ⟨fun i e he hi => (T.block e.1 (heap_lt (h.lo i e he hi)) (hF e (List.mem_of_getElem? he))).trans (h.lo i e he hi), fun i e he hi => by
    obtain ⟨cs, this, hl⟩ := h.hi i e he hi
    exact ⟨cs, (T.block e.1 (heap_lt this) (hF e (List.mem_of_getElem? he))).trans this, hl⟩⟩
theorem pls_get {w : World} {base Z : Nat} {aP : Option Addr} {cP : Nat} {ps : List (Nat × Nat)} (h : w.ownsRow base 31 1 (.slice aP Z cP) Z (ps.map plv)) {t : Nat} {p : Nat × Nat} (hp : ps[t]? = some p) (ht : t < Z) : ∃ gP, aP = some ⟨gP, 0, none⟩ ∧ w.cell? ⟨gP, t, none⟩ = some (.slice (some ⟨p.1, 0, none⟩) p.2 p.2) := by
  obtain ⟨g, cap, hv, hc⟩ := own_get h ht
  refine ⟨g, ?_, ?_⟩
  · cases hv; rfl
  · rw [hc]; simp [hp]
/-- The lists that go on behind. -/
def PFars (w : World) (B : Nat) (ps : List (Nat × Nat)) (fv : List Value) : Prop := ∀ i p v, ps[i]? = some p → fv[i]? = some v → w.ownsRow B 41 2 v (p.2 + 90) (rep (p.2 + 90) (pm i))

set_option maxHeartbeats 4000000 in
theorem apartPending_h {w : World} {base : Nat} {pv : Value} {ps : List (Nat × Nat)} (h : Pls w base pv ps) (hbase : base ≤ w.heap.size) (hgb : ∀ p ∈ ps, base ≤ p.1) (hps : ps.length ≤ 1000) (hen : ∀ p ∈ ps, p.2 ≤ 1000000) :
    Calls Try.prog 26 #[pv] w fun e w' => e = .returned (.bool true) ∧ Turns (fun i => ∃ p ∈ ps, p.1 = i) w w' := by
  obtain ⟨i0, hi, hz0, hz1, hz2⟩ := info_parts Try.info41
  obtain ⟨i1, hi', hy0, hy1, hy2⟩ := info_parts Try.info31
  obtain ⟨aP, cP, rfl⟩ := row_slice h.row
  obtain ⟨N, hN⟩ : ∃ N, ps.length = N := ⟨_, rfl⟩
  have hH := h.row
  have hnd := h.nd
  rw [hN] at hH hps
  have hM : Pmk w ps 0 := ⟨fun i e _ q => by omega, fun i p hp _ => h.dat p (List.mem_of_getElem? hp)⟩
  have n2 : ∀ p ∈ ps, (Value.slice aP N cP).ownBlock ≠ some p.1 := fun p hp => by
    obtain ⟨cs, e, _⟩ := h.dat p hp
    exact own_ne hH e (by decide)
  clear h
  have hNi : (N : Int) ≤ 1000 := by omega
  have G2 : ∀ b, (Value.slice aP N cP).ownBlock = some b → ¬ ∃ p ∈ ps, p.1 = b := fun b hb ⟨e, he, q⟩ => n2 e he (by rw [q]; exact hb)
  rw [hN]
  go_enter Try.func26, Try.ntmps26
  go_wp2_with fail
  go_loopw [4] (fun i wr => ∃ t : Nat, t ≤ N ∧ i = .int .i64 t ∧ Turns (fun i => ∃ p ∈ ps, p.1 = i) w wr ∧ Pmk wr ps t) (fun i _ => N - (intOf i).toNat)
  case atStart => exact ⟨0, Nat.zero_le _, rfl, Turns.refl _ _, hM⟩
  case round =>
    clear hM
    obtain ⟨t, ht, rfl, hT, hM⟩ := hrel
    have hHr := own_turns hH hT G2
    by_cases hlt : t < N
    · have hti : (t : Int) < N := by omega
      obtain ⟨p, hp⟩ : ∃ p, ps[t]? = some p := ⟨_, List.getElem?_eq_getElem (by omega)⟩
      have hpm := List.mem_of_getElem? hp
      obtain ⟨gP, haP, l0⟩ := pls_get hHr hp hlt
      subst haP
      obtain ⟨cs, hdat, hcl⟩ := hM.hi t p hp (Nat.le_refl _)
      have hL := hen p hpm
      obtain ⟨G, n⟩ := p
      dsimp only at *
      have hm : IntKind.i64.wrap (1000 + (t : Int)) = ((1000 + t : Nat) : Int) := by
        rw [Go.IntWalk.i64_in _ ⟨by omega, by omega⟩]; omega
      have hni : (n : Int) ≤ 1000000 := by omega
      rename World => W1
      go_wp2_with fail
      go_loopw [5] (fun j wr => ∃ (q : Nat) (bs : List Value), q ≤ n ∧ j = .int .i64 q ∧ wr.heap[G]? = some (.cells bs.toArray 41 (0, 0)) ∧ bs.length = n * 2 ∧ (∀ u, u < q → bs[u * 2]? = some (.int .i64 ((1000 + t : Nat) : Int)) ∧ bs[u * 2 + 1]? = some (.slice none 0 0)) ∧ Turns (fun i => i = G) W1 wr) (fun j _ => n - (intOf j).toNat)
      case atStart => exact ⟨0, cs, Nat.zero_le _, rfl, hdat, hcl, (fun u hu => by omega), Turns.refl _ _⟩
      case round =>
        clear hdat
        obtain ⟨q, bs, hq, rfl, hbs, hbl, hmk, hT2⟩ := hrel
        have d1 : wr.cell? ⟨gP, t, none⟩ = some (.slice (some ⟨G, 0, none⟩) n n) := (World.cell?_of_block (hT2.block gP (World.block_lt_of_cell? W1 _ l0) (fun r => n2 _ hpm (by rw [← r]; rfl)))).trans l0
        by_cases hlq : q < n
        · have hqi : (q : Int) < n := by omega
          have i1 : q * 2 < bs.length := by omega
          have i2 : q * 2 + 1 < bs.length := by omega
          have k0 : wr.cell? ⟨G, q * 2, none⟩ = some bs[q * 2] := by simp [World.cell?, hbs, i1]
          have k1 : wr.cell? ⟨G, q * 2 + 1, none⟩ = some bs[q * 2 + 1] := by simp [World.cell?, hbs, i2]
          have f0 : wr.frozen? ⟨G, q * 2, none⟩ = false := by simp [World.frozen?, hbs]
          have f1 : wr.frozen? ⟨G, q * 2 + 1, none⟩ = false := by simp [World.frozen?, hbs]
          have HG2 : Hid (((wr.setCell ⟨G, q * 2, none⟩ (.int .i64 ((1000 + t : Nat) : Int))).setCell ⟨G, q * 2 + 1, none⟩ (.slice none 0 0)).heap[G]? = some (.cells ((bs.set (q * 2) (.int .i64 ((1000 + t : Nat) : Int))).set (q * 2 + 1) (.slice none 0 0)).toArray 41 (0, 0))) := by
            have r := heap_setCell_same _ G (q * 2) _ _ (.int .i64 ((1000 + t : Nat) : Int)) hbs
            refine Eq.trans (heap_setCell_same _ G (q * 2 + 1) _ _ (.slice none 0 0) r) ?_
            simp
          have HT2 : Hid (Turns (fun i => i = G) W1 ((wr.setCell ⟨G, q * 2, none⟩ (.int .i64 ((1000 + t : Nat) : Int))).setCell ⟨G, q * 2 + 1, none⟩ (.slice none 0 0))) := (hT2.trans (Turns.cell wr G _ _) (fun _ _ h => h)).trans (Turns.cell _ G _ _) (fun _ _ h => h)
          have HBS : Hid (∀ u, u < q + 1 → ((bs.set (q * 2) (.int .i64 ((1000 + t : Nat) : Int))).set (q * 2 + 1) (.slice none 0 0))[u * 2]? = some (.int .i64 ((1000 + t : Nat) : Int)) ∧ ((bs.set (q * 2) (.int .i64 ((1000 + t : Nat) : Int))).set (q * 2 + 1) (.slice none 0 0))[u * 2 + 1]? = some (.slice none 0 0)) := fun u hu => by
            rw [List.getElem?_set, List.getElem?_set, List.getElem?_set, List.getElem?_set, List.length_set]
            rw [if_neg (by omega : ¬ q * 2 + 1 = u * 2), if_neg (by omega : ¬ q * 2 = u * 2 + 1)]
            by_cases r : q = u
            · rw [if_pos (by omega), if_pos (by omega), if_pos (by omega), if_pos (by omega)]; exact ⟨rfl, rfl⟩
            · rw [if_neg (by omega), if_neg (by omega)]; exact hmk u (by omega)
          clear hbs hT2 hmk
          go_wp2_with fail
          go_roundw
          case rel => exact ⟨q + 1, _, by omega, by go_num, HG2.out, by simp [hbl], HBS.out, HT2.out⟩
          case measure => simp [intOf]; omega
        · obtain rfl : q = n := by omega
          have hbe := rep_ext hbl hmk
          subst hbe
          have hM2 := hM.step hnd hp hT2 hbs
          have hTT := hT.trans hT2 (fun i _ r => ⟨_, hpm, r.symm⟩)
          go_wp2_with fail
          go_roundw
          case rel => exact ⟨t + 1, by omega, by go_num, hTT, hM2⟩
          case measure => simp [intOf]; omega
    · have hti : ¬ (t : Int) < N := by omega
      have htN : t = N := by omega
      rw [htN] at hM
      rename World => W2
      have hTW := hT
      have hnF : ∀ p ∈ ps, ¬ (fun _ : Nat => False) p.1 := fun _ _ => id
      clear hT hH
      go_wp2_with fail
      go_loopw [3, 6] (fun far i wr => ∃ (q : Nat) (fv : List Value), q ≤ N ∧ i = .int .i64 q ∧ wr.ownsRow W2.heap.size 31 1 far q fv ∧ PFars wr W2.heap.size ps fv ∧ Below W2.heap.size W2 wr) (fun _ i _ => N - (intOf i).toNat)
      case atStart => exact ⟨0, [], Nat.zero_le _, rfl, ⟨rfl, Or.inl ⟨rfl, rfl⟩⟩, (fun i e v _ hv => by simp at hv), Below.refl _ _⟩
      case round =>
        obtain ⟨q, fv, hq, rfl, hfar, hfs, hB⟩ := hrel
        have hH3 := own_turns hHr (Below.turns hB (fun _ => False)) (fun _ _ => id)
        have hM3 := hM.turns (Below.turns hB (fun _ => False)) hnF
        by_cases hlq : q < N
        · have hqi : (q : Int) < N := by omega
          obtain ⟨p, hp⟩ : ∃ p, ps[q]? = some p := ⟨_, List.getElem?_eq_getElem (by omega)⟩
          have hpm := List.mem_of_getElem? hp
          obtain ⟨gP, haP, l0⟩ := pls_get hH3 hp hlq
          subst haP
          have hdat := hM3.lo q p hp hlq
          have hL := hen p hpm
          have hge := hgb p hpm
          obtain ⟨G, n⟩ := p
          dsimp only at *
          have hm : IntKind.i64.wrap (1000 + (q : Int)) = ((1000 + q : Nat) : Int) := by
            rw [Go.IntWalk.i64_in _ ⟨by omega, by omega⟩]; omega
          have hni : (n : Int) ≤ 1000000 := by omega
          rename World => W3
          have hst : Far W3 W3 base 41 2 n 0 (.slice (some ⟨G, 0, none⟩) n n) G (rep n (pm q)) (pm q) := Far.start _ (own_full hdat (rep_len _ _ _) hge (by unfold maxLen; omega))
          have hsz := hB.size
          have hbs2 : base ≤ W3.heap.size := by
            have := hTW.size
            omega
          go_wp2_with fail
          go_loopw [7, 8] (fun l k wr => ∃ u : Nat, u ≤ 90 ∧ k = .int .i64 u ∧ Far W3 wr base 41 2 n u l G (rep n (pm q)) (pm q)) (fun _ k _ => 90 - (intOf k).toNat)
          case atStart => exact ⟨0, Nat.zero_le _, rfl, hst⟩
          case round =>
            clear hst
            obtain ⟨u, hu, rfl, hF⟩ := hrel
            have hown := hF.own
            have hFs := hF.blw.size
            by_cases hlp : u < 90
            · have hpi : (u : Int) < 90 := by omega
              obtain ⟨al, cl, rfl⟩ := row_slice hown
              go_wp2_with (at_builtin; refine wpList_append_own_split _ rfl _ _ 31 rfl base 41 i0 (.agg #[.int .i64 0, .slice none 0 0]) 2 32 Try.underlying31 hi hz0 hz1 hz2 rfl (by decide) _ _ _ rfl (hown.alloc _) ⟨wr.heap.size, 0, none⟩ 1 1 (pm q) (by decide) rfl rfl (cell_two_new _ _ _ _) (by intro x hx; simp [pm] at hx; rcases hx with rfl | rfl <;> rfl) (by unfold maxLen; omega) (by omega) (by simp; omega) ?_; intro v3 w3 hv3 hl3)
              have hF3 := hF.step hv3 hl3
              go_roundw
              case rel => exact ⟨u + 1, by omega, by go_num, hF3⟩
              case measure => simp [intOf]; omega
            · have hpi : ¬ (u : Int) < 90 := by omega
              obtain rfl : u = 90 := by omega
              have hdn := ownsRow_mono (hF.done (by omega)) hsz
              rw [rep_add] at hdn
              obtain ⟨al, cl, rfl⟩ := row_slice hown
              have hfar4 := own_turns hfar (Below.turns hF.blw (fun _ => False)) (fun _ _ => id)
              obtain ⟨af, cf, rfl⟩ := row_slice hfar4
              have hB4 := hB.trans (hF.blw.mono hsz)
              have hfs4 : PFars wr W2.heap.size ps fv := fun i e v h1 h2 => own_turns (hfs i e v h1 h2) (Below.turns hF.blw (fun _ => False)) (fun _ _ => id)
              have hfl := hfar4.1
              clear hfar hfs hF hown hB
              go_wp2_with (at_builtin; refine wpList_append_own_at _ rfl _ _ 53 rfl W2.heap.size 31 i1 (.slice none 0 0) 1 24 Try.underlying53 hi' hy0 hy1 hy2 rfl (by decide) _ q _ rfl (hfar4.alloc _) ⟨wr.heap.size, 0, none⟩ 1 1 [.slice al (n + 90) cl] rfl rfl (cell_one_new _ _ _) (by intro u hu; simp at hu; subst hu; rfl) (by unfold maxLen; omega) (by omega) (by simp; omega) ?_; intro vB wB hoB hgB hnB hatB)
              have tB : Turns (fun i => (Value.slice af q cf).ownBlock = some i) wr wB := (Turns.alloc _ wr _).trans (Turns.grown (F := fun i => (Value.slice af q cf).ownBlock = some i) hgB (fun b hb => hb)) (fun _ _ h => h)
              have hne : ∀ k v xs, wr.ownsRow W2.heap.size 41 2 v k xs → ∀ b, v.ownBlock = some b → ¬ (Value.slice af q cf).ownBlock = some b := fun k v xs ho b hb r => by
                rcases hfar4.2 with ⟨r1, _⟩ | ⟨g', cap, cur, r1, _, hh, _⟩
                · rw [r1] at r; cases r
                · rw [r1] at r; cases r
                  rcases ho.2 with ⟨r2, _⟩ | ⟨g2, cap2, cur2, r2, _, hh2, _⟩
                  · rw [r2] at hb; cases hb
                  · rw [r2] at hb; cases hb
                    rw [hh] at hh2
                    exact absurd (Obj.cells.inj (Option.some.inj hh2)).2.1 (by decide)
              have hfsB : PFars wB W2.heap.size ps (fv ++ [.slice al (n + 90) cl]) := fun i f v h1 h2 => by
                rw [List.getElem?_append] at h2
                by_cases hil : i < fv.length
                · rw [if_pos hil] at h2
                  exact own_turns (hfs4 i f v h1 h2) tB (hne _ _ _ (hfs4 i f v h1 h2))
                · rw [if_neg hil] at h2
                  have hi0 : i - fv.length = 0 := by
                    have := (List.getElem?_eq_some_iff.1 h2).1
                    simp at this; omega
                  rw [hi0] at h2
                  have hiq : i = q := by omega
                  subst hiq
                  rw [hp] at h1
                  cases h1
                  cases h2
                  exact own_turns hdn tB (hne _ _ _ hdn)
              have hBB : Below W2.heap.size W2 wB := hB4.trans (tB.below (fun i r => (hfar4.lt i r).1) hB4.size)
              go_roundw
              case rel => exact ⟨q + 1, _, by omega, by go_num, hoB, hfsB, hBB⟩
              case measure => simp [intOf]; omega
        · have hqi : ¬ (q : Int) < N := by omega
          obtain rfl : q = N := by omega
          have hfl := hfar.1
          obtain ⟨af, cf, rfl⟩ := row_slice hfar
          rename World => W3
          have hTT : Turns (fun i => ∃ p ∈ ps, p.1 = i) w W3 := hTW.trans (Below.turns hB (fun _ => False)) (fun _ _ h => h.elim)
          clear hB hM hHr hTW
          go_wp2_with fail
          go_loopw [9] (fun i wr => ∃ t : Nat, t ≤ q ∧ i = .int .i64 t ∧ Below W3.heap.size W3 wr) (fun i _ => q - (intOf i).toNat)
          case atStart => exact ⟨0, Nat.zero_le _, rfl, Below.refl _ _⟩
          case round =>
            obtain ⟨t, ht, rfl, hB⟩ := hrel
            by_cases hlt : t < q
            · have hti : (t : Int) < q := by omega
              obtain ⟨p, hp⟩ : ∃ p, ps[t]? = some p := ⟨_, List.getElem?_eq_getElem (by omega)⟩
              have hpm := List.mem_of_getElem? hp
              obtain ⟨gP, haP, l0⟩ := pls_get hH3 hp hlt
              subst haP
              have hdat := hM3.lo t p hp hlt
              have hL := hen p hpm
              obtain ⟨gF, cF, haF, hf0⟩ := own_get hfar hlt
              obtain ⟨v, hv⟩ : ∃ v, fv[t]? = some v := ⟨_, List.getElem?_eq_getElem (by omega)⟩
              have hro := hfs t p v hp hv
              obtain ⟨G, n⟩ := p
              dsimp only at *
              rw [hv] at hf0
              obtain ⟨av, cv, rfl⟩ := row_slice hro
              obtain ⟨gv, cv', hav, _⟩ := own_get2 hro (i := 0) (by omega)
              have hav : av = some ⟨gv, 0, none⟩ ∧ cv = cv' := by cases hav; exact ⟨rfl, rfl⟩
              obtain ⟨rfl, rfl⟩ := hav
              have haF' : af = some ⟨gF, 0, none⟩ := by cases haF; rfl
              subst haF'
              have l1 := cell_later hB l0
              have f1 := cell_later hB hf0
              have hm : IntKind.i64.wrap (1000 + (t : Int)) = ((1000 + t : Nat) : Int) := by
                rw [Go.IntWalk.i64_in _ ⟨by omega, by omega⟩]; omega
              have hni : (n : Int) ≤ 1000000 := by omega
              have rdF : ∀ u, u < n + 90 → W3.cell? ⟨gv, u * 2, none⟩ = some (.int .i64 ((1000 + t : Nat) : Int)) := fun u hu => by
                obtain ⟨g', c', hv', hc, _⟩ := own_get2 hro hu
                cases hv'
                rw [hc]
                exact (rep_at _ _ _ hu).1
              have rdL : ∀ u, u < n → W3.cell? ⟨G, u * 2, none⟩ = some (.int .i64 ((1000 + t : Nat) : Int)) := fun u hu => by
                have := (rep_at n (.int .i64 ((1000 + t : Nat) : Int)) (.slice none 0 0) hu).1
                simp only [World.cell?, hdat]
                simpa [pm] using this
              clear hro hdat hfs
              rename World => W4
              go_wp2_with fail
              go_loopw [10] (fun j wr => ∃ u : Nat, u ≤ n + 90 ∧ j = .int .i64 u ∧ Below W3.heap.size W3 wr) (fun j _ => n + 90 - (intOf j).toNat)
              case atStart => exact ⟨0, Nat.zero_le _, rfl, by first | exact hB | exact Below.drewN hB _⟩
              case round =>
                clear l1 f1
                obtain ⟨u, hu, rfl, hB5⟩ := hrel
                have l2 := cell_later hB5 l0
                have f2 := cell_later hB5 hf0
                by_cases hlu : u < n + 90
                · have hui : (u : Int) < n + 90 := by omega
                  have r1 := cell_later hB5 (rdF u hlu)
                  by_cases hun : u < n
                  · have huni : (u : Int) < n := by omega
                    have r2 := cell_later hB5 (rdL u hun)
                    clear rdF rdL l0 hf0
                    go_wp2_with fail
                    refine ⟨⟨u + 1, by omega, by simp, hB5⟩, by simp [intOf]; omega⟩
                  · have huni : ¬ (u : Int) < n := by omega
                    clear rdF rdL l0 hf0
                    go_wp2_with fail
                    refine ⟨⟨u + 1, by omega, by simp, hB5⟩, by simp [intOf]; omega⟩
                · have hui : ¬ (u : Int) < n + 90 := by omega
                  go_wp2_with fail
                  go_roundw
                  case rel => exact ⟨t + 1, by omega, by go_num, hB5⟩
                  case measure => simp [intOf]; omega
            · have hti : ¬ (t : Int) < q := by omega
              go_wp2
              go_ret
              exact ⟨rfl, (hTT.trans (Below.turns hB (fun _ => False)) (fun _ _ h => h.elim)).mono (fun i _ ⟨p, hp, r⟩ => ⟨p.2, by rw [← r]; exact hp⟩)⟩
end Go.Proofs.Ytkffnbcfmaoldab
