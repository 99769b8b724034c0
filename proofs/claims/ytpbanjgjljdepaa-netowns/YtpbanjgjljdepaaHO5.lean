/- apartFlights by its contract. -/
import Derived.Test.YtpbanjgjljdepaaHO4
namespace Go.Proofs.Ytpbanjgjljdepaa
open Go.RowKit Go.Maps
set_option maxRecDepth 100000

theorem Try.infoLF : (Try.prog.info? 34).map (fun i => (i.zero, i.size, i.bytes)) = some (some (.slice none 0 0), 1, 24) := by kernel_rfl
/-- A list of flights that is kept: its number, what it holds. -/
structure Pf where
  v : Value
  n : Nat
  L : List Value
/-- The mark of a list of flights. -/
def pm (t : Nat) : List Value := [.int .i64 ((1000 + t : Nat) : Int), .int .i64 0, .slice none 0 0]
theorem rep_len (k : Nat) (a b c : Value) : (rep k [a, b, c]).length = k * 3 := by
  induction k with
  | zero => rfl
  | succ k ih => rw [rep_succ, List.length_append, ih]; simp; omega
theorem rep_at (k : Nat) (a b c : Value) {u : Nat} (hu : u < k) : (rep k [a, b, c])[u * 3]? = some a ∧ (rep k [a, b, c])[u * 3 + 1]? = some b ∧ (rep k [a, b, c])[u * 3 + 2]? = some c := by
  induction k with
  | zero => omega
  | succ k ih =>
    rw [rep_succ, List.getElem?_append, List.getElem?_append, List.getElem?_append, rep_len]
    by_cases h : u < k
    · rw [if_pos (by omega), if_pos (by omega), if_pos (by omega)]; exact ih h
    · obtain rfl : u = k := by omega
      rw [if_neg (by omega), if_neg (by omega), if_neg (by omega), show u * 3 - u * 3 = 0 by omega, show u * 3 + 1 - u * 3 = 1 by omega, show u * 3 + 2 - u * 3 = 2 by omega]
      exact ⟨rfl, rfl, rfl⟩
theorem rep_ext {bs : List Value} {k : Nat} {a b c : Value} (hl : bs.length = k * 3) (h : ∀ u, u < k → bs[u * 3]? = some a ∧ bs[u * 3 + 1]? = some b ∧ bs[u * 3 + 2]? = some c) : bs = rep k [a, b, c] := by
  refine List.ext_getElem? (fun i => ?_)
  by_cases hi : i < k * 3
  · obtain ⟨u, r, hr, rfl⟩ : ∃ u r, r < 3 ∧ i = u * 3 + r := ⟨i / 3, i % 3, by omega, by omega⟩
    have hu : u < k := by omega
    obtain ⟨h1, h2, h3⟩ := h u hu
    obtain ⟨g1, g2, g3⟩ := rep_at k a b c hu
    obtain rfl | rfl | rfl : r = 0 ∨ r = 1 ∨ r = 2 := by omega
    · rw [Nat.add_zero, h1, g1]
    · rw [h2, g2]
    · rw [h3, g3]
  · rw [List.getElem?_eq_none (by omega), List.getElem?_eq_none (by rw [rep_len]; omega)]
theorem own_get3 {w : World} {base e n : Nat} {v : Value} {xs : List Value} (h : w.ownsRow base e 3 v n xs) {i : Nat} (hi : i < n) : ∃ g cap, v = .slice (some ⟨g, 0, none⟩) n cap ∧ w.cell? ⟨g, i * 3, none⟩ = xs[i * 3]? ∧ w.cell? ⟨g, i * 3 + 1, none⟩ = xs[i * 3 + 1]? ∧ w.cell? ⟨g, i * 3 + 2, none⟩ = xs[i * 3 + 2]? := by
  rcases h.2 with ⟨_, h0⟩ | ⟨g, cap, cur, hv, _, hg, h1, h2, h3, h4⟩
  · omega
  · refine ⟨g, cap, hv, ?_, ?_, ?_⟩ <;>
    · rw [← h4, List.getElem?_take, if_pos (by omega)]
      simp only [World.cell?, hg]
      simp
abbrev pA' (i : Nat) (x : Pf) : List Value := rep x.n (pm i)
abbrev pB' (_ : Nat) (x : Pf) : List Value := x.L
abbrev pC' (i : Nat) (x : Pf) : List Value := rep (x.n + 90) (pm i)
/-- Lists of flights kept: their row's block labelled 4, they themselves 7. -/
structure Pls (w : World) (lab : Nat → Nat) (pv : Value) (ps : List Pf) : Prop where
  row : w.ownsRow 0 34 1 pv ps.length (ps.map Pf.v)
  kr : ∀ b, pv.ownBlock = some b → lab b = 4
  dat : ∀ p ∈ ps, w.ownsRow 0 42 3 p.v p.n p.L
  kd : ∀ p ∈ ps, ∀ b, p.v.ownBlock = some b → lab b = 7
  le : ∀ p ∈ ps, p.n ≤ 4096
  sep : ps.Pairwise (fun a b => ∀ g, a.v.ownBlock = some g → b.v.ownBlock ≠ some g)
theorem pls_get {w : World} {Z : Nat} {aP : Option Addr} {cP : Nat} {ps : List Pf} (h : w.ownsRow 0 34 1 (.slice aP Z cP) Z (ps.map Pf.v)) {t : Nat} {p : Pf} (hp : ps[t]? = some p) (ht : t < Z) : ∃ gP, aP = some ⟨gP, 0, none⟩ ∧ w.cell? ⟨gP, t, none⟩ = some p.v := by
  obtain ⟨g, cap, hv, hc⟩ := own_get h ht
  refine ⟨g, ?_, ?_⟩
  · cases hv; rfl
  · rw [hc]; simp [hp]
theorem pmw (t N : Nat) (h : t < N) (hN : N ≤ 1000) : IntKind.i64.wrap (1000 + (t : Int)) = ((1000 + t : Nat) : Int) := by
  rw [Go.IntWalk.i64_in _ ⟨by omega, by omega⟩]; omega

set_option maxHeartbeats 4000000 in
theorem apartFlights_h {w : World} {lab : Nat → Nat} {pv : Value} {ps : List Pf} (h : Pls w lab pv ps) (hps : ps.length ≤ 1000) :
    Calls Try.prog 28 #[pv] w fun e w' => e = .returned (.bool true) ∧ Turns (fun i => ∃ p ∈ ps, p.v.ownBlock = some i) w w' := by
  obtain ⟨i0, hi, hz0, hz1, hz2⟩ := info_parts Try.infoFL
  obtain ⟨i1, hi', hy0, hy1, hy2⟩ := info_parts Try.infoLF
  obtain ⟨aP, cP, rfl⟩ := own_slice h.row
  obtain ⟨N, hN⟩ : ∃ N, ps.length = N := ⟨_, rfl⟩
  have hH := h.row
  have hsep := h.sep
  have hen := h.le
  rw [hN] at hH hps
  have hM : Rows w 42 3 Pf.v Pf.n pA' pB' ps 0 := ⟨fun i e _ q => by omega, fun i p hp _ => h.dat p (List.mem_of_getElem? hp)⟩
  have G2 : ∀ b, (Value.slice aP N cP).ownBlock = some b → ¬ ∃ p ∈ ps, p.v.ownBlock = some b := fun b hb ⟨e, he, q⟩ => own_apart (h.dat e he) hH (by decide) b q hb
  clear h
  have hNi : (N : Int) ≤ 1000 := by omega
  rw [hN]
  go_enter Try.func28, Try.ntmps28
  go_wp2_with fail
  go_loopw [4] (fun i wr => ∃ t : Nat, t ≤ N ∧ i = .int .i64 t ∧ Turns (fun i => ∃ p ∈ ps, p.v.ownBlock = some i) w wr ∧ Rows wr 42 3 Pf.v Pf.n pA' pB' ps t) (fun i _ => N - (intOf i).toNat)
  case atStart => exact ⟨0, Nat.zero_le _, rfl, Turns.refl _ _, hM⟩
  case round =>
    clear hM
    obtain ⟨t, ht, rfl, hT, hM⟩ := hrel
    have hHr := own_turns hH hT G2
    by_cases hlt : t < N
    · have hti : (t : Int) < N := by omega
      obtain ⟨p, hp⟩ : ∃ p, ps[t]? = some p := ⟨_, List.getElem?_eq_getElem (by omega)⟩
      have hpm := List.mem_of_getElem? hp
      obtain ⟨gP, haP, l0⟩ := pls_get hHr hp hlt
      subst haP
      have hdat := hM.hi t p hp (Nat.le_refl _)
      have hL := hen p hpm
      obtain ⟨n, hn⟩ : ∃ n, p.n = n := ⟨_, rfl⟩
      obtain ⟨ae, ce, hev⟩ := own_slice hdat
      rw [hn] at hL hdat hev
      rw [hev] at l0 hdat
      have hm := pmw t N hlt hps
      have hni : (n : Int) ≤ 4096 := by omega
      rename World => W1
      go_wp2_with fail
      go_loopw [5] (fun j wr => ∃ (q : Nat) (bs : List Value), q ≤ n ∧ j = .int .i64 q ∧ wr.ownsRow 0 42 3 (.slice ae n ce) n bs ∧ (∀ u, u < q → bs[u * 3]? = some (.int .i64 ((1000 + t : Nat) : Int)) ∧ bs[u * 3 + 1]? = some (.int .i64 0) ∧ bs[u * 3 + 2]? = some (.slice none 0 0)) ∧ Turns (fun i => (Value.slice ae n ce).ownBlock = some i) W1 wr) (fun j _ => n - (intOf j).toNat)
      case atStart => exact ⟨0, _, Nat.zero_le _, rfl, hdat, (fun u hu => by omega), Turns.refl _ _⟩
      case round =>
        obtain ⟨q, bs, hq, rfl, hbs, hmk, hT2⟩ := hrel
        have hH2 := own_turns hHr hT2 (fun b hb' r => G2 b hb' ⟨p, hpm, by rw [hev]; exact r⟩)
        have d1 : wr.cell? ⟨gP, t, none⟩ = some (.slice ae n ce) := by
          obtain ⟨g', h1, h2⟩ := pls_get hH2 hp hlt
          cases h1
          rw [h2, hev]
        by_cases hlq : q < n
        · have hqi : (q : Int) < n := by omega
          obtain ⟨g, c', hae, k0, k1, k2⟩ := own_get3 hbs hlq
          obtain ⟨rfl, rfl⟩ : ae = some ⟨g, 0, none⟩ ∧ ce = c' := by cases hae; exact ⟨rfl, rfl⟩
          have hbl := hbs.1
          have i0' : q * 3 < bs.length := by omega
          have i1' : q * 3 + 1 < bs.length := by omega
          have i2' : q * 3 + 2 < bs.length := by omega
          rw [List.getElem?_eq_getElem i0'] at k0
          rw [List.getElem?_eq_getElem i1'] at k1
          rw [List.getElem?_eq_getElem i2'] at k2
          have f0 : wr.frozen? ⟨g, q * 3, none⟩ = false := own_fz hbs _
          have f1 : wr.frozen? ⟨g, q * 3 + 1, none⟩ = false := own_fz hbs _
          have f2 : wr.frozen? ⟨g, q * 3 + 2, none⟩ = false := own_fz hbs _
          have hw3 : ∃ wx, wx = ((wr.setCell ⟨g, q * 3, none⟩ (.int .i64 ((1000 + t : Nat) : Int))).setCell ⟨g, q * 3 + 1, none⟩ (.int .i64 0)).setCell ⟨g, q * 3 + 2, none⟩ (.slice none 0 0) := ⟨_, rfl⟩
          have HG2 : Hid ((((wr.setCell ⟨g, q * 3, none⟩ (.int .i64 ((1000 + t : Nat) : Int))).setCell ⟨g, q * 3 + 1, none⟩ (.int .i64 0)).setCell ⟨g, q * 3 + 2, none⟩ (.slice none 0 0)).ownsRow 0 42 3 (.slice (some ⟨g, 0, none⟩) n ce) n (((bs.set (q * 3) (.int .i64 ((1000 + t : Nat) : Int))).set (q * 3 + 1) (.int .i64 0)).set (q * 3 + 2) (.slice none 0 0))) := (((hbs.stored (q * 3) _).1.stored (q * 3 + 1) _).1.stored (q * 3 + 2) _).1
          have HT2 : Hid (Turns (fun i => (Value.slice (some ⟨g, 0, none⟩) n ce).ownBlock = some i) W1 (((wr.setCell ⟨g, q * 3, none⟩ (.int .i64 ((1000 + t : Nat) : Int))).setCell ⟨g, q * 3 + 1, none⟩ (.int .i64 0)).setCell ⟨g, q * 3 + 2, none⟩ (.slice none 0 0))) := ((hT2.trans (Turns.cell wr g _ _) (fun _ _ h => by rw [h]; rfl)).trans (Turns.cell _ g _ _) (fun _ _ h => by rw [h]; rfl)).trans (Turns.cell _ g _ _) (fun _ _ h => by rw [h]; rfl)
          have HBS : Hid (∀ u, u < q + 1 → (((bs.set (q * 3) (.int .i64 ((1000 + t : Nat) : Int))).set (q * 3 + 1) (.int .i64 0)).set (q * 3 + 2) (.slice none 0 0))[u * 3]? = some (.int .i64 ((1000 + t : Nat) : Int)) ∧ (((bs.set (q * 3) (.int .i64 ((1000 + t : Nat) : Int))).set (q * 3 + 1) (.int .i64 0)).set (q * 3 + 2) (.slice none 0 0))[u * 3 + 1]? = some (.int .i64 0) ∧ (((bs.set (q * 3) (.int .i64 ((1000 + t : Nat) : Int))).set (q * 3 + 1) (.int .i64 0)).set (q * 3 + 2) (.slice none 0 0))[u * 3 + 2]? = some (.slice none 0 0)) := fun u hu => by
            simp only [List.getElem?_set, List.length_set]
            by_cases r : q = u
            · subst r
              refine ⟨?_, ?_, ?_⟩
              · rw [if_neg (by omega), if_neg (by omega), if_pos (by omega), if_pos (by omega)]
              · rw [if_neg (by omega), if_pos (by omega), if_pos (by omega)]
              · rw [if_pos (by omega), if_pos (by omega)]
            · obtain ⟨m1, m2, m3⟩ := hmk u (by omega)
              refine ⟨?_, ?_, ?_⟩
              · rw [if_neg (by omega), if_neg (by omega), if_neg (by omega)]; exact m1
              · rw [if_neg (by omega), if_neg (by omega), if_neg (by omega)]; exact m2
              · rw [if_neg (by omega), if_neg (by omega), if_neg (by omega)]; exact m3
          clear hbs hT2 hmk hH2 hae hdat hw3
          go_wp2_with fail
          go_roundw
          case rel => exact ⟨q + 1, _, by omega, by go_num, HG2.out, HBS.out, HT2.out⟩
          case measure => simp [intOf]; omega
        · obtain rfl : q = n := by omega
          have hbe := rep_ext hbs.1 hmk
          subst hbe
          have hM2 := hM.step hsep hp (by rw [hev]; exact hT2) (by rw [hev]; simp only [pA', hn]; exact hbs)
          have hTT := hT.trans hT2 (fun i _ r => ⟨p, hpm, by rw [hev]; exact r⟩)
          go_wp2_with fail
          go_roundw
          case rel => exact ⟨t + 1, by omega, by go_num, hTT, hM2⟩
          case measure => simp [intOf]; omega
    · have hti : ¬ (t : Int) < N := by omega
      have htN : t = N := by omega
      rw [htN] at hM
      rename World => W2
      have hTW := hT
      have hold : ∀ e ∈ ps, ∀ b, e.v.ownBlock = some b → b < W2.heap.size := fun e he b q => by
        obtain ⟨i, hi⟩ := List.mem_iff_getElem?.1 he
        obtain ⟨_, ho⟩ := hM.own hi
        exact own_lt ho q
      clear hT hH
      go_wp2_with fail
      go_loopw [3, 6] (fun far i wr => ∃ (q : Nat) (fv : List Value), q ≤ N ∧ i = .int .i64 q ∧ wr.ownsRow W2.heap.size 34 1 far q fv ∧ Gone wr W2.heap.size 42 3 Pf.v (fun e => e.n + 90) pC' ps fv ∧ Rows wr 42 3 Pf.v Pf.n pA' pB' ps N ∧ Turns (fun i => ∃ p ∈ ps, p.v.ownBlock = some i) W2 wr) (fun _ i _ => N - (intOf i).toNat)
      case atStart => exact ⟨0, [], Nat.zero_le _, rfl, ⟨rfl, Or.inl ⟨rfl, rfl⟩⟩, (fun i e v _ hv => by simp at hv), hM, Turns.refl _ _⟩
      case round =>
        clear hM
        obtain ⟨q, fv, hq, rfl, hfar, hfs, hM3, hB⟩ := hrel
        have hH3 := own_turns hHr hB G2
        by_cases hlq : q < N
        · have hqi : (q : Int) < N := by omega
          obtain ⟨e, he⟩ : ∃ e, ps[q]? = some e := ⟨_, List.getElem?_eq_getElem (by omega)⟩
          have hem := List.mem_of_getElem? he
          obtain ⟨gP, haP, l0⟩ := pls_get hH3 he hlq
          subst haP
          have hdat := hM3.lo q e he hlq
          have hL := hen e hem
          obtain ⟨n, hn⟩ : ∃ n, e.n = n := ⟨_, rfl⟩
          obtain ⟨ae, ce, hev⟩ := own_slice hdat
          dsimp only [pA'] at hdat
          rw [hn] at hL hdat hev
          rw [hev] at l0 hdat
          have hm := pmw q N hlq hps
          have hni : (n : Int) ≤ 4096 := by omega
          rename World => W3
          have hst : Far W3 W3 42 3 n 0 (.slice ae n ce) (.slice ae n ce) (rep n (pm q)) (pm q) := Far.start _ hdat
          have hsz := hB.size
          go_wp2_with fail
          go_loopw [7, 8] (fun l k wr => ∃ u : Nat, u ≤ 90 ∧ k = .int .i64 u ∧ Far W3 wr 42 3 n u (.slice ae n ce) l (rep n (pm q)) (pm q)) (fun _ k _ => 90 - (intOf k).toNat)
          case atStart => exact ⟨0, Nat.zero_le _, rfl, hst⟩
          case round =>
            clear hst
            obtain ⟨u, hu, rfl, hF⟩ := hrel
            have hown := hF.own
            have hFs := hF.tu.size
            by_cases hlp : u < 90
            · have hpi : (u : Int) < 90 := by omega
              obtain ⟨al, cl, rfl⟩ := own_slice hown
              go_wp2_with (at_builtin; refine wpList_append_own_split _ rfl _ _ 34 rfl 0 42 i0 (.agg #[.int .i64 0, .int .i64 0, .slice none 0 0]) 3 40 Try.underlying34 hi hz0 hz1 hz2 rfl (by decide) _ _ _ rfl (hown.alloc _) ⟨wr.heap.size, 0, none⟩ 1 1 (pm q) (by decide) rfl rfl (cell_three_new _ _ _ _ _) (by intro x hx; simp [pm] at hx; rcases hx with rfl | rfl | rfl <;> rfl) (by unfold maxLen; omega) (by omega) (by first | omega | (simp; done) | (simp; omega)) ?_; intro v3 w3 hv3 hl3)
              have hF3 := hF.step hv3 hl3
              go_roundw
              case rel => exact ⟨u + 1, by omega, by go_num, hF3⟩
              case measure => simp [intOf]; omega
            · have hpi : ¬ (u : Int) < 90 := by omega
              obtain rfl : u = 90 := by omega
              have hdn := hown
              rw [rep_add] at hdn
              obtain ⟨al, cl, rfl⟩ := own_slice hown
              have hne0 : ∀ b, W2.heap.size ≤ b → ¬ (Value.slice ae n ce).ownBlock = some b := fun b hb r => by
                have := hold e hem b (by rw [hev]; exact r)
                omega
              have hfar4 := own_turns hfar hF.tu (fun b hb => hne0 b (own_ge hfar hb))
              obtain ⟨af, cf, rfl⟩ := own_slice hfar4
              have hB4 := hB.trans hF.tu (fun i _ r => ⟨e, hem, by rw [hev]; exact r⟩)
              have hfl := hfar4.1
              have hM4 : Rows wr 42 3 Pf.v Pf.n pA' pB' ps N := ⟨fun i x hx hi => by
                by_cases c : i = q
                · subst c; rw [he] at hx; cases hx
                  rw [hev]; simp only [pA', hn]; exact hF.st
                · exact own_turns (hM3.lo i x hx hi) hF.tu (by rw [← hev]; exact sep_at hsep hx he c), fun i x hx hi => by
                have := (List.getElem?_eq_some_iff.1 hx).1; omega⟩
              have hfs4 : Gone wr W2.heap.size 42 3 Pf.v (fun e => e.n + 90) pC' ps fv := hfs.turns hF.tu (fun i x v hx hv b hb => by
                rcases (hfs i x v hx hv).2 b hb with r | r
                · have := (List.getElem?_eq_some_iff.1 hv).1
                  rw [← hev]; exact sep_at hsep hx he (by omega) b r
                · exact hne0 b r)
              have hfp : ∀ b, (Value.slice al (n + 90) cl).ownBlock = some b → e.v.ownBlock = some b ∨ W2.heap.size ≤ b := fun b hb => (hF.pos b hb).imp (fun r => by rw [hev]; exact r) (fun r => by omega)
              have hfs5 := hfs4.snoc (x := e) (v := .slice al (n + 90) cl) (by rw [hfl, Nat.mul_one]; exact he) (by rw [hfl, Nat.mul_one]; simp only [pC', hn]; exact hdn) hfp
              clear hfar hfs hF hown hB hM3 hfs4
              go_wp2_with (at_builtin; refine wpList_append_own_at _ rfl _ _ 57 rfl W2.heap.size 34 i1 (.slice none 0 0) 1 24 Try.underlying57 hi' hy0 hy1 hy2 rfl (by decide) _ q _ rfl (hfar4.alloc _) ⟨wr.heap.size, 0, none⟩ 1 1 [.slice al (n + 90) cl] rfl rfl (cell_one_new _ _ _) (by intro u hu; simp at hu; subst hu; rfl) (by unfold maxLen; omega) (by omega) (by first | omega | (simp; done) | (simp; omega)) ?_; intro vB wB hoB hgB hnB hatB)
              have tB : Turns (fun i => (Value.slice af q cf).ownBlock = some i) wr wB := (Turns.alloc _ wr _).trans (Turns.grown (F := fun i => (Value.slice af q cf).ownBlock = some i) hgB (fun b hb => hb)) (fun _ _ h => h)
              have hfsB := hfs5.turns tB (fun i x v hx hv => own_apart (hfs5 i x v hx hv).1 hfar4 (by decide))
              have hMB := hM4.turns tB (fun x hx b hb => by
                obtain ⟨i, hi⟩ := List.mem_iff_getElem?.1 hx
                obtain ⟨_, ho⟩ := hM4.own hi
                exact own_apart ho hfar4 (by decide) b hb)
              have hBB : Turns (fun i => ∃ p ∈ ps, p.v.ownBlock = some i) W2 wB := hB4.trans tB (fun i hi r => by have := own_ge hfar4 r; omega)
              go_roundw
              case rel => exact ⟨q + 1, _, by omega, by go_num, hoB, hfsB, hMB, hBB⟩
              case measure => simp [intOf]; omega
        · have hqi : ¬ (q : Int) < N := by omega
          obtain rfl : q = N := by omega
          have hfl := hfar.1
          obtain ⟨af, cf, rfl⟩ := own_slice hfar
          rename World => W3
          have hTT : Turns (fun i => ∃ p ∈ ps, p.v.ownBlock = some i) w W3 := hTW.trans hB (fun _ _ h => h)
          clear hB hHr hTW
          go_wp2_with fail
          go_loopw [9] (fun i wr => ∃ t : Nat, t ≤ q ∧ i = .int .i64 t ∧ Below W3.heap.size W3 wr) (fun i _ => q - (intOf i).toNat)
          case atStart => exact ⟨0, Nat.zero_le _, rfl, Below.refl _ _⟩
          case round =>
            obtain ⟨t, ht, rfl, hB⟩ := hrel
            by_cases hlt : t < q
            · have hti : (t : Int) < q := by omega
              obtain ⟨e, he⟩ : ∃ e, ps[t]? = some e := ⟨_, List.getElem?_eq_getElem (by omega)⟩
              have hem := List.mem_of_getElem? he
              obtain ⟨gP, haP, l0⟩ := pls_get hH3 he hlt
              subst haP
              have hdat := hM3.lo t e he hlt
              have hL := hen e hem
              obtain ⟨n, hn⟩ : ∃ n, e.n = n := ⟨_, rfl⟩
              obtain ⟨ae, ce, hev⟩ := own_slice hdat
              dsimp only [pA'] at hdat
              rw [hn] at hL hdat hev
              rw [hev] at l0 hdat
              have l1 := cell_later hB l0
              obtain ⟨gF, cF, haF, hf0⟩ := own_get hfar hlt
              obtain ⟨v, hv⟩ : ∃ v, fv[t]? = some v := ⟨_, List.getElem?_eq_getElem (by omega)⟩
              have hro := (hfs t e v he hv).1
              dsimp only [pC'] at hro
              rw [hn] at hro
              rw [hv] at hf0
              obtain ⟨av, cv, rfl⟩ := own_slice hro
              obtain ⟨gv, cv', hav, _⟩ := own_get3 hro (i := 0) (by omega)
              have hav : av = some ⟨gv, 0, none⟩ ∧ cv = cv' := by cases hav; exact ⟨rfl, rfl⟩
              obtain ⟨rfl, rfl⟩ := hav
              have haF' : af = some ⟨gF, 0, none⟩ := by cases haF; rfl
              subst haF'
              have f1 := cell_later hB hf0
              have hm := pmw t q hlt hps
              have hni : (n : Int) ≤ 4096 := by omega
              have rdF : ∀ u, u < n + 90 → W3.cell? ⟨gv, u * 3, none⟩ = some (.int .i64 ((1000 + t : Nat) : Int)) := fun u hu => by
                obtain ⟨g', c', hv', hc, _⟩ := own_get3 hro hu
                cases hv'
                rw [hc]
                exact (rep_at _ _ _ _ hu).1
              have rdL : ∀ u, u < n → ∃ g, ae = some ⟨g, 0, none⟩ ∧ W3.cell? ⟨g, u * 3, none⟩ = some (.int .i64 ((1000 + t : Nat) : Int)) := fun u hu => by
                obtain ⟨g', c', hv', hc, _⟩ := own_get3 hdat hu
                refine ⟨g', by cases hv'; rfl, ?_⟩
                rw [hc]
                exact (rep_at _ _ _ _ hu).1
              clear hro hdat hfs hM3
              rename World => W4
              go_wp2_with fail
              go_loopw [10] (fun j wr => ∃ u : Nat, u ≤ n + 90 ∧ j = .int .i64 u ∧ Below W3.heap.size W3 wr) (fun j _ => n + 90 - (intOf j).toNat)
              case atStart => exact ⟨0, Nat.zero_le _, rfl, by first | exact hB | exact hB.trans ((below_drewN _ _).mono hB.size)⟩
              case round =>
                clear l1 f1
                obtain ⟨u, hu, rfl, hB5⟩ := hrel
                have l2 := cell_later hB5 l0
                have f2 := cell_later hB5 hf0
                by_cases hlu : u < n + 90
                · have hui : (u : Int) < n + 90 := by omega
                  have r1 := cell_later hB5 (rdF u hlu)
                  by_cases hun : u < n
                  · have huni : (u : Int) < n := by omega
                    obtain ⟨ge, rfl, r2'⟩ := rdL u hun
                    have r2 := cell_later hB5 r2'
                    clear rdF rdL l0 hf0 r2'
                    go_wp2_with fail
                    refine ⟨⟨u + 1, by omega, by simp, hB5⟩, by simp [intOf]; omega⟩
                  · have huni : ¬ (u : Int) < n := by omega
                    clear rdF rdL l0 hf0
                    go_wp2_with fail
                    refine ⟨⟨u + 1, by omega, by simp, hB5⟩, by simp [intOf]; omega⟩
                · have hui : ¬ (u : Int) < n + 90 := by omega
                  go_wp2_with fail
                  go_roundw
                  case rel => exact ⟨t + 1, by omega, by go_num, hB5⟩
                  case measure => simp [intOf]; omega
            · have hti : ¬ (t : Int) < q := by omega
              go_wp2
              go_ret
              exact ⟨rfl, hTT.trans (Below.turns hB (fun _ => False)) (fun _ _ h => h.elim)⟩
end Go.Proofs.Ytpbanjgjljdepaa
