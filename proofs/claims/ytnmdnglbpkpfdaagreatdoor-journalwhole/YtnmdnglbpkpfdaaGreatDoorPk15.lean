/- What a call holds while it reads of the device; the transaction that stands at a place of the log. -/
import Derived.Test.YtnmdnglbpkpfdaaGreatDoorPk14
import Derived.Test.YtnmdnglbpkpfdaaGreatDoorPk09
namespace Go.Proofs.YtnmdnglbpkpfdaaGreatDoor
open Go.RowKit Go.Maps
set_option maxRecDepth 100000
/-- A call reads: its work has met no error; only the device's own blocks and the work's have turned since w. -/
structure Rg (w wr : World) (G : Nat → Prop) (wb d : Nat) (S : DevS) (k N : Nat) : Prop where
  wk : Wk wr wb d .nilIface
  D : Dev wr d 0 S k N G
  tr : Turns (fun i => G i ∨ i = wb) w wr
section
variable {w w1 w2 : World} {G : Nat → Prop} {wb d : Nat} {S : DevS} {k N : Nat}
theorem Rg.below (h : Rg w w1 G wb d S k N) (b : Below w1.heap.size w1 w2) : Rg w w2 G wb d S k N := ⟨h.wk.turns (Below.turns b (fun _ => False)) id, h.D.below b, h.tr.trans (Below.turns b (fun _ => False)) (fun _ _ r => r.elim)⟩
theorem Rg.read (h : Rg w w1 G wb d S k N) (k1 : Wk w2 wb d .nilIface) (d1 : Dev w2 d 0 S k N G) (t1 : Turns (fun i => G i ∨ i = wb) w1 w2) : Rg w w2 G wb d S k N := ⟨k1, d1, h.tr.trans t1 (fun _ _ r => r)⟩
theorem Rg.same (h : Rg w w1 G wb d S k N) (hw : ¬ G wb) (q : Same0 w1 w2 d S k N G) : Rg w w2 G wb d S k N := ⟨h.wk.turns q.2 hw, q.1, h.tr.trans q.2 (fun _ _ r => Or.inl r)⟩
theorem Rg.jb (h : Rg w w1 G wb d S k N) {jb st sz : Nat} {seq free : Int} {place bm : Nat} {op : Option Nat} (hJ : Jb w jb d st sz seq place free bm op) (h1 : ¬ G jb) (h2 : jb ≠ wb) : Jb w1 jb d st sz seq place free bm op := (h.tr.block jb (heap_lt hJ) (fun r => r.elim h1 h2)).trans hJ
end
/-- The block of a place. -/
def atN (st sz place i : Nat) : Nat := st + 1 + (place + i) % (sz - 1)
theorem atN_lt {st sz place i k : Nat} (h1 : 2 ≤ sz) (h2 : st + sz ≤ k) : atN st sz place i < k := by
  have := Nat.mod_lt (place + i) (show 0 < sz - 1 by omega)
  unfold atN
  omega
/-- The block of line i as it was; may all up to n look so? -/
def nxB (S : DevS) (st sz place : Nat) (ls : List (Nat × Nat)) (i : Nat) : List Int := shB (rdB S (atN st sz place (i + 1))) (ls.getD i (0, 0)).2
def nxOk (S : DevS) (st sz place : Nat) (ls : List (Nat × Nat)) (n : Nat) : Bool := (List.range n).all fun i => shOk (rdB S (atN st sz place (i + 1))) (ls.getD i (0, 0)).2
/-- The lines of the transaction that stands there; none, if there is none that is right and whole. -/
def nextL (S : DevS) (k st sz : Nat) (seq : Int) (place : Nat) (free : Int) : List (Nat × Nat) :=
  let ls := linesR (rdB S (atN st sz place 0)) seq
  if ls ≠ [] ∧ (ls.length : Int) + 2 ≤ free ∧ mayB k st sz ls = true ∧ isCom (rdB S (atN st sz place (ls.length + 1))) seq = true ∧ nxOk S st sz place ls ls.length = true then ls else []
theorem linesR_len (bs : List Int) (seq : Int) (hy : ∀ x ∈ bs, 0 ≤ x ∧ x ≤ 255) : (linesR bs seq).length ≤ 24 := by
  unfold linesR
  split
  · have := rdNum_bd 4 508 ((bs.drop 4).take 508) 0 0 24 (by omega) (val_bd _ (fun x hx => hy x (List.mem_of_mem_drop (List.mem_of_mem_take (List.mem_of_mem_drop (List.mem_of_mem_take hx)))))).1
    rw [List.length_map, List.length_range]
    unfold dsA
    omega
  · simp
theorem linesR_flag (bs : List Int) (seq : Int) (hy : ∀ x ∈ bs, 0 ≤ x ∧ x ≤ 255) : ∀ p ∈ linesR bs seq, p.2 ≤ 2 := by
  unfold linesR
  split
  · intro p hp
    obtain ⟨i, _, rfl⟩ := List.mem_map.1 hp
    have := rdNum_bd 4 508 ((bs.drop 4).take 508) (rdNum 4 508 ((bs.drop 4).take 508) (dsP ((bs.drop 4).take 508) i).1 (dsP ((bs.drop 4).take 508) i).2 4294967295).2.1 (rdNum 4 508 ((bs.drop 4).take 508) (dsP ((bs.drop 4).take 508) i).1 (dsP ((bs.drop 4).take 508) i).2 4294967295).2.2 2 (by omega) (val_bd _ (fun x hx => hy x (List.mem_of_mem_drop (List.mem_of_mem_take (List.mem_of_mem_drop (List.mem_of_mem_take hx)))))).1
    unfold dsL
    simp only
    omega
  · intro p hp; cases hp
theorem mput_last : ∀ (m : List (Nat × Nat)) (b g : Nat), (∀ p ∈ m, p.1 < b) → mput m b g = m ++ [(b, g)]
  | [], b, g, _ => rfl
  | q :: r, b, g, h => by
    have h1 := h q List.mem_cons_self
    unfold mput
    rw [if_neg (by omega), if_neg (by omega), mput_last r b g (fun p hp => h p (List.mem_cons_of_mem _ hp))]
    rfl
theorem mayB_at {k st sz : Nat} {ls : List (Nat × Nat)} (h : mayB k st sz ls = true) {i : Nat} (hi : i < ls.length) : (ls[i].1 < k ∧ (ls[i].1 < st ∨ st + sz ≤ ls[i].1)) ∧ ∀ j, j < i → (ls.getD j (0, 0)).1 < ls[i].1 := by
  have hall : ∀ t, t < ls.length → mayT k st sz ls t = true := fun t ht => List.all_eq_true.1 h t (List.mem_range.2 ht)
  have hout : ∀ t (ht : t < ls.length), outB k st sz (ls[t].1 : Nat) = true ∧ (t = 0 ∨ (ls.getD (t - 1) (0, 0)).1 < ls[t].1) := fun t ht => by
    have := hall t ht
    unfold mayT at this
    have e : ls.getD t (0, 0) = ls[t] := by simp [List.getD, ht]
    rw [e] at this
    simp only [Bool.and_eq_true, Bool.or_eq_true, decide_eq_true_eq] at this
    exact this
  refine ⟨?_, ?_⟩
  · have := (hout i hi).1
    unfold outB at this
    simp at this
    omega
  · induction i with
    | zero => intro j hj; omega
    | succ i ih =>
      intro j hj
      have h1 := (hout (i + 1) hi).2.resolve_left (by omega)
      rw [Nat.add_sub_cancel] at h1
      by_cases e : j = i
      · subst e; exact h1
      · have h2 := ih (by omega) j (by omega)
        have e2 : ls.getD i (0, 0) = ls[i] := by simp [List.getD, show i < ls.length by omega]
        rw [e2] at h1
        omega
theorem shB_ok {bs : List Int} (hl : bs.length = 512) (hy : ∀ x ∈ bs, 0 ≤ x ∧ x ≤ 255) (f : Nat) : (shB bs f).length = 512 ∧ ∀ x ∈ shB bs f, 0 ≤ x ∧ x ≤ 255 := by
  have hd : ∀ x ∈ bs.drop 4, 0 ≤ x ∧ x ≤ 255 := fun x hx => hy x (List.mem_of_mem_drop hx)
  unfold shB
  split
  · refine ⟨by simp; omega, fun x hx => ?_⟩
    rcases List.mem_append.1 hx with hx | hx
    · simp at hx; omega
    · exact hd x hx
  · split
    · refine ⟨by simp; omega, fun x hx => ?_⟩
      rcases List.mem_append.1 hx with hx | hx
      · simp at hx; omega
      · exact hd x hx
    · exact ⟨hl, hy⟩
theorem mp_no_cells {w : World} {bm k b : Nat} {m : List (Nat × Nat)} {cs : Array Value} {t : Nat} {fz : Nat × Nat} (hq : Mp w bm k m) (hb : w.heap[b]? = some (.cells cs t fz)) : b ≠ bm := by
  rintro rfl
  obtain ⟨es, clock, h, _⟩ := hq.own
  rw [hb] at h
  simp at h
/-- What next's loop holds behind t lines. -/
def NxI (w wr : World) (G : Nat → Prop) (wb d : Nat) (S : DevS) (k N st sz place : Nat) (lv : Value) (ls : List (Nat × Nat)) (bN t : Nat) : Prop := ∃ (mN : List (Nat × Nat)) (f : Nat → List Int), Rg w wr G wb d S k N ∧ Lns wr lv ls ∧ Mp wr bN t mN ∧ mN.map (·.1) = (ls.take t).map (·.1) ∧ Vals wr f mN ∧ (∀ p ∈ mN, w.heap.size ≤ p.2) ∧ (∀ i, i < t → f (ls.getD i (0, 0)).1 = nxB S st sz place ls i) ∧ Hid (nxOk S st sz place ls t = true)
/-- What next answers: nothing, where nothing stands; else a new map of the transaction's blocks. -/
structure NextS (w w' : World) (S : DevS) (st sz place : Nat) (ls : List (Nat × Nat)) (bN : Nat) (mN : List (Nat × Nat)) (f : Nat → List Int) : Prop where
  lb : w.heap.size ≤ bN
  M : Mp w' bN mN.length mN
  keys : mN.map (·.1) = ls.map (·.1)
  V : Vals w' f mN
  lv : ∀ p ∈ mN, w.heap.size ≤ p.2
  fv : ∀ i, i < ls.length → f (ls.getD i (0, 0)).1 = nxB S st sz place ls i
structure NextR (w w' : World) (G : Nat → Prop) (wb d : Nat) (S : DevS) (k N st sz : Nat) (seq : Int) (place : Nat) (free : Int) (e : Ending) : Prop where
  R : Rg w w' G wb d S k N
  r : (nextL S k st sz seq place free = [] ∧ e = .returned (.map none)) ∨ ∃ bN mN f, nextL S k st sz seq place free ≠ [] ∧ e = .returned (.map (some bN)) ∧ NextS w w' S st sz place (nextL S k st sz seq place free) bN mN f
end Go.Proofs.YtnmdnglbpkpfdaaGreatDoor

/- next by its contract, whatever stands in the log. -/
namespace Go.Proofs.YtnmdnglbpkpfdaaGreatDoor
open Go.RowKit Go.Maps
set_option maxRecDepth 100000
set_option maxHeartbeats 4000000 in
theorem next_any {w : World} {G : Nat → Prop} {wb d : Nat} {S : DevS} {k N : Nat} {er : Nat → Addr} (h : Rg w w G wb d S k N) {jb st sz : Nat} {seq free : Int} {place bm : Nat} {op : Option Nat} (hJ : Jb w jb d st sz seq place free bm op) (hjG : ¬ G jb) (hjw : jb ≠ wb) (hwG : ¬ G wb) (h1 : 27 ≤ sz ∧ sz ≤ 4096) (h2 : st + sz ≤ k) (hk : k ≤ 4096) (hp : place ≤ 4096) (ho : S.off = false) (hEF : ∀ w', Turns (fun i => G i ∨ i = wb) w w' → Errs w' er) (hgB : ∀ b, b < k → (rdB S b).length = 512 ∧ ∀ x ∈ rdB S b, 0 ≤ x ∧ x ≤ 255) :
    Calls Tryz.prog 113 #[.pointer (some ⟨jb, 0, none⟩), .pointer (some ⟨wb, 0, none⟩)] w fun e w' => NextR w w' G wb d S k N st sz seq place free e := by
  have c3 := hJ.cells.c3
  have hB0 := hgB (atN st sz place 0) (atN_lt (by omega) h2)
  have HL24 : Hid ((linesR (rdB S (atN st sz place 0)) seq).length ≤ 24 ∧ ∀ p ∈ linesR (rdB S (atN st sz place 0)) seq, p.2 ≤ 2) := ⟨linesR_len _ _ hB0.2, linesR_flag _ _ hB0.2⟩
  have HNX : Hid (nextL S k st sz seq place free = if linesR (rdB S (atN st sz place 0)) seq ≠ [] ∧ ((linesR (rdB S (atN st sz place 0)) seq).length : Int) + 2 ≤ free ∧ mayB k st sz (linesR (rdB S (atN st sz place 0)) seq) = true ∧ isCom (rdB S (atN st sz place ((linesR (rdB S (atN st sz place 0)) seq).length + 1))) seq = true ∧ nxOk S st sz place (linesR (rdB S (atN st sz place 0)) seq) (linesR (rdB S (atN st sz place 0)) seq).length = true then linesR (rdB S (atN st sz place 0)) seq else []) := rfl
  have hd0 : Rg w w.drew G wb d S k N := h.below ⟨rfl, rfl, rfl, Nat.le_refl _, fun _ _ => rfl⟩
  have J0 := hd0.jb hJ hjG hjw
  go_enter Tryz.func113, Tryz.ntmps113
  go_wp2_with fail
  go_region_held3 (fun w' => w'.cell? ⟨jb, 3, none⟩ = some (.int .i64 seq))
    (first | exact c3 | exact y3 | exact u3 | exact v3)
    (first
      | (go_at_call 89; refine (jat_any J0 (by omega) (by omega) 0 hp (by omega)).mono ?_; rintro e w1 ⟨rfl, b1⟩; have R1 := hd0.below b1; have j1 := R1.jb hJ hjG hjw; have y3 := j1.cells.c3)
      | (go_at_call 102; refine (wkread_ok R1.D R1.wk hwG ho (atN st sz place 0) (atN_lt (by omega) h2)).mono ?_; rintro e w2 ⟨gr, rfl, lr, br, k2, d2, t2⟩; have R2 := R1.read k2 d2 t2; have j2 := R2.jb hJ hjG hjw; have u3 := j2.cells.c3)
      | (go_at_call 143; refine (linesOf_any gr _ seq er _ br hB0.1 hB0.2 (hEF _ R2.tr)).mono ?_; rintro e w3 ⟨la, ln, lc, rfl, hln, hLn, hfr, b3⟩; have Hln : Hid (ln = (linesR (rdB S (atN st sz place 0)) seq).length) := hln; clear hln; have R3 := R2.below b3; have j3 := R3.jb hJ hjG hjw; have v3 := j3.cells.c3))
  have hlF : ∀ b, (Value.slice la ln lc).ownBlock = some b → w.heap.size ≤ b := fun b hb => Nat.le_trans R2.tr.size (hfr b hb)
  clear R1 R2 j1 j2 b1 b3 k2 d2 t2 br hd0 J0 c3 y3 u3 v3 hfr lr
  generalize linesR (rdB S (atN st sz place 0)) seq = ls at *
  have hl24 : ln ≤ 24 := by rw [Hln.out]; exact HL24.out.1
  have hl24i : (ln : Int) ≤ 24 := by omega
  obtain ⟨c0, c1, c2, c3, c4, c5, c6, c7, c8, fz⟩ := j3.cells
  by_cases hz : ln = 0
  · have HZ : Hid (nextL S k st sz seq place free = []) := by
      show nextL S k st sz seq place free = []
      rw [HNX.out, if_neg (fun q => q.1 (List.eq_nil_of_length_eq_zero (by rw [← Hln.out]; exact hz)))]
    subst hz
    go_wp2
    go_ret
    exact ⟨R3, Or.inl ⟨HZ.out, rfl⟩⟩
  have hzi : ¬ (ln : Int) = 0 := by omega
  have hlX : ∀ b, w.heap.size ≤ b → ¬ (G b ∨ b = wb) := fun b hb r => r.elim (fun r => by have := h.D.lt b r; omega) (fun r => by have := heap_lt h.wk; omega)
  have hw1 : IntKind.i64.wrap ((ln : Int) + 2) = ln + 2 := Go.IntWalk.i64_in _ ⟨by omega, by omega⟩
  by_cases hfr : free < (ln : Int) + 2
  · have HZ : Hid (nextL S k st sz seq place free = []) := by
      show nextL S k st sz seq place free = []
      rw [HNX.out, if_neg (fun q => by have := q.2.1; rw [← Hln.out] at this; omega)]
    go_wp2
    go_ret
    exact ⟨R3, Or.inl ⟨HZ.out, rfl⟩⟩
  have m1 := mayBe_any R3.D st sz (by omega) (by omega) la ln lc ls Hln.out hl24 hLn (fun b hb r => by have := hlF b hb; have := h.D.lt b r; omega)
  cases hmb : mayB k st sz ls with
  | false =>
    have HZ : Hid (nextL S k st sz seq place free = []) := by
      show nextL S k st sz seq place free = []
      rw [HNX.out, if_neg (fun q => by have := q.2.2.1; rw [hmb] at this; cases this)]
    rw [hmb] at m1
    go_wp2_with fail
    refine m1.mono ?_
    rintro e w4 ⟨rfl, q4⟩
    have R4 := R3.same hwG q4
    clear m1
    go_wp2
    go_ret
    exact ⟨R4, Or.inl ⟨HZ.out, rfl⟩⟩
  | true =>
    rw [hmb] at m1
    go_wp2_with fail
    refine m1.mono ?_
    rintro e w4 ⟨rfl, q4⟩
    have R4 := R3.same hwG q4
    have L4 := hLn.turns q4.2 (fun b hb r => by have := hlF b hb; have := h.D.lt b r; omega)
    have j4 := R4.jb hJ hjG hjw
    clear m1 q4 R3 j3 hLn c0 c1 c2 c3 c4 c5 c6 c7 c8 fz
    have c3 := j4.cells.c3
    have hd4 : Rg w w4.drew G wb d S k N := R4.below ⟨rfl, rfl, rfl, Nat.le_refl _, fun _ _ => rfl⟩
    have J4 := hd4.jb hJ hjG hjw
    have L4d : Lns w4.drew (.slice la ln lc) ls := L4.below ⟨rfl, rfl, rfl, Nat.le_refl _, fun _ _ => rfl⟩
    have hB1 := hgB (atN st sz place (ln + 1)) (atN_lt (by omega) h2)
    go_wp2_with fail
    go_region_held3 (fun w' => w'.cell? ⟨jb, 3, none⟩ = some (.int .i64 seq))
      (first | exact c3 | exact y3 | exact u3 | exact v3)
      (first
        | (go_at_call 89; refine (jat_succ J4 (by omega) (by omega) ln hp (by omega)).mono ?_; rintro e w5 ⟨rfl, b5⟩; have R5 := hd4.below b5; have L5 := L4d.below b5; have j5 := R5.jb hJ hjG hjw; have y3 := j5.cells.c3)
        | (go_at_call 102; refine (wkread_ok R5.D R5.wk hwG ho (atN st sz place (ln + 1)) (atN_lt (by omega) h2)).mono ?_; rintro e w6 ⟨gs, rfl, ls6, bs6, k6, d6, t6⟩; have R6 := R5.read k6 d6 t6; have L6 := L5.turns t6 (fun b hb r => hlX b (hlF b hb) r); have j6 := R6.jb hJ hjG hjw; have u3 := j6.cells.c3)
        | (go_at_call 145; refine (isCommit_any gs _ seq er _ bs6 hB1.1 hB1.2 (hEF _ R6.tr)).mono ?_; rintro e w7 ⟨rfl, b7⟩; have R7 := R6.below b7; have L7 := L6.below b7; have j7 := R7.jb hJ hjG hjw; have v3 := j7.cells.c3))
    clear R5 R6 j5 j6 b5 b7 k6 d6 t6 bs6 hd4 J4 c3 y3 u3 v3 L5 L6 L4 L4d R4 j4 ls6
    cases hic : isCom (rdB S (atN st sz place (ln + 1))) seq with
    | false =>
      have HZ : Hid (nextL S k st sz seq place free = []) := by
        show nextL S k st sz seq place free = []
        rw [HNX.out, if_neg (fun q => by have := q.2.2.2.1; rw [← Hln.out, hic] at this; cases this)]
      go_wp2
      go_ret
      exact ⟨R7, Or.inl ⟨HZ.out, rfl⟩⟩
    | true =>
      have hmm := fun (w : World) => run_makeMap (P := Tryz.prog) 99 w
      obtain ⟨bN, hbN⟩ : ∃ bN, w7.heap.size = bN := ⟨_, rfl⟩
      have a7 : Below w7.heap.size w7 (w7.alloc (.map #[] 0)) := (Below.refl _ w7).alloc (Nat.le_refl _) _
      have RA := R7.below a7
      have LA := L7.below a7
      have MA : Mp (w7.alloc (.map #[] 0)) bN 0 [] := ⟨by rw [← hbN]; exact World.ownsMap_made w7 Tryz.prog 3 RV, List.Pairwise.nil⟩
      have hbw : w.heap.size ≤ bN := by rw [← hbN]; exact R7.tr.size
      obtain ⟨W8, hW8⟩ : ∃ W, w7.alloc (.map #[] 0) = W := ⟨_, rfl⟩
      rw [hW8] at RA LA MA
      clear R7 L7 j7 a7
      have hMB := hmb
      have HMB : Hid (mayB k st sz ls = true) := hmb
      clear hMB
      go_wp2_with fail
      try rw [hW8]
      try rw [hbN]
      clear hmm hW8
      go_loopw [58] (fun i wr => ∃ t : Nat, t ≤ ln ∧ i = .int .i64 t ∧ NxI w wr G wb d S k N st sz place (.slice la ln lc) ls bN t) (fun i _ => ln - (intOf i).toNat)
      case atStart => exact ⟨0, Nat.zero_le _, rfl, [], fun _ => [], RA, LA, MA, rfl, (fun p hp => by cases hp), (fun p hp => by cases hp), (fun i hi => by omega), (rfl : nxOk S st sz place ls 0 = true)⟩
      case round =>
        clear RA LA MA
        obtain ⟨t, htn, rfl, mN, f, Rr, Lr, Mr, hkeys, Vr, hlv, hfv, HOK⟩ := hrel
        by_cases hlt : t < ln
        · have hti : (t : Int) < ln := by omega
          have htl : t < ls.length := by rw [← Hln.out]; exact hlt
          obtain ⟨p, hp'⟩ : ∃ p, ls[t]? = some p := ⟨_, List.getElem?_eq_getElem htl⟩
          obtain ⟨g, c', hgv, x0, x1⟩ := Lr.get hp'
          obtain rfl : la = some ⟨g, 0, none⟩ := by injection hgv
          clear hgv
          have hpe : ls[t] = p := (List.getElem?_eq_some_iff.1 hp').2
          have hfl := HL24.out.2 p (List.mem_of_getElem? hp')
          obtain ⟨hb4, hrise⟩ := mayB_at HMB.out htl
          rw [hpe] at hb4 hrise
          obtain ⟨b, fl⟩ := p
          simp only at x0 x1 hfl hb4 hrise
          have HD : Hid (ls.getD t (0, 0) = (b, fl)) := by show ls.getD t (0, 0) = (b, fl); simp [List.getD, hp']
          have HLT : Hid (∀ p ∈ mN, p.1 < b) := fun p hp => by
            have h1 : p.1 ∈ (ls.take t).map (·.1) := by rw [← hkeys]; exact List.mem_map.2 ⟨p, hp, rfl⟩
            obtain ⟨r, hr, hre⟩ := List.mem_map.1 h1
            obtain ⟨j, hj, hje⟩ := List.mem_take_iff_getElem.1 hr
            have := hrise j (by omega)
            have e : ls.getD j (0, 0) = r := by simp [List.getD, show j < ls.length by omega, hje]
            rw [e] at this
            omega
          obtain ⟨W1, hW1⟩ : ∃ W1, wr.alloc (.cells #[.int .i64 (b : Nat), .int .i64 (fl : Nat)] 154) = W1 := ⟨_, rfl⟩
          have b1 : Below wr.heap.size wr W1 := by rw [← hW1]; exact (Below.refl _ wr).alloc (Nat.le_refl _) _
          have bD : Below wr.heap.size wr W1.drew := b1.trans ⟨rfl, rfl, rfl, Nat.le_refl _, fun _ _ => rfl⟩
          obtain ⟨q, hq⟩ : ∃ q, wr.heap.size = q := ⟨_, rfl⟩
          have yD : W1.drew.heap[q]? = some (.cells #[.int .i64 (b : Nat), .int .i64 (fl : Nat)] 154) := by rw [← hq, ← hW1]; exact (MapKept.heap_alloc wr _).1
          have RD := Rr.below bD
          have JD := RD.jb hJ hjG hjw
          have LD := Lr.below bD
          have MD := Mr.turns (Below.turns bD (fun _ => False)) id
          have VD := Vr.below bD
          have hwq : w.heap.size ≤ q := by rw [← hq]; exact Rr.tr.size
          have hBt := hgB (atN st sz place (t + 1)) (atN_lt (by omega) h2)
          have hKc : ∀ w'' : World, w''.heap[q]? = some (.cells #[.int .i64 (b : Nat), .int .i64 (fl : Nat)] 154) → w''.cell? ⟨q, 1, none⟩ = some (.int .i64 (fl : Nat)) := fun w'' h2 => by simp [World.cell?, h2]
          have k0 := hKc _ yD
          clear Rr Lr Mr Vr b1 bD
          go_wp2_with fail
          try rw [hW1]
          try rw [hq]
          clear x0 x1
          go_region_held3 (fun w' => w'.cell? ⟨q, 1, none⟩ = some (.int .i64 (fl : Nat)))
            (first | exact k0 | exact k1 | exact k2 | exact k3)
            (first
              | (go_at_call 89; refine (jat_succ JD (by omega) (by omega) t hp (by omega)).mono ?_; rintro e w9 ⟨rfl, b9⟩; have R9 := RD.below b9; have L9 := LD.below b9; have M9 := MD.turns (Below.turns b9 (fun _ => False)) id; have V9 := VD.below b9; have y9 := (b9.block q (heap_lt yD)).trans yD; have k1 := hKc _ y9)
              | (go_at_call 102; refine (wkread_ok R9.D R9.wk hwG ho (atN st sz place (t + 1)) (atN_lt (by omega) h2)).mono ?_; rintro e wA ⟨gA, rfl, lA, bA, kA, dA, tA⟩; have RA := R9.read kA dA tA; have LA := L9.turns tA (fun b hb r => hlX b (hlF b hb) r); have MA := M9.turns tA (fun r => hlX bN hbw r); have VA := V9.turns tA (fun p hp r => hlX p.2 (hlv p hp) r); have yA := (tA.block q (heap_lt y9) (hlX q hwq)).trans y9; have k2 := hKc _ yA)
              | (go_at_call 146; refine (shown_any gA _ fl _ bA hBt.1 hBt.2 hfl).mono ?_; rintro e wB ⟨gB, rfl, lB, bB, qB⟩; have hwA := RA.tr.size; have RB := RA.below qB; have LB := LA.below qB; have MB := MA.turns (Below.turns qB (fun _ => False)) id; have VB := VA.below qB; have yB := (qB.block q (heap_lt yA)).trans yA; have k3 := hKc _ yB))
          clear RD LD MD VD JD R9 L9 M9 V9 y9 RA LA MA VA yA yD kA dA tA bA b9 k0 k1 k2 k3
          have z0 : wB.cell? ⟨q, 0, none⟩ = some (.int .i64 (b : Nat)) := by simp [World.cell?, yB]
          have HSH : Hid (nxOk S st sz place ls (t + 1) = shOk (rdB S (atN st sz place (t + 1))) fl) := by
            show nxOk S st sz place ls (t + 1) = _
            have e := HOK.out
            unfold nxOk at e ⊢
            rw [List.range_succ, List.all_append, e]
            simp only [List.all_cons, List.all_nil, Bool.true_and, Bool.and_true]
            rw [HD.out]
          cases hsh : shOk (rdB S (atN st sz place (t + 1))) fl with
          | false =>
            have HZ : Hid (nextL S k st sz seq place free = []) := by
              show nextL S k st sz seq place free = []
              rw [HNX.out, if_neg (fun q => ?_)]
              have h5 := q.2.2.2.2
              unfold nxOk at h5
              have h6 := List.all_eq_true.1 h5 t (List.mem_range.2 htl)
              rw [HD.out] at h6
              simp only [hsh] at h6
              cases h6
            go_wp2
            go_ret
            exact ⟨RB, Or.inl ⟨HZ.out, rfl⟩⟩
          | true =>
            obtain ⟨wC, hrunC, hownC, htrC⟩ := MB.own.store (val := .slice (some ⟨gB, 0, none⟩) 512 512) law3 Tryz.underlying99 (by unfold maxLen; omega) (int_key b (by omega)) (d := .held (hv gB)) (ps := []) rfl
            have tC : Turns (fun i => i = bN) wB wC := Turns.grown htrC.grown (fun x hx => (Option.some.inj hx).symm)
            have hbG : ¬ (G bN ∨ bN = wb) := hlX bN hbw
            have MC : Mp wC bN (t + 1) (mN ++ [(b, gB)]) := by
              rw [← mput_last mN b gB HLT.out]
              exact ⟨by rw [← mD_put MB.ris b gB (hownC.canon law3)]; exact hownC, mput_rising b gB MB.ris⟩
            have RC : Rg w wC G wb d S k N := ⟨RB.wk.turns tC (fun e => hbG (Or.inr e.symm)), RB.D.turns tC (fun i hi e => hbG (Or.inl (e ▸ hi))), ?tr⟩
            case tr => exact (RB.tr).trans tC (fun i hi e => by omega)
            have LC := LB.turns tC (fun x hx e => by
              rcases LB.row.2 with ⟨hv, _⟩ | ⟨g', cap', cur, hv, _, hh, _⟩
              · rw [hv] at hx; cases hx
              · rw [hv] at hx
                cases hx
                exact mp_no_cells MB hh e)
            have nb : ∀ (x : Nat) (l : List Int), wB.heap[x]? = some (bl l) → x ≠ bN := fun x l hx => mp_no_cells MB hx
            have hgw : w.heap.size ≤ gB := Nat.le_trans (by have := hwA; exact this) lB
            have VC : Vals wC (fun x => if x = b then nxB S st sz place ls t else f x) (mN ++ [(b, gB)]) := fun p hp => by
              rcases List.mem_append.1 hp with hp | hp
              · have hne : ¬ p.1 = b := by have := HLT.out p hp; omega
                simp only [if_neg hne]
                exact ⟨(tC.block p.2 (heap_lt (VB p hp).1) (nb _ _ (VB p hp).1)).trans (VB p hp).1, (VB p hp).2⟩
              · simp at hp
                subst hp
                simp only [if_pos]
                have e : nxB S st sz place ls t = shB (rdB S (atN st sz place (t + 1))) fl := by unfold nxB; rw [HD.out]
                rw [e]
                exact ⟨(tC.block gB (heap_lt bB) (nb _ _ bB)).trans bB, shB_ok hBt.1 hBt.2 fl⟩
            have hk9 : (mN ++ [(b, gB)]).map (·.1) = (ls.take (t + 1)).map (·.1) := by
              rw [List.map_append, hkeys, List.take_succ_eq_append_getElem htl, List.map_append, hpe]
              rfl
            have hf9 : ∀ i, i < t + 1 → (if (ls.getD i (0, 0)).1 = b then nxB S st sz place ls t else f (ls.getD i (0, 0)).1) = nxB S st sz place ls i := fun i hi => by
              by_cases e : i = t
              · subst e
                rw [HD.out]
                simp
              · have h3 := hrise i (by omega)
                rw [if_neg (by omega)]
                exact hfv i (by omega)
            have HO9 : Hid (nxOk S st sz place ls (t + 1) = true) := HSH.out.trans hsh
            have hlv9 : ∀ p ∈ mN ++ [(b, gB)], w.heap.size ≤ p.2 := fun p hp => by
              rcases List.mem_append.1 hp with hp | hp
              · exact hlv p hp
              · simp at hp
                subst hp
                exact hgw
            have HI : Hid (NxI w wC G wb d S k N st sz place (.slice (some ⟨g, 0, none⟩) ln lc) ls bN (t + 1)) := ⟨mN ++ [(b, gB)], _, RC, LC, MC, hk9, VC, hlv9, hf9, HO9⟩
            clear htrC hownC tC MB RB LB VB bB RC LC MC hk9 VC hlv9 hf9 HO9 nb
            go_wp2_with fail
            refine ⟨?_, by simp [intOf]; omega⟩
            repeat apply Exists.intro
            refine And.intro ?rel ?eqs
            case eqs => and_intros <;> exact rfl
            case rel => exact ⟨t + 1, by omega, by go_num, HI.out⟩
        · have hti : ¬ (t : Int) < ln := by omega
          obtain rfl : t = ln := by omega
          have HZ : Hid (nextL S k st sz seq place free = ls) := by
            show nextL S k st sz seq place free = ls
            rw [HNX.out, if_pos ⟨fun e => hz (by rw [Hln.out, e]; rfl), by rw [← Hln.out]; omega, HMB.out, by rw [← Hln.out]; exact hic, by rw [← Hln.out]; exact HOK.out⟩]
          have htk : ls.take t = ls := List.take_of_length_le (by rw [← Hln.out]; exact Nat.le_refl _)
          rw [htk] at hkeys
          have hml : mN.length = t := by
            have := congrArg List.length hkeys
            rw [List.length_map, List.length_map, ← Hln.out] at this
            exact this
          go_wp2
          go_ret
          refine ⟨Rr, Or.inr ⟨bN, mN, f, ?_, rfl, ?_⟩⟩
          · rw [HZ.out]
            exact fun e => hz (by rw [Hln.out, e]; rfl)
          · rw [HZ.out]
            exact ⟨hbw, by rw [hml]; exact Mr, hkeys, Vr, hlv, fun i hi => hfv i (by rw [Hln.out]; exact hi)⟩
end Go.Proofs.YtnmdnglbpkpfdaaGreatDoor

/- What a call holds while it works on the device, whatever it meets. -/
namespace Go.Proofs.YtnmdnglbpkpfdaaGreatDoor
open Go.RowKit Go.Maps
set_option maxRecDepth 100000
/-- As Wg, with the error that the work has met. -/
structure Wn (w0 w : World) (F X : Nat → Prop) (wb d : Nat) (e : Int) (S : DevS) (k N : Nat) : Prop where
  wk : ∃ ev, ErrV ev e ∧ Wk w wb d ev
  dv : ∃ G, Dev w d 0 S k N G ∧ (∀ i, G i → F i ∨ w0.heap.size ≤ i) ∧ ∀ i, X i → ¬ G i
  xl : ∀ i, X i → i < w.heap.size
  xw : X wb
  tr : Turns (fun i => F i ∨ i = wb) w0 w
  nw : w0.heap.size ≤ wb
section
variable {w0 w w' : World} {F X G Y : Nat → Prop} {wb d : Nat} {e e' : Int} {S S' : DevS} {k N N' : Nat}
theorem Wg.any (h : Wg w0 w F X wb d S k N) : Wn w0 w F X wb d 0 S k N := ⟨⟨.nilIface, Or.inl ⟨rfl, rfl⟩, h.wk⟩, h.dv, h.xl, h.xw, h.tr, h.nw⟩
theorem Wn.calm (h : Wn w0 w F X wb d 0 S k N) : Wg w0 w F X wb d S k N := by
  obtain ⟨⟨ev, hE, hk⟩, h2, h3, h4, h5, h6⟩ := h
  obtain ⟨_, rfl⟩ := hE.resolve_right (fun h => h.1 rfl)
  exact ⟨hk, h2, h3, h4, h5, h6⟩
theorem Did.tr (q : Did w w' wb d e S k N G) : Turns (fun i => G i ∨ i = wb) w w' := by
  obtain ⟨_, _, _, _, t⟩ := q
  exact t
theorem Wn.did (h : Wn w0 w F X wb d e S k N) (hG : ∀ i, G i → F i ∨ w0.heap.size ≤ i) (hX : ∀ i, X i → ¬ G i) (q : Did w w' wb d e' S' k N' G) : Wn w0 w' F X wb d e' S' k N' ∧ Turns (fun i => G i ∨ i = wb) w w' := by
  obtain ⟨ev, hE, hk, hd, t⟩ := q
  exact ⟨⟨⟨ev, hE, hk⟩, ⟨grow G w w', hd, fun i hi => hi.elim (hG i) (fun r => Or.inr (Nat.le_trans h.tr.size r.1)), fun i hi r => hX i hi (grow_old i (h.xl i hi) r)⟩, fun i hi => Nat.lt_of_lt_of_le (h.xl i hi) t.size, h.xw, h.tr.trans t (fun i hi r => r.elim (fun r => (hG i r).elim Or.inl (fun r => by omega)) Or.inr), h.nw⟩, t⟩
theorem Wn.below (h : Wn w0 w F X wb d e S k N) (b : Below w.heap.size w w') : Wn w0 w' F X wb d e S k N := by
  obtain ⟨G, D, h1, h2⟩ := h.dv
  obtain ⟨ev, hE, hk⟩ := h.wk
  exact ⟨⟨ev, hE, hk.turns (Below.turns b (fun _ => False)) id⟩, ⟨G, D.below b, h1, h2⟩, fun i hi => Nat.lt_of_lt_of_le (h.xl i hi) b.size, h.xw, h.tr.trans (Below.turns b (fun _ => False)) (fun _ _ r => r.elim), h.nw⟩
theorem Wn.add (h : Wn w0 w F X wb d e S k N) (b : Below w.heap.size w w') : Wn w0 w' F (fun i => X i ∨ (w.heap.size ≤ i ∧ i < w'.heap.size)) wb d e S k N := by
  obtain ⟨G, D, h1, h2⟩ := h.dv
  have h' := h.below b
  exact { h' with
    dv := ⟨G, D.below b, h1, fun i hi r => hi.elim (fun hi => h2 i hi r) (fun hi => by have := D.lt i r; omega)⟩
    xl := fun i hi => hi.elim (h'.xl i) (fun hi => hi.2)
    xw := Or.inl h.xw }
theorem Wn.less (h : Wn w0 w F X wb d e S k N) (hY : ∀ i, Y i → X i) (hw : Y wb) : Wn w0 w F Y wb d e S k N := by
  obtain ⟨G, D, h1, h2⟩ := h.dv
  exact { h with dv := ⟨G, D, h1, fun i hi => h2 i (hY i hi)⟩, xl := fun i hi => h.xl i (hY i hi), xw := hw }
end
/-- A journal, and what is not home, while a call works. -/
structure Cj (w0 w : World) (F X : Nat → Prop) (wb d : Nat) (e : Int) (S : DevS) (k N : Nat) (jb st sz : Nat) (seq : Int) (place : Nat) (free : Int) (bm : Nat) (op : Option Nat) (nd : Nat) (a : List (Nat × Nat)) (fa : Nat → List Int) : Prop where
  g : Wn w0 w F X wb d e S k N
  J : Jb w jb d st sz seq place free bm op
  A : Mp w bm nd a
  VA : Vals w fa a
  xj : X jb ∧ jb ≠ wb
  xa : X bm ∧ bm ≠ wb
  xva : ∀ p ∈ a, X p.2 ∧ p.2 ≠ wb
section
variable {w0 w w' : World} {F X G Y : Nat → Prop} {wb d : Nat} {e e' : Int} {S S' : DevS} {k N N' : Nat} {jb st sz : Nat} {seq : Int} {place : Nat} {free : Int} {bm : Nat} {op : Option Nat} {nd : Nat} {a : List (Nat × Nat)} {fa : Nat → List Int}
theorem Cj.turn (h : Cj w0 w F X wb d e S k N jb st sz seq place free bm op nd a fa) (t : Turns Y w w') (hY : ∀ i, X i → i ≠ wb → ¬ Y i) (g' : Wn w0 w' F X wb d e' S' k N') : Cj w0 w' F X wb d e' S' k N' jb st sz seq place free bm op nd a fa :=
  ⟨g', (t.block jb (heap_lt h.J) (hY jb h.xj.1 h.xj.2)).trans h.J, h.A.turns t (hY bm h.xa.1 h.xa.2), h.VA.turns t (fun p hp => hY p.2 (h.xva p hp).1 (h.xva p hp).2), h.xj, h.xa, h.xva⟩
theorem Cj.below (h : Cj w0 w F X wb d e S k N jb st sz seq place free bm op nd a fa) (b : Below w.heap.size w w') : Cj w0 w' F X wb d e S k N jb st sz seq place free bm op nd a fa :=
  h.turn (Below.turns b (fun _ => False)) (fun _ _ _ q => q) (h.g.below b)
theorem Cj.add (h : Cj w0 w F X wb d e S k N jb st sz seq place free bm op nd a fa) (b : Below w.heap.size w w') : Cj w0 w' F (fun i => X i ∨ (w.heap.size ≤ i ∧ i < w'.heap.size)) wb d e S k N jb st sz seq place free bm op nd a fa := by
  have h' := h.below b
  exact ⟨h.g.add b, h'.J, h'.A, h'.VA, ⟨Or.inl h.xj.1, h.xj.2⟩, ⟨Or.inl h.xa.1, h.xa.2⟩, fun p hp => ⟨Or.inl (h.xva p hp).1, (h.xva p hp).2⟩⟩
theorem Cj.less (h : Cj w0 w F X wb d e S k N jb st sz seq place free bm op nd a fa) (hY : ∀ i, Y i → X i) (hw : Y wb) (hj : Y jb) (ha : Y bm) (hva : ∀ p ∈ a, Y p.2) : Cj w0 w F Y wb d e S k N jb st sz seq place free bm op nd a fa :=
  ⟨h.g.less hY hw, h.J, h.A, h.VA, ⟨hj, h.xj.2⟩, ⟨ha, h.xa.2⟩, fun p hp => ⟨hva p hp, (h.xva p hp).2⟩⟩
theorem Cj.did (h : Cj w0 w F X wb d e S k N jb st sz seq place free bm op nd a fa) (hG : ∀ i, G i → F i ∨ w0.heap.size ≤ i) (hX : ∀ i, X i → ¬ G i) (q : Did w w' wb d e' S' k N' G) : Cj w0 w' F X wb d e' S' k N' jb st sz seq place free bm op nd a fa := by
  obtain ⟨g', t⟩ := h.g.did hG hX q
  exact h.turn t (fun i hi hw r => r.elim (hX i hi) hw) g'
end
/-- What a write, a flush makes of the error and the device. -/
def pW (k : Nat) (p : Int × DevS) (b : Nat) (bs : List Int) : Int × DevS := (wkE p.1 p.2 k b 512, wkS p.1 p.2 k b bs)
def pF (p : Int × DevS) : Int × DevS := (fkE p.1 p.2, fkS p.1 p.2)
/-- The first i blocks that are away are written home. -/
def homeP (k : Nat) (p : Int × DevS) (fa : Nat → List Int) (a : List (Nat × Nat)) : Nat → Int × DevS
  | 0 => p
  | i + 1 => pW k (homeP k p fa a i) ((a.map (·.1)).getD i 0) (fa ((a.map (·.1)).getD i 0))
/-- A checkpoint. -/
def ckP (k : Nat) (p : Int × DevS) (fa : Nat → List Int) (a : List (Nat × Nat)) (st : Nat) (seq : Int) (place : Nat) : Int × DevS := pF (pW k (pF (homeP k p fa a a.length)) st (jheadB seq place))
/-- Blocks of X, the work's own and the journal's own aside, are as they were. -/
abbrev Save (X : Nat → Prop) (wb jb : Nat) (w w' : World) : Prop := Turns (fun i => X i → i = wb ∨ i = jb) w w'
end Go.Proofs.YtnmdnglbpkpfdaaGreatDoor

/- checkpoint by its contract, whatever it meets. -/
namespace Go.Proofs.YtnmdnglbpkpfdaaGreatDoor
open Go.RowKit Go.Maps
set_option maxRecDepth 100000
set_option maxHeartbeats 8000000 in
theorem checkpoint_any {w0 w : World} {F X : Nat → Prop} {wb d : Nat} {e : Int} {S : DevS} {k N : Nat} {jb st sz nd : Nat} {seq free : Int} {place bm : Nat} {op : Option Nat} {a : List (Nat × Nat)} {fa : Nat → List Int} (h : Cj w0 w F X wb d e S k N jb st sz seq place free bm op nd a fa) (ha0 : 0 < a.length) (ha : Low a) (hl : a.length ≤ 4096) (h1 : 2 ≤ sz ∧ sz ≤ 4096) (hN : N ≤ 1000000000) :
    Calls Tryz.prog 60 #[.pointer (some ⟨jb, 0, none⟩), .pointer (some ⟨wb, 0, none⟩)] w fun e' w' => e' = .returned (.tuple #[]) ∧ ∃ bm', w.heap.size ≤ bm' ∧ Cj w0 w' (fun i => F i ∨ i = jb) (fun i => X i ∨ i = bm') wb d (ckP k (e, S) fa a st seq place).1 (ckP k (e, S) fa a st seq place).2 k (N + a.length + 1) jb st sz seq place (sz - 1) bm' op 0 [] (fun _ => []) ∧ Save X wb jb w w' := by
  obtain ⟨c0, c1, c2, c3, c4, c5, c6, c7, c8, fz⟩ := h.J.cells
  have hown := h.A.own
  have hs0 : (Maps.size (mD a) : Int) = (a.length : Int) := by simp [mD, Maps.size_eq]
  have hn0 : ¬ ((a.length : Int) = 0) := by omega
  go_enter Tryz.func60, Tryz.ntmps60
  go_wp2_with (at_len; refine wpList_len_own _ rfl _ 99 rfl 3 56 Tryz.underlying99 _ bm nd _ rfl hown ?_)
  refine (rising_any h.A (by omega)).mono ?_
  rintro e' w1 ⟨g1, q1, rfl, O1, b1⟩
  have hlg := (O1.lt g1 rfl)
  have CY := (h.add b1).less (Y := fun i => X i ∨ i = g1) (fun i hi => hi.imp id (fun e => by subst e; exact hlg)) (Or.inl h.g.xw) (Or.inl h.xj.1) (Or.inl h.xa.1) (fun p hp => Or.inl (h.xva p hp).1)
  obtain ⟨L, hL⟩ : ∃ L, a.length = L := ⟨_, rfl⟩
  have HL : Hid (a.length = L) := hL
  have hLi : (L : Int) ≤ 4096 := by omega
  have hT1 : Save X wb jb w w1 := Below.turns b1 _
  rw [hL] at O1 ⊢
  clear hL
  have hgw : g1 ≠ wb := by have := h.g.xl wb h.g.xw; omega
  have hjX : X jb := h.xj.1
  clear c0 c1 c2 c3 c4 c5 c6 c7 c8 fz hown hs0 hn0
  go_wp2_with fail
  go_loopw [18] (fun i wr => ∃ t : Nat, t ≤ L ∧ i = .int .i64 t ∧ Cj w0 wr F (fun i => X i ∨ i = g1) wb d (homeP k (e, S) fa a t).1 (homeP k (e, S) fa a t).2 k (N + t) jb st sz seq place free bm op nd a fa ∧ wr.ownsRow w.heap.size 3 1 (.slice (some ⟨g1, 0, none⟩) L q1) L (a.map fun p => .int .i64 p.1) ∧ Save X wb jb w wr) (fun i _ => L - (intOf i).toNat)
  case atStart => exact ⟨0, Nat.zero_le _, rfl, CY, O1, hT1⟩
  case round =>
    clear CY O1 hT1
    obtain ⟨t, htL, rfl, hC, hO, hT⟩ := hrel
    obtain ⟨w7, hw7⟩ : ∃ w7, w7 = wr := ⟨wr, rfl⟩
    subst hw7
    by_cases hlt : t < L
    · have hti : (t : Int) < L := by omega
      have htm : t < a.length := by rw [HL.out]; exact hlt
      have x1 : w7.cell? ⟨g1, t, none⟩ = some (.int .i64 (a[t].1 : Nat)) := by
        rw [hO.cellAt t (by omega)]; simp [htm]
      have hlu := hC.A.at ha t htm
      have hV := hC.VA a[t] (List.getElem_mem htm)
      have hg9 := h.xva a[t] (List.getElem_mem htm)
      have hgd : (a.map (·.1)).getD t 0 = a[t].1 := by simp [htm]
      have HS1 : Hid (homeP k (e, S) fa a (t + 1) = pW k (homeP k (e, S) fa a t) a[t].1 (fa a[t].1)) := by
        show pW _ _ _ _ = _
        rw [hgd]
      obtain ⟨⟨b, g⟩, hbg⟩ : ∃ bg, a[t] = bg := ⟨_, rfl⟩
      rw [hbg] at x1 hlu hV HS1 hg9
      simp only at x1 hlu hV HS1 hg9
      clear hgd hbg
      have y6 := hC.J.cells.c6
      obtain ⟨G, D, hG, hX⟩ := hC.g.dv
      obtain ⟨ev, hE, hk⟩ := hC.g.wk
      go_wp2_with fail
      refine (wkwrite_any D hk hE (hX wb hC.g.xw) b (some ⟨g, 0, none⟩) 512 512 _ (Lies.full hV.1 hV.2.1) hV.2.2 (fun ad q => by cases q; exact hX g (Or.inl hg9.1)) (by omega)).mono ?_
      rintro e' w8 ⟨rfl, q8⟩
      have C8 := hC.did hG hX q8
      have t8 := q8.tr
      have C9 : Cj w0 w8 F (fun i => X i ∨ i = g1) wb d (homeP k (e, S) fa a (t + 1)).1 (homeP k (e, S) fa a (t + 1)).2 k (N + (t + 1)) jb st sz seq place free bm op nd a fa := by
        rw [HS1.out]
        exact C8
      have O8 := own_turns hO t8 (fun b hb r => by cases hb; exact r.elim (hX g1 (Or.inr rfl)) hgw)
      have T8 : Save X wb jb w w8 := hT.trans t8 (fun i _ r hi => Or.inl (r.elim (fun r => absurd r (hX i (Or.inl hi))) id))
      clear C8 t8 q8 hC hO hT D hG hX hk hE x1 hlu hV y6
      go_wp2_with fail
      go_roundw
      case rel => exact ⟨t + 1, by omega, by go_num, C9, O8, T8⟩
      case measure => simp [intOf]; omega
    · have hti : ¬ (t : Int) < L := by omega
      obtain rfl : t = L := by omega
      have hCX := hC.less (Y := X) (fun i hi => Or.inl hi) h.g.xw h.xj.1 h.xa.1 (fun p hp => (h.xva p hp).1)
      clear hC hO
      obtain ⟨p9, hp9⟩ : ∃ p, homeP k (e, S) fa a t = p := ⟨_, rfl⟩
      have HP : Hid (ckP k (e, S) fa a st seq place = pF (pW k (pF p9) st (jheadB seq place))) := by
        show ckP k (e, S) fa a st seq place = _
        unfold ckP
        rw [HL.out, hp9]
      rw [hp9] at hCX
      clear hp9
      obtain ⟨G, D, hG, hX⟩ := hCX.g.dv
      obtain ⟨ev, hE, hk⟩ := hCX.g.wk
      go_wp2_with fail
      refine (wkflush_any D hk hE (hX wb hCX.g.xw) (by omega)).mono ?_
      rintro e' w8 ⟨rfl, q8⟩
      have C8 := hCX.did hG hX q8
      have t8 := q8.tr
      have T8 : Save X wb jb w w8 := hT.trans t8 (fun i _ r hi => Or.inl (r.elim (fun r => absurd r (hX i hi)) id))
      clear t8 q8 hCX hT D hG hX hk hE G
      have Cd := C8.below (w' := w8.drew) ⟨rfl, rfl, rfl, Nat.le_refl _, fun _ _ => rfl⟩
      have Td : Save X wb jb w w8.drew := T8.trans (Below.turns (w := w8) (w' := w8.drew) ⟨rfl, rfl, rfl, Nat.le_refl _, fun _ _ => rfl⟩ _) (fun _ _ r => r)
      clear C8 T8
      have hJc : ∀ w', Jb w' jb d st sz seq place free bm op → (w'.cell? ⟨jb, 1, none⟩ = some (.int .i64 st) ∧ w'.cell? ⟨jb, 3, none⟩ = some (.int .i64 seq) ∧ w'.cell? ⟨jb, 4, none⟩ = some (.int .i64 place)) := fun w' hj => ⟨hj.cells.c1, hj.cells.c3, hj.cells.c4⟩
      have k0 := hJc _ Cd.J
      go_wp2_with fail
      go_region_held3 (fun w' => w'.cell? ⟨jb, 1, none⟩ = some (.int .i64 st) ∧ w'.cell? ⟨jb, 3, none⟩ = some (.int .i64 seq) ∧ w'.cell? ⟨jb, 4, none⟩ = some (.int .i64 place))
        (first | exact k0 | exact k1 | exact k2)
        (first
          | (go_at_call 83; refine (headBlock_any seq place w8.drew).mono ?_; rintro e' w9 ⟨g9, rfl, l9, k9, b9⟩; have C9 := Cd.add b9; have k1 := hJc _ C9.J; obtain ⟨G9, D9, hG9, hX9⟩ := C9.g.dv; obtain ⟨ev9, hE9, hk9⟩ := C9.g.wk)
          | (go_at_call 80; refine (wkwrite_any D9 hk9 hE9 (hX9 wb C9.g.xw) st (some ⟨g9, 0, none⟩) 512 512 _ (Lies.full k9 (jheadB_len seq place)) (jheadB_by seq place) (fun ad q => by cases q; exact hX9 g9 (Or.inr ⟨l9, heap_lt k9⟩)) (by omega)).mono ?_; rintro e' wA ⟨rfl, qA⟩; have CA := C9.did hG9 hX9 qA; have k2 := hJc _ CA.J))
      have CB := CA.less (Y := X) (fun i hi => Or.inl hi) h.g.xw h.xj.1 h.xa.1 (fun p hp => (h.xva p hp).1)
      have tA := qA.tr
      have TB : Save X wb jb w wA := (Td.trans (Below.turns b9 _) (fun _ _ r => r)).trans tA (fun i _ r hi => Or.inl (r.elim (fun r => absurd r (hX9 i (Or.inl hi))) id))
      clear CA C9 Cd Td tA qA D9 hG9 hX9 hk9 hE9 k0 k1 k2 b9 k9 l9
      obtain ⟨G, D, hG, hX⟩ := CB.g.dv
      obtain ⟨ev, hE, hk⟩ := CB.g.wk
      go_wp2_with fail
      refine (wkflush_any D hk hE (hX wb CB.g.xw) (by omega)).mono ?_
      rintro e' wC ⟨rfl, qC⟩
      have CC := CB.did hG hX qC
      have tC := qC.tr
      have TC : Save X wb jb w wC := TB.trans tC (fun i _ r hi => Or.inl (r.elim (fun r => absurd r (hX i hi)) id))
      have CP : Cj w0 wC F X wb d (ckP k (e, S) fa a st seq place).1 (ckP k (e, S) fa a st seq place).2 k (N + t + 1) jb st sz seq place free bm op nd a fa := by
        rw [HP.out]
        exact CC
      clear CC CB TB tC qC D hG hX hk hE G HP
      have hmm := fun (w : World) => run_makeMap (P := Tryz.prog) 99 w
      obtain ⟨c0, c1, c2, c3, c4, c5, c6, c7, c8, fz⟩ := CP.J.cells
      have hlj := heap_lt CP.J
      have HF : Hid (∀ wD, Below ((wC.setCell ⟨jb, 6, none⟩ (.map (some wC.heap.size))).alloc (.map #[] 0)).heap.size ((wC.setCell ⟨jb, 6, none⟩ (.map (some wC.heap.size))).alloc (.map #[] 0)) wD → wD.cell? ⟨jb, 5, none⟩ = some (.int .i64 free) ∧ wD.frozen? ⟨jb, 5, none⟩ = false ∧ ∃ bm', w.heap.size ≤ bm' ∧ Cj w0 (wD.setCell ⟨jb, 5, none⟩ (.int .i64 ((sz : Int) - 1))) (fun i => F i ∨ i = jb) (fun i => X i ∨ i = bm') wb d (ckP k (e, S) fa a st seq place).1 (ckP k (e, S) fa a st seq place).2 k (N + t + 1) jb st sz seq place (sz - 1) bm' op 0 [] (fun _ => []) ∧ Save X wb jb w (wD.setCell ⟨jb, 5, none⟩ (.int .i64 ((sz : Int) - 1)))) := fun wD bD => by
        have u0 := Turns.cell wC jb 6 (.map (some wC.heap.size))
        have s0 : (wC.setCell ⟨jb, 6, none⟩ (.map (some wC.heap.size))).heap.size = wC.heap.size := by simp [World.setCell]
        have J6 : Jb (wC.setCell ⟨jb, 6, none⟩ (.map (some wC.heap.size))) jb d st sz seq place free wC.heap.size op := heap_setCell_same _ jb 6 _ _ _ CP.J
        have M6 := World.ownsMap_made (wC.setCell ⟨jb, 6, none⟩ (.map (some wC.heap.size))) Tryz.prog 3 RV
        rw [s0] at M6
        have b6 : Below (wC.setCell ⟨jb, 6, none⟩ (.map (some wC.heap.size))).heap.size (wC.setCell ⟨jb, 6, none⟩ (.map (some wC.heap.size))) ((wC.setCell ⟨jb, 6, none⟩ (.map (some wC.heap.size))).alloc (.map #[] 0)) := (Below.refl _ _).alloc (Nat.le_refl _) _
        have s6 : ((wC.setCell ⟨jb, 6, none⟩ (.map (some wC.heap.size))).alloc (.map #[] 0)).heap.size = wC.heap.size + 1 := by simp [s0]
        have J7 := (b6.block jb (heap_lt J6)).trans J6
        have JD : Jb wD jb d st sz seq place free wC.heap.size op := (bD.block jb (heap_lt J7)).trans J7
        have MD := map_turns M6 (Below.turns bD (fun _ => False)) id
        have sD := bD.size
        rw [s6] at sD
        have uD := Turns.cell wD jb 5 (.int .i64 ((sz : Int) - 1))
        have u9 : Turns (fun i => i = jb) wC (wD.setCell ⟨jb, 5, none⟩ (.int .i64 ((sz : Int) - 1))) := ((u0.trans (Below.turns b6 _) (fun _ _ r => r)).trans (Below.turns bD _) (fun _ _ r => r)).trans uD (fun _ _ r => r)
        have s9 : (wD.setCell ⟨jb, 5, none⟩ (.int .i64 ((sz : Int) - 1))).heap.size = wD.heap.size := by simp [World.setCell]
        obtain ⟨G, D, hG, hX⟩ := CP.g.dv
        obtain ⟨ev, hE, hk⟩ := CP.g.wk
        have hwl := CP.g.xl wb CP.g.xw
        have hjw := h.xj.2
        have hs := TC.size
        refine ⟨JD.cells.c5, JD.cells.fz 5, wC.heap.size, hs, ⟨⟨⟨ev, hE, hk.turns u9 (fun r => hjw r.symm)⟩, ⟨G, D.turns u9 (fun i hi r => hX jb hjX (r ▸ hi)), fun i hi => (hG i hi).imp Or.inl id, fun i hi r => hi.elim (fun hi => hX i hi r) (fun hi => by have := D.lt i r; omega)⟩, fun i hi => hi.elim (fun hi => by have := CP.g.xl i hi; omega) (fun hi => by omega), Or.inl CP.g.xw, (CP.g.tr.mono (G := fun i => (F i ∨ i = jb) ∨ i = wb) (fun i _ r => r.imp Or.inl id)).trans u9 (fun i _ r => Or.inl (Or.inr r)), CP.g.nw⟩, heap_setCell_same _ jb 5 _ _ _ JD, ⟨map_turns MD uD (fun r => by omega), List.Pairwise.nil⟩, (fun p hp => by cases hp), ⟨Or.inl hjX, hjw⟩, ⟨Or.inr rfl, by omega⟩, (fun p hp => by cases hp)⟩, TC.trans u9 (fun i _ r _ => Or.inr r)⟩
      clear CP TC
      go_wp2_with fail
      refine (places_any d st sz _ (by omega)).mono ?_
      rintro e' wD ⟨rfl, bD⟩
      obtain ⟨cD, fD, HD⟩ := HF.out wD bD
      clear HF
      go_wp2
      first | go_end0 | refine bodyPost_ret (results_none rfl _ _ _) rfl ?_
      rw [HL.out]
      exact ⟨rfl, HD⟩
end Go.Proofs.YtnmdnglbpkpfdaaGreatDoor

/- The transactions that stand in a log; what they lay over the blocks. -/
namespace Go.Proofs.YtnmdnglbpkpfdaaGreatDoor
open Go.RowKit Go.Maps
set_option maxRecDepth 100000
/-- A transaction: its blocks, and what they hold. -/
abbrev TxL := List (Nat × List Int)
def txAt (x : TxL) (b : Nat) : Option (List Int) := (x.find? (fun p => p.1 == b)).map (·.2)
/-- What transactions, one behind the other, give a block. -/
def ovl (T : List TxL) (b : Nat) : Option (List Int) := T.foldl (fun o x => (txAt x b).or o) none
theorem ovl_nil (b : Nat) : ovl [] b = none := rfl
theorem ovl_snoc (T : List TxL) (x : TxL) (b : Nat) : ovl (T ++ [x]) b = (txAt x b).or (ovl T b) := by simp [ovl, List.foldl_append]
/-- The transaction of those lines at that place of a log. -/
def txOf (S : DevS) (st sz place : Nat) (ls : List (Nat × Nat)) : TxL := (List.range ls.length).map fun i => ((ls.getD i (0, 0)).1, nxB S st sz place ls i)
/-- The transactions that stand in a log from a place on. -/
inductive LogT (S : DevS) (k st sz : Nat) : Int → Nat → Int → List TxL → Prop
  | nil {seq : Int} {place : Nat} {free : Int} : nextL S k st sz seq place free = [] → LogT S k st sz seq place free []
  | cons {seq : Int} {place : Nat} {free : Int} {ls : List (Nat × Nat)} {T : List TxL} : nextL S k st sz seq place free = ls → ls ≠ [] → LogT S k st sz (seq + 1) ((place + ls.length + 2) % (sz - 1)) (free - (ls.length + 2)) T → LogT S k st sz seq place free (txOf S st sz place ls :: T)
theorem nextL_room {S : DevS} {k st sz : Nat} {seq : Int} {place : Nat} {free : Int} (h : nextL S k st sz seq place free ≠ []) : ((nextL S k st sz seq place free).length : Int) + 2 ≤ free ∧ mayB k st sz (nextL S k st sz seq place free) = true ∧ 0 < (nextL S k st sz seq place free).length := by
  unfold nextL at h ⊢
  simp only at h ⊢
  split at h
  · rename_i hc
    rw [if_pos hc]
    exact ⟨hc.2.1, hc.2.2.1, by cases e : linesR (rdB S (atN st sz place 0)) seq with | nil => exact absurd e hc.1 | cons => simp⟩
  · exact absurd rfl h
theorem nextL_24 {S : DevS} {k st sz : Nat} {seq : Int} {place : Nat} {free : Int} (hy : ∀ x ∈ rdB S (atN st sz place 0), 0 ≤ x ∧ x ≤ 255) : (nextL S k st sz seq place free).length ≤ 24 := by
  unfold nextL
  simp only
  split
  · exact linesR_len _ _ hy
  · simp
/-- A map holds just what those transactions give. -/
def Cont (a : List (Nat × Nat)) (fa : Nat → List Int) (T : List TxL) : Prop := ∀ b, (lk a b).map (fun _ => fa b) = ovl T b
theorem lk_keys {m : List (Nat × Nat)} {b : Nat} : (lk m b).isSome = true ↔ b ∈ m.map (·.1) := by
  induction m with
  | nil => simp [lk]
  | cons p m ih =>
    rw [lk_cons]
    by_cases e : p.1 = b
    · simp [e]
    · simp only [if_neg e, ih, List.map_cons, List.mem_cons]
      exact ⟨Or.inr, fun h => h.resolve_left (fun q => e q.symm)⟩
theorem NextS.at {w w' : World} {S : DevS} {st sz place : Nat} {ls : List (Nat × Nat)} {bN : Nat} {mN : List (Nat × Nat)} {f : Nat → List Int} (h : NextS w w' S st sz place ls bN mN f) (b : Nat) : (lk mN b).map (fun _ => f b) = txAt (txOf S st sz place ls) b := by
  have hk := h.keys
  unfold txAt
  cases e : (txOf S st sz place ls).find? (fun p => p.1 == b) with
  | some p =>
    have h1 := List.find?_some e
    have h2 := List.mem_of_find?_eq_some e
    unfold txOf at h2
    obtain ⟨i, hi, rfl⟩ := List.mem_map.1 h2
    rw [List.mem_range] at hi
    simp only [beq_iff_eq] at h1
    have h3 : b ∈ mN.map (·.1) := by
      rw [hk, ← h1]
      have : ls.getD i (0, 0) = ls[i] := by simp [List.getD, hi]
      rw [this]
      exact List.mem_map.2 ⟨ls[i], List.getElem_mem hi, rfl⟩
    have h4 := lk_keys.2 h3
    obtain ⟨g, hg⟩ := Option.isSome_iff_exists.1 h4
    rw [hg]
    simp only [Option.map_some]
    rw [← h1, h.fv i hi]
  | none =>
    have h3 : ¬ b ∈ mN.map (·.1) := fun q => by
      rw [hk] at q
      obtain ⟨r, hr, hre⟩ := List.mem_map.1 q
      obtain ⟨i, hi, hie⟩ := List.getElem_of_mem hr
      have := List.find?_eq_none.1 e ((ls.getD i (0, 0)).1, nxB S st sz place ls i) (List.mem_map.2 ⟨i, List.mem_range.2 hi, rfl⟩)
      have e2 : ls.getD i (0, 0) = ls[i] := by simp [List.getD, hi]
      rw [e2, hie] at this
      simp [hre] at this
    have h4 : lk mN b = none := by
      cases q : lk mN b with
      | none => rfl
      | some g => exact absurd (lk_keys.1 (by rw [q]; rfl)) h3
    rw [h4]
    rfl
theorem Cont.merge {a m : List (Nat × Nat)} {f fa : Nat → List Int} {T : List TxL} {x : TxL} (h : Cont a fa T) (ha : Rising a) (hm : Rising m) (hx : ∀ b, (lk m b).map (fun _ => f b) = txAt x b) : Cont (mmerge a m) (mergeF m f fa) (T ++ [x]) := fun b => by
  rw [ovl_snoc, ← hx b, ← h b, lk_merge m a b ha hm]
  unfold mergeF
  cases e : lk m b with
  | some g => simp
  | none => simp
theorem NextS.low {w w' : World} {S : DevS} {k st sz place : Nat} {ls : List (Nat × Nat)} {bN : Nat} {mN : List (Nat × Nat)} {f : Nat → List Int} (h : NextS w w' S st sz place ls bN mN f) (hm : mayB k st sz ls = true) (hk : k ≤ 4096) : Low mN := fun p hp => by
  have h1 : p.1 ∈ ls.map (·.1) := by rw [← h.keys]; exact List.mem_map.2 ⟨p, hp, rfl⟩
  obtain ⟨r, hr, hre⟩ := List.mem_map.1 h1
  obtain ⟨i, hi, hie⟩ := List.getElem_of_mem hr
  have := (mayB_at hm hi).1.1
  rw [hie, hre] at this
  omega
theorem NextS.len {w w' : World} {S : DevS} {st sz place : Nat} {ls : List (Nat × Nat)} {bN : Nat} {mN : List (Nat × Nat)} {f : Nat → List Int} (h : NextS w w' S st sz place ls bN mN f) : mN.length = ls.length := by
  have := congrArg List.length h.keys
  simpa using this
theorem sorted_at {l : List Nat} (h : l.Pairwise (· < ·)) : ∀ i (hi : i < l.length), i ≤ l[i]
  | 0, _ => Nat.zero_le _
  | i + 1, hi => by
    have h1 := sorted_at h i (by omega)
    have h2 := List.pairwise_iff_getElem.1 h i (i + 1) (by omega) hi (by omega)
    omega
theorem low_len {a : List (Nat × Nat)} (hr : Rising a) (hl : Low a) : a.length ≤ 4096 := by
  by_cases e : a.length = 0
  · omega
  · have hs : (a.map (·.1)).Pairwise (· < ·) := by rw [List.pairwise_map]; exact hr
    have hi : a.length - 1 < (a.map (·.1)).length := by rw [List.length_map]; omega
    have h1 := sorted_at hs (a.length - 1) hi
    have h2 := hl (a[a.length - 1]'(by omega)) (List.getElem_mem _)
    rw [List.getElem_map] at h1
    omega
/-- The place behind transactions. -/
def plEnd (sz place : Nat) (T : List TxL) : Nat := T.foldl (fun p x => (p + x.length + 2) % (sz - 1)) place
theorem plEnd_snoc (sz place : Nat) (T : List TxL) (x : TxL) : plEnd sz place (T ++ [x]) = (plEnd sz place T + x.length + 2) % (sz - 1) := by simp [plEnd, List.foldl_append]
theorem txOf_len (S : DevS) (st sz place : Nat) (ls : List (Nat × Nat)) : (txOf S st sz place ls).length = ls.length := by simp [txOf]
/-- Its blocks are outside, and hold blocks of bytes. -/
def OutA (k st sz : Nat) (a : List (Nat × Nat)) : Prop := ∀ p ∈ a, p.1 < k ∧ (p.1 < st ∨ st + sz ≤ p.1)
theorem NextS.out {w w' : World} {S : DevS} {k st sz place : Nat} {ls : List (Nat × Nat)} {bN : Nat} {mN : List (Nat × Nat)} {f : Nat → List Int} (h : NextS w w' S st sz place ls bN mN f) (hm : mayB k st sz ls = true) : OutA k st sz mN := fun p hp => by
  have h1 : p.1 ∈ ls.map (·.1) := by rw [← h.keys]; exact List.mem_map.2 ⟨p, hp, rfl⟩
  obtain ⟨r, hr, hre⟩ := List.mem_map.1 h1
  obtain ⟨i, hi, hie⟩ := List.getElem_of_mem hr
  have := (mayB_at hm hi).1
  rw [hie, hre] at this
  exact this
theorem OutA.merge {k st sz : Nat} {a m : List (Nat × Nat)} (h1 : OutA k st sz a) (h2 : OutA k st sz m) : OutA k st sz (mmerge a m) := fun p hp => (mmerge_mem m a p hp).elim (h2 p) (h1 p)
theorem OutA.low {k st sz : Nat} {a : List (Nat × Nat)} (h : OutA k st sz a) (hk : k ≤ 4096) : Low a := fun p hp => by have := (h p hp).1; omega
theorem merge_pos {a m : List (Nat × Nat)} (ha : Rising a) (hm : Rising m) (h : 0 < m.length) : 0 < (mmerge a m).length := by
  have h1 := lk_merge m a (m[0]'h).1 ha hm
  rw [lk_mem hm (List.getElem_mem h)] at h1
  cases e : mmerge a m with
  | nil => rw [e] at h1; simp [lk] at h1
  | cons => simp
/-- What takeUp's loop holds. -/
def TkI (w wr : World) (G : Nat → Prop) (wb d : Nat) (S : DevS) (k N jb st sz : Nat) (seq : Int) (place bm : Nat) (op : Option Nat) (T : List TxL) (t : Nat) : Prop := ∃ (fr : Int) (done rest : List TxL) (nd : Nat) (a : List (Nat × Nat)) (fa : Nat → List Int), T = done ++ rest ∧ done.length = t ∧ LogT S k st sz (seq + t) (plEnd sz place done) fr rest ∧ plEnd sz place done ≤ 4096 ∧ 0 ≤ fr ∧ (nd : Int) + fr ≤ sz ∧ Jb wr jb d st sz (seq + t) (plEnd sz place done) fr bm op ∧ Mp wr bm nd a ∧ Vals wr fa a ∧ OutA k st sz a ∧ Cont a fa done ∧ (∀ p ∈ a, w.heap.size ≤ p.2) ∧ (0 < t → 0 < a.length) ∧ (t = 0 → a = [] ∧ fr = (sz : Int) - 1 ∧ nd = 0) ∧ Wk wr wb d .nilIface ∧ Dev wr d 0 S k N G ∧ Turns (fun i => G i ∨ i = wb ∨ i = jb ∨ i = bm) w wr
/-- What takeUp leaves. -/
structure TkR (w0 w' : World) (F : Nat → Prop) (wb d : Nat) (S : DevS) (k N jb st sz : Nat) (seq : Int) (place : Nat) (op : Option Nat) (T : List TxL) : Prop where
  ex : ∃ (bm' : Nat) (p : Int × DevS) (N' : Nat), w0.heap.size ≤ bm' ∧ N' ≤ N + 4097 ∧ Cj w0 w' (fun i => F i ∨ i = jb) (fun i => i = wb ∨ i = jb ∨ i = bm') wb d p.1 p.2 k N' jb st sz (seq + T.length) (plEnd sz place T) ((sz : Int) - 1) bm' op 0 [] (fun _ => []) ∧ ((T = [] ∧ p = (0, S)) ∨ ∃ a fa, 0 < a.length ∧ Rising a ∧ OutA k st sz a ∧ Cont a fa T ∧ (∀ q ∈ a, (fa q.1).length = 512 ∧ ∀ x ∈ fa q.1, 0 ≤ x ∧ x ≤ 255) ∧ p = ckP k (0, S) fa a st (seq + T.length) (plEnd sz place T))
end Go.Proofs.YtnmdnglbpkpfdaaGreatDoor
