/- What a call holds while it reads of the device; the transaction that stands at a place of the log. -/
import Derived.Test.YtlcjkbhcbiggcaaGreatDoorPk15
import Derived.Test.YtlcjkbhcbiggcaaGreatDoorPk12
namespace Go.Proofs.YtlcjkbhcbiggcaaGreatDoor
open Go.RowKit Go.Maps
set_option maxRecDepth 100000

/-- A call reads: its work has met no error; only the device's own blocks and the work's have turned since w. -/
structure Rg (w wr : World) (G : Nat → Prop) (wb d : Nat) (S : DevS) (k N : Nat) : Prop where
  wk : Wk wr wb d .nilIface
  D : Dev wr d 0 S k N G
  tr : Turns (fun i => G i ∨ i = wb) w wr
section
variable {w w1 w2 : World} {G : Nat → Prop} {wb d : Nat} {S : DevS} {k N : Nat}
theorem Rg.below (h : Rg w w1 G wb d S k N) (b : Below w1.heap.size w1 w2) : Rg w w2 G wb d S k N := ⟨h.wk.turns (Below.turns b (fun _ => False)) id, h.D.below b, h.tr.trans (Below.turns b (fun _ => False)) (fun _ _ r => r.elim)⟩
theorem Rg.read (h : Rg w w1 G wb d S k N) (k1 : Wk w2 wb d .nilIface) (d1 : Dev w2 d 0 S k N G) (t1 : Turns (fun i => G i ∨ i = wb) w1 w2) : Rg w w2 G wb d S k N := ⟨k1, d1, h.tr.trans t1 (fun _ _ r => r)⟩
theorem Rg.same (h : Rg w w1 G wb d S k N) (hw : ¬ G wb) (q : Same0 w1 w2 d S k N G) : Rg w w2 G wb d S k N := ⟨h.wk.turns q.2 hw, q.1, h.tr.trans q.2 (fun _ _ r => Or.inl r)⟩
theorem Rg.jb (h : Rg w w1 G wb d S k N) {jb st sz : Nat} {seq free : Int} {place bm : Nat} {op : Option Nat} (hJ : Jb w jb d st sz seq place free bm op) (h1 : ¬ G jb) (h2 : jb ≠ wb) : Jb w1 jb d st sz seq place free bm op := (h.tr.block jb (heap_lt hJ) (fun r => r.elim h1 h2)).trans hJ
end
/-- The block of a place. -/
def atN (st sz place i : Nat) : Nat := st + 1 + (place + i) % (sz - 1)
theorem atN_lt {st sz place i k : Nat} (h1 : 2 ≤ sz) (h2 : st + sz ≤ k) : atN st sz place i < k := by
  have := Nat.mod_lt (place + i) (show 0 < sz - 1 by omega)
  unfold atN
  omega
/-- The block of line i as it was; may all up to n look so? -/
def nxB (S : DevS) (st sz place : Nat) (ls : List (Nat × Nat)) (i : Nat) : List Int := shB (rdB S (atN st sz place (i + 1))) (ls.getD i (0, 0)).2
def nxOk (S : DevS) (st sz place : Nat) (ls : List (Nat × Nat)) (n : Nat) : Bool := (List.range n).all fun i => shOk (rdB S (atN st sz place (i + 1))) (ls.getD i (0, 0)).2
/-- The lines of the transaction that stands there; none, if there is none that is right and whole. -/
def nextL (S : DevS) (k st sz : Nat) (seq : Int) (place : Nat) (free : Int) : List (Nat × Nat) :=
  let ls := linesR (rdB S (atN st sz place 0)) seq
  if ls ≠ [] ∧ (ls.length : Int) + 2 ≤ free ∧ mayB k st sz ls = true ∧ isCom (rdB S (atN st sz place (ls.length + 1))) seq = true ∧ nxOk S st sz place ls ls.length = true then ls else []
theorem linesR_len (bs : List Int) (seq : Int) (hy : ∀ x ∈ bs, 0 ≤ x ∧ x ≤ 255) : (linesR bs seq).length ≤ 24 := by
  unfold linesR
  split
  · have := rdNum_bd 4 508 ((bs.drop 4).take 508) 0 0 24 (by omega) (val_bd _ (fun x hx => hy x (List.mem_of_mem_drop (List.mem_of_mem_take (List.mem_of_mem_drop (List.mem_of_mem_take hx)))))).1
    rw [List.length_map, List.length_range]
    unfold dsA
    omega
  · simp
theorem linesR_flag (bs : List Int) (seq : Int) (hy : ∀ x ∈ bs, 0 ≤ x ∧ x ≤ 255) : ∀ p ∈ linesR bs seq, p.2 ≤ 2 := by
  unfold linesR
  split
  · intro p hp
    obtain ⟨i, _, rfl⟩ := List.mem_map.1 hp
    have := rdNum_bd 4 508 ((bs.drop 4).take 508) (rdNum 4 508 ((bs.drop 4).take 508) (dsP ((bs.drop 4).take 508) i).1 (dsP ((bs.drop 4).take 508) i).2 4294967295).2.1 (rdNum 4 508 ((bs.drop 4).take 508) (dsP ((bs.drop 4).take 508) i).1 (dsP ((bs.drop 4).take 508) i).2 4294967295).2.2 2 (by omega) (val_bd _ (fun x hx => hy x (List.mem_of_mem_drop (List.mem_of_mem_take (List.mem_of_mem_drop (List.mem_of_mem_take hx)))))).1
    unfold dsL
    simp only
    omega
  · intro p hp; cases hp
theorem mput_last : ∀ (m : List (Nat × Nat)) (b g : Nat), (∀ p ∈ m, p.1 < b) → mput m b g = m ++ [(b, g)]
  | [], b, g, _ => rfl
  | q :: r, b, g, h => by
    have h1 := h q List.mem_cons_self
    unfold mput
    rw [if_neg (by omega), if_neg (by omega), mput_last r b g (fun p hp => h p (List.mem_cons_of_mem _ hp))]
    rfl
theorem mayB_at {k st sz : Nat} {ls : List (Nat × Nat)} (h : mayB k st sz ls = true) {i : Nat} (hi : i < ls.length) : (ls[i].1 < k ∧ (ls[i].1 < st ∨ st + sz ≤ ls[i].1)) ∧ ∀ j, j < i → (ls.getD j (0, 0)).1 < ls[i].1 := by
  have hall : ∀ t, t < ls.length → mayT k st sz ls t = true := fun t ht => List.all_eq_true.1 h t (List.mem_range.2 ht)
  have hout : ∀ t (ht : t < ls.length), outB k st sz (ls[t].1 : Nat) = true ∧ (t = 0 ∨ (ls.getD (t - 1) (0, 0)).1 < ls[t].1) := fun t ht => by
    have := hall t ht
    unfold mayT at this
    have e : ls.getD t (0, 0) = ls[t] := by simp [List.getD, ht]
    rw [e] at this
    simp only [Bool.and_eq_true, Bool.or_eq_true, decide_eq_true_eq] at this
    exact this
  refine ⟨?_, ?_⟩
  · have := (hout i hi).1
    unfold outB at this
    simp at this
    omega
  · induction i with
    | zero => intro j hj; omega
    | succ i ih =>
      intro j hj
      have h1 := (hout (i + 1) hi).2.resolve_left (by omega)
      rw [Nat.add_sub_cancel] at h1
      by_cases e : j = i
      · subst e; exact h1
      · have h2 := ih (by omega) j (by omega)
        have e2 : ls.getD i (0, 0) = ls[i] := by simp [List.getD, show i < ls.length by omega]
        rw [e2] at h1
        omega
theorem shB_ok {bs : List Int} (hl : bs.length = 512) (hy : ∀ x ∈ bs, 0 ≤ x ∧ x ≤ 255) (f : Nat) : (shB bs f).length = 512 ∧ ∀ x ∈ shB bs f, 0 ≤ x ∧ x ≤ 255 := by
  have hd : ∀ x ∈ bs.drop 4, 0 ≤ x ∧ x ≤ 255 := fun x hx => hy x (List.mem_of_mem_drop hx)
  unfold shB
  split
  · refine ⟨by simp; omega, fun x hx => ?_⟩
    rcases List.mem_append.1 hx with hx | hx
    · simp at hx; omega
    · exact hd x hx
  · split
    · refine ⟨by simp; omega, fun x hx => ?_⟩
      rcases List.mem_append.1 hx with hx | hx
      · simp at hx; omega
      · exact hd x hx
    · exact ⟨hl, hy⟩
theorem mp_no_cells {w : World} {bm k b : Nat} {m : List (Nat × Nat)} {cs : Array Value} {t : Nat} {fz : Nat × Nat} (hq : Mp w bm k m) (hb : w.heap[b]? = some (.cells cs t fz)) : b ≠ bm := by
  rintro rfl
  obtain ⟨es, clock, h, _⟩ := hq.own
  rw [hb] at h
  simp at h
/-- What next's loop holds behind t lines. -/
def NxI (w wr : World) (G : Nat → Prop) (wb d : Nat) (S : DevS) (k N st sz place : Nat) (lv : Value) (ls : List (Nat × Nat)) (bN t : Nat) : Prop := ∃ (mN : List (Nat × Nat)) (f : Nat → List Int), Rg w wr G wb d S k N ∧ Lns wr lv ls ∧ Mp wr bN t mN ∧ mN.map (·.1) = (ls.take t).map (·.1) ∧ Vals wr f mN ∧ (∀ p ∈ mN, w.heap.size ≤ p.2) ∧ (∀ i, i < t → f (ls.getD i (0, 0)).1 = nxB S st sz place ls i) ∧ Hid (nxOk S st sz place ls t = true)
/-- What next answers: nothing, where nothing stands; else a new map of the transaction's blocks. -/
structure NextS (w w' : World) (S : DevS) (st sz place : Nat) (ls : List (Nat × Nat)) (bN : Nat) (mN : List (Nat × Nat)) (f : Nat → List Int) : Prop where
  lb : w.heap.size ≤ bN
  M : Mp w' bN mN.length mN
  keys : mN.map (·.1) = ls.map (·.1)
  V : Vals w' f mN
  lv : ∀ p ∈ mN, w.heap.size ≤ p.2
  fv : ∀ i, i < ls.length → f (ls.getD i (0, 0)).1 = nxB S st sz place ls i
structure NextR (w w' : World) (G : Nat → Prop) (wb d : Nat) (S : DevS) (k N st sz : Nat) (seq : Int) (place : Nat) (free : Int) (e : Ending) : Prop where
  R : Rg w w' G wb d S k N
  r : (nextL S k st sz seq place free = [] ∧ e = .returned (.map none)) ∨ ∃ bN mN f, nextL S k st sz seq place free ≠ [] ∧ e = .returned (.map (some bN)) ∧ NextS w w' S st sz place (nextL S k st sz seq place free) bN mN f
end Go.Proofs.YtlcjkbhcbiggcaaGreatDoor

/- next by its contract, whatever stands in the log. -/
namespace Go.Proofs.YtlcjkbhcbiggcaaGreatDoor
open Go.RowKit Go.Maps
set_option maxRecDepth 100000

set_option maxHeartbeats 4000000 in
theorem next_any {w : World} {G : Nat → Prop} {wb d : Nat} {S : DevS} {k N : Nat} {er : Nat → Addr} (h : Rg w w G wb d S k N) {jb st sz : Nat} {seq free : Int} {place bm : Nat} {op : Option Nat} (hJ : Jb w jb d st sz seq place free bm op) (hjG : ¬ G jb) (hjw : jb ≠ wb) (hwG : ¬ G wb) (h1 : 27 ≤ sz ∧ sz ≤ 4096) (h2 : st + sz ≤ k) (hk : k ≤ 4096) (hp : place ≤ 4096) (ho : S.off = false) (hEF : ∀ w', Turns (fun i => G i ∨ i = wb) w w' → Errs w' er) (hgB : ∀ b, b < k → (rdB S b).length = 512 ∧ ∀ x ∈ rdB S b, 0 ≤ x ∧ x ≤ 255) :
    Calls Tryz.prog 186 #[.pointer (some ⟨jb, 0, none⟩), .pointer (some ⟨wb, 0, none⟩)] w fun e w' => NextR w w' G wb d S k N st sz seq place free e := by
  have c3 := hJ.cells.c3
  have hB0 := hgB (atN st sz place 0) (atN_lt (by omega) h2)
  have HL24 : Hid ((linesR (rdB S (atN st sz place 0)) seq).length ≤ 24 ∧ ∀ p ∈ linesR (rdB S (atN st sz place 0)) seq, p.2 ≤ 2) := ⟨linesR_len _ _ hB0.2, linesR_flag _ _ hB0.2⟩
  have HNX : Hid (nextL S k st sz seq place free = if linesR (rdB S (atN st sz place 0)) seq ≠ [] ∧ ((linesR (rdB S (atN st sz place 0)) seq).length : Int) + 2 ≤ free ∧ mayB k st sz (linesR (rdB S (atN st sz place 0)) seq) = true ∧ isCom (rdB S (atN st sz place ((linesR (rdB S (atN st sz place 0)) seq).length + 1))) seq = true ∧ nxOk S st sz place (linesR (rdB S (atN st sz place 0)) seq) (linesR (rdB S (atN st sz place 0)) seq).length = true then linesR (rdB S (atN st sz place 0)) seq else []) := rfl
  have hd0 : Rg w w.drew G wb d S k N := h.below ⟨rfl, rfl, rfl, Nat.le_refl _, fun _ _ => rfl⟩
  have J0 := hd0.jb hJ hjG hjw
  go_enter Tryz.func186, Tryz.ntmps186
  go_wp2_with fail
  go_region_held3 (fun w' => w'.cell? ⟨jb, 3, none⟩ = some (.int .i64 seq))
    (first | exact c3 | exact y3 | exact u3 | exact v3)
    (first
      | (go_at_call 202; refine (jat_any J0 (by omega) (by omega) 0 hp (by omega)).mono ?_; rintro e w1 ⟨rfl, b1⟩; have R1 := hd0.below b1; have j1 := R1.jb hJ hjG hjw; have y3 := j1.cells.c3)
      | (go_at_call 167; refine (wkread_ok R1.D R1.wk hwG ho (atN st sz place 0) (atN_lt (by omega) h2)).mono ?_; rintro e w2 ⟨gr, rfl, lr, br, k2, d2, t2⟩; have R2 := R1.read k2 d2 t2; have j2 := R2.jb hJ hjG hjw; have u3 := j2.cells.c3)
      | (go_at_call 238; refine (linesOf_any gr _ seq er _ br hB0.1 hB0.2 (hEF _ R2.tr)).mono ?_; rintro e w3 ⟨la, ln, lc, rfl, hln, hLn, hfr, b3⟩; have Hln : Hid (ln = (linesR (rdB S (atN st sz place 0)) seq).length) := hln; clear hln; have R3 := R2.below b3; have j3 := R3.jb hJ hjG hjw; have v3 := j3.cells.c3))
  have hlF : ∀ b, (Value.slice la ln lc).ownBlock = some b → w.heap.size ≤ b := fun b hb => Nat.le_trans R2.tr.size (hfr b hb)
  clear R1 R2 j1 j2 b1 b3 k2 d2 t2 br hd0 J0 c3 y3 u3 v3 hfr lr
  generalize linesR (rdB S (atN st sz place 0)) seq = ls at *
  have hl24 : ln ≤ 24 := by rw [Hln.out]; exact HL24.out.1
  have hl24i : (ln : Int) ≤ 24 := by omega
  obtain ⟨c0, c1, c2, c3, c4, c5, c6, c7, c8, fz⟩ := j3.cells
  by_cases hz : ln = 0
  · have HZ : Hid (nextL S k st sz seq place free = []) := by
      show nextL S k st sz seq place free = []
      rw [HNX.out, if_neg (fun q => q.1 (List.eq_nil_of_length_eq_zero (by rw [← Hln.out]; exact hz)))]
    subst hz
    go_wp2
    go_ret
    exact ⟨R3, Or.inl ⟨HZ.out, rfl⟩⟩
  have hzi : ¬ (ln : Int) = 0 := by omega
  have hlX : ∀ b, w.heap.size ≤ b → ¬ (G b ∨ b = wb) := fun b hb r => r.elim (fun r => by have := h.D.lt b r; omega) (fun r => by have := heap_lt h.wk; omega)
  have hw1 : IntKind.i64.wrap ((ln : Int) + 2) = ln + 2 := Go.IntWalk.i64_in _ ⟨by omega, by omega⟩
  by_cases hfr : free < (ln : Int) + 2
  · have HZ : Hid (nextL S k st sz seq place free = []) := by
      show nextL S k st sz seq place free = []
      rw [HNX.out, if_neg (fun q => by have := q.2.1; rw [← Hln.out] at this; omega)]
    go_wp2
    go_ret
    exact ⟨R3, Or.inl ⟨HZ.out, rfl⟩⟩
  have m1 := mayBe_any R3.D st sz (by omega) (by omega) la ln lc ls Hln.out hl24 hLn (fun b hb r => by have := hlF b hb; have := h.D.lt b r; omega)
  cases hmb : mayB k st sz ls with
  | false =>
    have HZ : Hid (nextL S k st sz seq place free = []) := by
      show nextL S k st sz seq place free = []
      rw [HNX.out, if_neg (fun q => by have := q.2.2.1; rw [hmb] at this; cases this)]
    rw [hmb] at m1
    go_wp2_with fail
    refine m1.mono ?_
    rintro e w4 ⟨rfl, q4⟩
    have R4 := R3.same hwG q4
    clear m1
    go_wp2
    go_ret
    exact ⟨R4, Or.inl ⟨HZ.out, rfl⟩⟩
  | true =>
    rw [hmb] at m1
    go_wp2_with fail
    refine m1.mono ?_
    rintro e w4 ⟨rfl, q4⟩
    have R4 := R3.same hwG q4
    have L4 := hLn.turns q4.2 (fun b hb r => by have := hlF b hb; have := h.D.lt b r; omega)
    have j4 := R4.jb hJ hjG hjw
    clear m1 q4 R3 j3 hLn c0 c1 c2 c3 c4 c5 c6 c7 c8 fz
    have c3 := j4.cells.c3
    have hd4 : Rg w w4.drew G wb d S k N := R4.below ⟨rfl, rfl, rfl, Nat.le_refl _, fun _ _ => rfl⟩
    have J4 := hd4.jb hJ hjG hjw
    have L4d : Lns w4.drew (.slice la ln lc) ls := L4.below ⟨rfl, rfl, rfl, Nat.le_refl _, fun _ _ => rfl⟩
    have hB1 := hgB (atN st sz place (ln + 1)) (atN_lt (by omega) h2)
    go_wp2_with fail
    go_region_held3 (fun w' => w'.cell? ⟨jb, 3, none⟩ = some (.int .i64 seq))
      (first | exact c3 | exact y3 | exact u3 | exact v3)
      (first
        | (go_at_call 202; refine (jat_succ J4 (by omega) (by omega) ln hp (by omega)).mono ?_; rintro e w5 ⟨rfl, b5⟩; have R5 := hd4.below b5; have L5 := L4d.below b5; have j5 := R5.jb hJ hjG hjw; have y3 := j5.cells.c3)
        | (go_at_call 167; refine (wkread_ok R5.D R5.wk hwG ho (atN st sz place (ln + 1)) (atN_lt (by omega) h2)).mono ?_; rintro e w6 ⟨gs, rfl, ls6, bs6, k6, d6, t6⟩; have R6 := R5.read k6 d6 t6; have L6 := L5.turns t6 (fun b hb r => hlX b (hlF b hb) r); have j6 := R6.jb hJ hjG hjw; have u3 := j6.cells.c3)
        | (go_at_call 240; refine (isCommit_any gs _ seq er _ bs6 hB1.1 hB1.2 (hEF _ R6.tr)).mono ?_; rintro e w7 ⟨rfl, b7⟩; have R7 := R6.below b7; have L7 := L6.below b7; have j7 := R7.jb hJ hjG hjw; have v3 := j7.cells.c3))
    clear R5 R6 j5 j6 b5 b7 k6 d6 t6 bs6 hd4 J4 c3 y3 u3 v3 L5 L6 L4 L4d R4 j4 ls6
    cases hic : isCom (rdB S (atN st sz place (ln + 1))) seq with
    | false =>
      have HZ : Hid (nextL S k st sz seq place free = []) := by
        show nextL S k st sz seq place free = []
        rw [HNX.out, if_neg (fun q => by have := q.2.2.2.1; rw [← Hln.out, hic] at this; cases this)]
      go_wp2
      go_ret
      exact ⟨R7, Or.inl ⟨HZ.out, rfl⟩⟩
    | true =>
      have hmm := fun (w : World) => run_makeMap (P := Tryz.prog) 96 w
      obtain ⟨bN, hbN⟩ : ∃ bN, w7.heap.size = bN := ⟨_, rfl⟩
      have a7 : Below w7.heap.size w7 (w7.alloc (.map #[] 0)) := (Below.refl _ w7).alloc (Nat.le_refl _) _
      have RA := R7.below a7
      have LA := L7.below a7
      have MA : Mp (w7.alloc (.map #[] 0)) bN 0 [] := ⟨by rw [← hbN]; exact World.ownsMap_made w7 Tryz.prog 3 RV, List.Pairwise.nil⟩
      have hbw : w.heap.size ≤ bN := by rw [← hbN]; exact R7.tr.size
      obtain ⟨W8, hW8⟩ : ∃ W, w7.alloc (.map #[] 0) = W := ⟨_, rfl⟩
      rw [hW8] at RA LA MA
      clear R7 L7 j7 a7
      have hMB := hmb
      have HMB : Hid (mayB k st sz ls = true) := hmb
      clear hMB
      go_wp2_with fail
      try rw [hW8]
      try rw [hbN]
      clear hmm hW8
      go_loopw [58] (fun i wr => ∃ t : Nat, t ≤ ln ∧ i = .int .i64 t ∧ NxI w wr G wb d S k N st sz place (.slice la ln lc) ls bN t) (fun i _ => ln - (intOf i).toNat)
      case atStart => exact ⟨0, Nat.zero_le _, rfl, [], fun _ => [], RA, LA, MA, rfl, (fun p hp => by cases hp), (fun p hp => by cases hp), (fun i hi => by omega), (rfl : nxOk S st sz place ls 0 = true)⟩
      case round =>
        clear RA LA MA
        obtain ⟨t, htn, rfl, mN, f, Rr, Lr, Mr, hkeys, Vr, hlv, hfv, HOK⟩ := hrel
        by_cases hlt : t < ln
        · have hti : (t : Int) < ln := by omega
          have htl : t < ls.length := by rw [← Hln.out]; exact hlt
          obtain ⟨p, hp'⟩ : ∃ p, ls[t]? = some p := ⟨_, List.getElem?_eq_getElem htl⟩
          obtain ⟨g, c', hgv, x0, x1⟩ := Lr.get hp'
          obtain rfl : la = some ⟨g, 0, none⟩ := by injection hgv
          clear hgv
          have hpe : ls[t] = p := (List.getElem?_eq_some_iff.1 hp').2
          have hfl := HL24.out.2 p (List.mem_of_getElem? hp')
          obtain ⟨hb4, hrise⟩ := mayB_at HMB.out htl
          rw [hpe] at hb4 hrise
          obtain ⟨b, fl⟩ := p
          simp only at x0 x1 hfl hb4 hrise
          have HD : Hid (ls.getD t (0, 0) = (b, fl)) := by show ls.getD t (0, 0) = (b, fl); simp [List.getD, hp']
          have HLT : Hid (∀ p ∈ mN, p.1 < b) := fun p hp => by
            have h1 : p.1 ∈ (ls.take t).map (·.1) := by rw [← hkeys]; exact List.mem_map.2 ⟨p, hp, rfl⟩
            obtain ⟨r, hr, hre⟩ := List.mem_map.1 h1
            obtain ⟨j, hj, hje⟩ := List.mem_take_iff_getElem.1 hr
            have := hrise j (by omega)
            have e : ls.getD j (0, 0) = r := by simp [List.getD, show j < ls.length by omega, hje]
            rw [e] at this
            omega
          obtain ⟨W1, hW1⟩ : ∃ W1, wr.alloc (.cells #[.int .i64 (b : Nat), .int .i64 (fl : Nat)] 250) = W1 := ⟨_, rfl⟩
          have b1 : Below wr.heap.size wr W1 := by rw [← hW1]; exact (Below.refl _ wr).alloc (Nat.le_refl _) _
          have bD : Below wr.heap.size wr W1.drew := b1.trans ⟨rfl, rfl, rfl, Nat.le_refl _, fun _ _ => rfl⟩
          obtain ⟨q, hq⟩ : ∃ q, wr.heap.size = q := ⟨_, rfl⟩
          have yD : W1.drew.heap[q]? = some (.cells #[.int .i64 (b : Nat), .int .i64 (fl : Nat)] 250) := by rw [← hq, ← hW1]; exact (MapKept.heap_alloc wr _).1
          have RD := Rr.below bD
          have JD := RD.jb hJ hjG hjw
          have LD := Lr.below bD
          have MD := Mr.turns (Below.turns bD (fun _ => False)) id
          have VD := Vr.below bD
          have hwq : w.heap.size ≤ q := by rw [← hq]; exact Rr.tr.size
          have hBt := hgB (atN st sz place (t + 1)) (atN_lt (by omega) h2)
          have hKc : ∀ w'' : World, w''.heap[q]? = some (.cells #[.int .i64 (b : Nat), .int .i64 (fl : Nat)] 250) → w''.cell? ⟨q, 1, none⟩ = some (.int .i64 (fl : Nat)) := fun w'' h2 => by simp [World.cell?, h2]
          have k0 := hKc _ yD
          clear Rr Lr Mr Vr b1 bD
          go_wp2_with fail
          try rw [hW1]
          try rw [hq]
          clear x0 x1
          go_region_held3 (fun w' => w'.cell? ⟨q, 1, none⟩ = some (.int .i64 (fl : Nat)))
            (first | exact k0 | exact k1 | exact k2 | exact k3)
            (first
              | (go_at_call 202; refine (jat_succ JD (by omega) (by omega) t hp (by omega)).mono ?_; rintro e w9 ⟨rfl, b9⟩; have R9 := RD.below b9; have L9 := LD.below b9; have M9 := MD.turns (Below.turns b9 (fun _ => False)) id; have V9 := VD.below b9; have y9 := (b9.block q (heap_lt yD)).trans yD; have k1 := hKc _ y9)
              | (go_at_call 167; refine (wkread_ok R9.D R9.wk hwG ho (atN st sz place (t + 1)) (atN_lt (by omega) h2)).mono ?_; rintro e wA ⟨gA, rfl, lA, bA, kA, dA, tA⟩; have RA := R9.read kA dA tA; have LA := L9.turns tA (fun b hb r => hlX b (hlF b hb) r); have MA := M9.turns tA (fun r => hlX bN hbw r); have VA := V9.turns tA (fun p hp r => hlX p.2 (hlv p hp) r); have yA := (tA.block q (heap_lt y9) (hlX q hwq)).trans y9; have k2 := hKc _ yA)
              | (go_at_call 241; refine (shown_any gA _ fl _ bA hBt.1 hBt.2 hfl).mono ?_; rintro e wB ⟨gB, rfl, lB, bB, qB⟩; have hwA := RA.tr.size; have RB := RA.below qB; have LB := LA.below qB; have MB := MA.turns (Below.turns qB (fun _ => False)) id; have VB := VA.below qB; have yB := (qB.block q (heap_lt yA)).trans yA; have k3 := hKc _ yB))
          clear RD LD MD VD JD R9 L9 M9 V9 y9 RA LA MA VA yA yD kA dA tA bA b9 k0 k1 k2 k3
          have z0 : wB.cell? ⟨q, 0, none⟩ = some (.int .i64 (b : Nat)) := by simp [World.cell?, yB]
          have HSH : Hid (nxOk S st sz place ls (t + 1) = shOk (rdB S (atN st sz place (t + 1))) fl) := by
            show nxOk S st sz place ls (t + 1) = _
            have e := HOK.out
            unfold nxOk at e ⊢
            rw [List.range_succ, List.all_append, e]
            simp only [List.all_cons, List.all_nil, Bool.true_and, Bool.and_true]
            rw [HD.out]
          cases hsh : shOk (rdB S (atN st sz place (t + 1))) fl with
          | false =>
            have HZ : Hid (nextL S k st sz seq place free = []) := by
              show nextL S k st sz seq place free = []
              rw [HNX.out, if_neg (fun q => ?_)]
              have h5 := q.2.2.2.2
              unfold nxOk at h5
              have h6 := List.all_eq_true.1 h5 t (List.mem_range.2 htl)
              rw [HD.out] at h6
              simp only [hsh] at h6
              cases h6
            go_wp2
            go_ret
            exact ⟨RB, Or.inl ⟨HZ.out, rfl⟩⟩
          | true =>
            obtain ⟨wC, hrunC, hownC, htrC⟩ := MB.own.store (val := .slice (some ⟨gB, 0, none⟩) 512 512) law3 Tryz.underlying96 (by unfold maxLen; omega) (int_key b (by omega)) (d := .held (hv gB)) (ps := []) rfl
            have tC : Turns (fun i => i = bN) wB wC := Turns.grown htrC.grown (fun x hx => (Option.some.inj hx).symm)
            have hbG : ¬ (G bN ∨ bN = wb) := hlX bN hbw
            have MC : Mp wC bN (t + 1) (mN ++ [(b, gB)]) := by
              rw [← mput_last mN b gB HLT.out]
              exact ⟨by rw [← mD_put MB.ris b gB (hownC.canon law3)]; exact hownC, mput_rising b gB MB.ris⟩
            have RC : Rg w wC G wb d S k N := ⟨RB.wk.turns tC (fun e => hbG (Or.inr e.symm)), RB.D.turns tC (fun i hi e => hbG (Or.inl (e ▸ hi))), ?tr⟩
            case tr => exact (RB.tr).trans tC (fun i hi e => by omega)
            have LC := LB.turns tC (fun x hx e => by
              rcases LB.row.2 with ⟨hv, _⟩ | ⟨g', cap', cur, hv, _, hh, _⟩
              · rw [hv] at hx; cases hx
              · rw [hv] at hx
                cases hx
                exact mp_no_cells MB hh e)
            have nb : ∀ (x : Nat) (l : List Int), wB.heap[x]? = some (bl l) → x ≠ bN := fun x l hx => mp_no_cells MB hx
            have hgw : w.heap.size ≤ gB := Nat.le_trans (by have := hwA; exact this) lB
            have VC : Vals wC (fun x => if x = b then nxB S st sz place ls t else f x) (mN ++ [(b, gB)]) := fun p hp => by
              rcases List.mem_append.1 hp with hp | hp
              · have hne : ¬ p.1 = b := by have := HLT.out p hp; omega
                simp only [if_neg hne]
                exact ⟨(tC.block p.2 (heap_lt (VB p hp).1) (nb _ _ (VB p hp).1)).trans (VB p hp).1, (VB p hp).2⟩
              · simp at hp
                subst hp
                simp only [if_pos]
                have e : nxB S st sz place ls t = shB (rdB S (atN st sz place (t + 1))) fl := by unfold nxB; rw [HD.out]
                rw [e]
                exact ⟨(tC.block gB (heap_lt bB) (nb _ _ bB)).trans bB, shB_ok hBt.1 hBt.2 fl⟩
            have hk9 : (mN ++ [(b, gB)]).map (·.1) = (ls.take (t + 1)).map (·.1) := by
              rw [List.map_append, hkeys, List.take_succ_eq_append_getElem htl, List.map_append, hpe]
              rfl
            have hf9 : ∀ i, i < t + 1 → (if (ls.getD i (0, 0)).1 = b then nxB S st sz place ls t else f (ls.getD i (0, 0)).1) = nxB S st sz place ls i := fun i hi => by
              by_cases e : i = t
              · subst e
                rw [HD.out]
                simp
              · have h3 := hrise i (by omega)
                rw [if_neg (by omega)]
                exact hfv i (by omega)
            have HO9 : Hid (nxOk S st sz place ls (t + 1) = true) := HSH.out.trans hsh
            have hlv9 : ∀ p ∈ mN ++ [(b, gB)], w.heap.size ≤ p.2 := fun p hp => by
              rcases List.mem_append.1 hp with hp | hp
              · exact hlv p hp
              · simp at hp
                subst hp
                exact hgw
            have HI : Hid (NxI w wC G wb d S k N st sz place (.slice (some ⟨g, 0, none⟩) ln lc) ls bN (t + 1)) := ⟨mN ++ [(b, gB)], _, RC, LC, MC, hk9, VC, hlv9, hf9, HO9⟩
            clear htrC hownC tC MB RB LB VB bB RC LC MC hk9 VC hlv9 hf9 HO9 nb
            go_wp2_with fail
            refine ⟨?_, by simp [intOf]; omega⟩
            repeat apply Exists.intro
            refine And.intro ?rel ?eqs
            case eqs => and_intros <;> exact rfl
            case rel => exact ⟨t + 1, by omega, by go_num, HI.out⟩
        · have hti : ¬ (t : Int) < ln := by omega
          obtain rfl : t = ln := by omega
          have HZ : Hid (nextL S k st sz seq place free = ls) := by
            show nextL S k st sz seq place free = ls
            rw [HNX.out, if_pos ⟨fun e => hz (by rw [Hln.out, e]; rfl), by rw [← Hln.out]; omega, HMB.out, by rw [← Hln.out]; exact hic, by rw [← Hln.out]; exact HOK.out⟩]
          have htk : ls.take t = ls := List.take_of_length_le (by rw [← Hln.out]; exact Nat.le_refl _)
          rw [htk] at hkeys
          have hml : mN.length = t := by
            have := congrArg List.length hkeys
            rw [List.length_map, List.length_map, ← Hln.out] at this
            exact this
          go_wp2
          go_ret
          refine ⟨Rr, Or.inr ⟨bN, mN, f, ?_, rfl, ?_⟩⟩
          · rw [HZ.out]
            exact fun e => hz (by rw [Hln.out, e]; rfl)
          · rw [HZ.out]
            exact ⟨hbw, by rw [hml]; exact Mr, hkeys, Vr, hlv, fun i hi => hfv i (by rw [Hln.out]; exact hi)⟩
end Go.Proofs.YtlcjkbhcbiggcaaGreatDoor

/- Commit by its contract, where there is room and nothing fails. -/
namespace Go.Proofs.YtlcjkbhcbiggcaaGreatDoor
open Go.RowKit Go.Maps
set_option maxRecDepth 100000

/-- An open transaction: its device, its journal, its own block, its maps and what their blocks hold; whose each block is. -/
structure Tx (w : World) (d : Nat) (S : DevS) (k N : Nat) (G : Nat → Prop) (jb st sz : Nat) (seq : Int) (place : Nat) (free : Int) (bm nd : Nat) (a : List (Nat × Nat)) (fa : Nat → List Int) (tb wm ns : Nat) (m : List (Nat × Nat)) (f : Nat → List Int) (sv : Value) (last : Int) : Prop where
  D : Dev w d 0 S k N G
  J : Jb w jb d st sz seq place free bm (some tb)
  T : Tb w tb jb wm sv last
  A : Mp w bm nd a
  VA : Vals w fa a
  M : Mp w wm ns m
  V : Vals w f m
  gj : ¬ G jb
  gt : ¬ G tb
  ga : ¬ G bm
  gm : ¬ G wm
  gv : ∀ p ∈ m, ¬ G p.2
  gva : ∀ p ∈ a, ¬ G p.2
  tj : tb ≠ jb
  tm : tb ≠ wm
  ta : tb ≠ bm
  jm : jb ≠ wm
  ja : jb ≠ bm
  am : bm ≠ wm
/-- A journal with no open transaction. -/
structure Jn (w : World) (d : Nat) (S : DevS) (k N : Nat) (G : Nat → Prop) (jb st sz : Nat) (seq : Int) (place : Nat) (free : Int) (bm nd : Nat) (a : List (Nat × Nat)) (fa : Nat → List Int) : Prop where
  D : Dev w d 0 S k N G
  J : Jb w jb d st sz seq place free bm none
  A : Mp w bm nd a
  VA : Vals w fa a
  gj : ¬ G jb
  ga : ¬ G bm
  gva : ∀ p ∈ a, ¬ G p.2
  ja : jb ≠ bm
/-- What is away once a transaction is in. -/
def mergeF (m : List (Nat × Nat)) (f fa : Nat → List Int) : Nat → List Int := fun b => if (lk m b).isSome then f b else fa b
theorem mmerge_mem : ∀ (m a : List (Nat × Nat)) (p : Nat × Nat), p ∈ mmerge a m → p ∈ m ∨ p ∈ a
  | [], a, p, h => Or.inr h
  | q :: m, a, p, h => by
    rcases mmerge_mem m (mput a q.1 q.2) p h with h | h
    · exact Or.inl (List.mem_cons_of_mem _ h)
    · rcases mput_mem h with h | h
      · exact Or.inl (by rw [h]; exact List.mem_cons_self)
      · exact Or.inr h
theorem Mp.un {w : World} {bm n : Nat} {m : List (Nat × Nat)} (h : Mp w bm n m) {p : Nat × Nat} (hp : p ∈ m) : lk m p.1 = some p.2 := lk_mem h.ris hp
theorem Vals.merge {w : World} {a m : List (Nat × Nat)} {f fa : Nat → List Int} (ha : Rising a) (hm : Rising m) (hV : Vals w f m) (hVA : Vals w fa a) : Vals w (mergeF m f fa) (mmerge a m) := fun p hp => by
  have h1 := lk_mem (merge_rising ha m) hp
  rw [lk_merge m a p.1 ha hm] at h1
  unfold mergeF
  cases e : lk m p.1 with
  | some g =>
    rw [e] at h1
    simp at h1
    subst h1
    simpa using hV p (mem_lk e)
  | none =>
    rw [e] at h1
    simp at h1
    simpa using hVA p (mem_lk h1)
theorem Td.keep {F : Nat → Prop} {w w' : World} {tb : Nat} (h : Td w tb) (t : Turns F w w') (hF : ¬ F tb) : Td w' tb := (t.block tb (heap_lt h) hF).trans h
set_option maxHeartbeats 2000000 in
theorem txCommit_ok {w : World} {d : Nat} {S : DevS} {k N : Nat} {G : Nat → Prop} {jb st sz : Nat} {seq : Int} {place : Nat} {free : Int} {bm nd : Nat} {a : List (Nat × Nat)} {fa : Nat → List Int} {tb wm ns : Nat} {m : List (Nat × Nat)} {f : Nat → List Int} {sv : Value} {last : Int} (h : Tx w d S k N G jb st sz seq place free bm nd a fa tb wm ns m f sv last) (hl1 : 1 ≤ m.length) (hl : m.length ≤ 24) (ha : Low a) (hm : Low m) (hf : (m.length : Int) + 2 ≤ free) (hf2 : free ≤ 10000)
    (h1 : 27 ≤ sz) (h2 : st + sz ≤ k) (hk : k ≤ 4096) (hS : Lasts S (m.length + 4)) (hN : N ≤ 1000000000) (hp : place ≤ 4096) (hs : 0 ≤ seq ∧ seq ≤ 4611686018427387904) (hnd : nd ≤ 100000) :
    Calls Tryz.prog 90 #[.pointer (some ⟨tb, 0, none⟩)] w fun e w' => e = .returned (.int .i64 0) ∧ Td w' tb ∧ Turns (fun i => G i ∨ i = bm ∨ i = jb ∨ i = tb) w w' ∧ ∃ G', Jn w' d (comS S st sz place seq f m) k (N + m.length + 2) G' jb st sz (seq + 1) ((place + m.length + 2) % (sz - 1)) (free - (m.length + 2)) bm (nd + m.length) (mmerge a m) (mergeF m f fa) ∧ ∀ i, G' i → G i ∨ w.heap.size ≤ i := by
  have t0 := h.T.cells.c0
  have t1 := h.T.cells.c1
  go_enter Tryz.func90, Tryz.ntmps90
  go_wp2_with fail
  go_quiet (fail)
  go_wp2_with fail
  refine (close_ok (w := w.drewN _) h.T h.J h.tj).mono ?_
  rintro e w1 ⟨rfl, T1, J1, u1⟩
  have u1 : Turns (fun i => i = tb ∨ i = jb) w w1 := (Turns.drewN _ w _).trans u1 (fun _ _ h => h)
  have nv : ∀ (g : Nat) (l : List Int), w.heap[g]? = some (bl l) → ¬ (g = tb ∨ g = jb) := fun g l hg e => by
    rcases e with rfl | rfl
    · have := h.T; unfold Tb at this; rw [hg] at this; simp [bl] at this
    · have := h.J; unfold Jb at this; rw [hg] at this; simp [bl] at this
  have D1 := h.D.turns u1 (fun i hi h' => h'.elim (fun e => h.gt (e ▸ hi)) (fun e => h.gj (e ▸ hi)))
  have M1 := h.M.turns u1 (fun h' => h'.elim (fun e => h.tm e.symm) (fun e => h.jm e.symm))
  have A1 := h.A.turns u1 (fun h' => h'.elim (fun e => h.ta e.symm) (fun e => h.ja e.symm))
  have V1 := h.V.turns u1 (fun p hp => nv p.2 _ (h.V p hp).1)
  have VA1 := h.VA.turns u1 (fun p hp => nv p.2 _ (h.VA p hp).1)
  clear t0 t1 nv
  go_wp2_with fail
  refine (power_ok D1 J1 hS.on).mono ?_
  rintro e w2 ⟨rfl, q2⟩
  have M2 := M1.turns q2.2 h.gm
  have A2 := A1.turns q2.2 h.ga
  have V2 := V1.turns q2.2 h.gv
  have VA2 := VA1.turns q2.2 h.gva
  have T2 : Td w2 tb := T1.keep q2.2 h.gt
  have J2 : Jb w2 jb d st sz seq place free bm none := (q2.2.block jb (heap_lt J1) h.gj).trans J1
  have hsz : (Maps.size (mD m) : Int) = (m.length : Int) := by simp [mD, Maps.size_eq]
  have hln : ∀ (ty : TypeId), (Builtin.len_ #[96] ty #[.map (some wm)]).run Tryz.prog w2 = .ok (.int .i64 m.length) w2 := fun ty => by
    have := M2.own.len Tryz.underlying96 ty
    rwa [hsz] at this
  have tt : Turns (fun i => G i ∨ i = bm ∨ i = jb ∨ i = tb) w w2 := (u1.mono (fun _ _ h => Or.inr (Or.inr h.symm))).trans q2.2 (fun _ _ h => Or.inl h)
  have D2 := q2.1
  have hG2 := D2.lt
  have c3 := J2.cells.c3
  have c0 := J2.cells.c0
  have hm0 : ¬ (m.length : Int) = 0 := by omega
  have hs2 : ¬ (4611686018427387904 : Int) < seq := by omega
  clear D1 M1 T1 J1 u1 q2 hsz A1 V1 VA1
  go_wp2_with fail
  refine (begun_any D2).mono ?_
  rintro e w3 ⟨ev, rfl, hev, k3, q3⟩
  have he : begE S = 0 := by unfold begE; rw [if_neg (by simp [hS.on])]
  rw [he] at hev
  obtain ⟨_, rfl⟩ := hev.resolve_right (fun h => h.1 rfl)
  have g3 := Wg.start hG2 k3 q3
  obtain ⟨wb, hwb⟩ : ∃ wb, w2.heap.size = wb := ⟨_, rfl⟩
  have lj := heap_lt J2
  have lt := heap_lt T2
  have la := A2.own.lt
  have lm := M2.own.lt
  have t3 := q3.2
  have J3 : Jb w3 jb d st sz seq place free bm none := (t3.block jb lj h.gj).trans J2
  have A3 := A2.turns t3 h.ga
  have M3 := M2.turns t3 h.gm
  have V3 := V2.turns t3 h.gv
  have VA3 := VA2.turns t3 h.gva
  have C3 : Cm w2 w3 G (fun i => i = wb ∨ (i < wb ∧ ¬ G i)) wb d S k N jb st sz seq place free bm none nd a wm ns m f fa := by
    obtain ⟨G', D', hG', hX'⟩ := g3.dv
    rw [hwb] at g3
    refine ⟨⟨g3.wk, ⟨G, q3.1, fun _ hi => Or.inl hi, fun i hi r => hi.elim (fun e => by have := hG2 i r; omega) (fun e => e.2 r)⟩, fun i hi => by have := t3.size; have := heap_lt g3.wk; rcases hi with rfl | hi <;> omega, Or.inl rfl, g3.tr, g3.nw⟩, J3, A3, M3, V3, VA3, ⟨Or.inr ⟨by omega, h.gj⟩, by omega⟩, ⟨Or.inr ⟨by omega, h.ga⟩, by omega⟩, ⟨Or.inr ⟨by omega, h.gm⟩, by omega⟩, fun p hp => ?_, fun p hp => ?_⟩
    · have := heap_lt (V2 p hp).1
      exact ⟨Or.inr ⟨by omega, h.gv p hp⟩, by omega⟩
    · have := heap_lt (VA2 p hp).1
      exact ⟨Or.inr ⟨by omega, h.gva p hp⟩, by omega⟩
  clear c3 c0 hln g3 k3 q3 J3 A3 M3 V3 VA3
  try rw [hwb]
  go_wp2_with fail
  refine (jcommit_ok C3 hl1 hl ha hm hf hf2 h1 h2 hk hS hN hp (by omega) hnd h.am h.ja h.jm).mono ?_
  rintro e w4 ⟨rfl, C4⟩
  go_wp2_with fail
  refine (met_ok C4.wk).mono ?_
  rintro e w5 ⟨rfl, b5⟩
  have t4 := C4.tr
  obtain ⟨G4, D4, hG4, hX4⟩ := C4.dv
  have b5t := Below.turns b5 (fun _ => False)
  go_wp2
  go_ret
  have nT : ¬ (G tb ∨ tb = wb ∨ tb = bm ∨ tb = jb) := fun r => by
    rcases r with r | r | r | r
    · exact h.gt r
    · omega
    · exact h.ta r
    · exact h.tj r
  have T4 : Td w4 tb := T2.keep t4 nT
  refine ⟨rfl, T4.keep b5t id, ?_, G4, ⟨D4.turns b5t (fun _ _ => id), (b5.block jb (heap_lt C4.J)).trans C4.J, C4.A.turns b5t id, (Vals.merge h.A.ris h.M.ris C4.V C4.VA).below b5, hX4 jb (Or.inr ⟨by omega, h.gj⟩), hX4 bm (Or.inr ⟨by omega, h.ga⟩), fun p hp => ?_, h.ja⟩, fun i hi => ?_⟩
  · refine (tt.trans t4 (fun i hi r => ?_)).trans b5t (fun _ _ => False.elim)
    have := tt.size
    rcases r with r | r | r | r
    · exact Or.inl r
    · omega
    · exact Or.inr (Or.inl r)
    · exact Or.inr (Or.inr (Or.inl r))
  · rcases mmerge_mem m a p hp with hp | hp
    · have := heap_lt (V2 p hp).1
      exact hX4 p.2 (Or.inr ⟨by omega, h.gv p hp⟩)
    · have := heap_lt (VA2 p hp).1
      exact hX4 p.2 (Or.inr ⟨by omega, h.gva p hp⟩)
  · have := tt.size
    exact (hG4 i hi).imp id (fun r => by omega)
end Go.Proofs.YtlcjkbhcbiggcaaGreatDoor

/- The transactions that stand in a log; what they lay over the blocks. -/
namespace Go.Proofs.YtlcjkbhcbiggcaaGreatDoor
open Go.RowKit Go.Maps
set_option maxRecDepth 100000

/-- A transaction: its blocks, and what they hold. -/
abbrev TxL := List (Nat × List Int)
def txAt (x : TxL) (b : Nat) : Option (List Int) := (x.find? (fun p => p.1 == b)).map (·.2)
/-- What transactions, one behind the other, give a block. -/
def ovl (T : List TxL) (b : Nat) : Option (List Int) := T.foldl (fun o x => (txAt x b).or o) none
theorem ovl_nil (b : Nat) : ovl [] b = none := rfl
theorem ovl_snoc (T : List TxL) (x : TxL) (b : Nat) : ovl (T ++ [x]) b = (txAt x b).or (ovl T b) := by simp [ovl, List.foldl_append]
/-- The transaction of those lines at that place of a log. -/
def txOf (S : DevS) (st sz place : Nat) (ls : List (Nat × Nat)) : TxL := (List.range ls.length).map fun i => ((ls.getD i (0, 0)).1, nxB S st sz place ls i)
/-- The transactions that stand in a log from a place on. -/
inductive LogT (S : DevS) (k st sz : Nat) : Int → Nat → Int → List TxL → Prop
  | nil {seq : Int} {place : Nat} {free : Int} : nextL S k st sz seq place free = [] → LogT S k st sz seq place free []
  | cons {seq : Int} {place : Nat} {free : Int} {ls : List (Nat × Nat)} {T : List TxL} : nextL S k st sz seq place free = ls → ls ≠ [] → LogT S k st sz (seq + 1) ((place + ls.length + 2) % (sz - 1)) (free - (ls.length + 2)) T → LogT S k st sz seq place free (txOf S st sz place ls :: T)
theorem nextL_room {S : DevS} {k st sz : Nat} {seq : Int} {place : Nat} {free : Int} (h : nextL S k st sz seq place free ≠ []) : ((nextL S k st sz seq place free).length : Int) + 2 ≤ free ∧ mayB k st sz (nextL S k st sz seq place free) = true ∧ 0 < (nextL S k st sz seq place free).length := by
  unfold nextL at h ⊢
  simp only at h ⊢
  split at h
  · rename_i hc
    rw [if_pos hc]
    exact ⟨hc.2.1, hc.2.2.1, by cases e : linesR (rdB S (atN st sz place 0)) seq with | nil => exact absurd e hc.1 | cons => simp⟩
  · exact absurd rfl h
theorem nextL_24 {S : DevS} {k st sz : Nat} {seq : Int} {place : Nat} {free : Int} (hy : ∀ x ∈ rdB S (atN st sz place 0), 0 ≤ x ∧ x ≤ 255) : (nextL S k st sz seq place free).length ≤ 24 := by
  unfold nextL
  simp only
  split
  · exact linesR_len _ _ hy
  · simp
/-- A map holds just what those transactions give. -/
def Cont (a : List (Nat × Nat)) (fa : Nat → List Int) (T : List TxL) : Prop := ∀ b, (lk a b).map (fun _ => fa b) = ovl T b
theorem lk_keys {m : List (Nat × Nat)} {b : Nat} : (lk m b).isSome = true ↔ b ∈ m.map (·.1) := by
  induction m with
  | nil => simp [lk]
  | cons p m ih =>
    rw [lk_cons]
    by_cases e : p.1 = b
    · simp [e]
    · simp only [if_neg e, ih, List.map_cons, List.mem_cons]
      exact ⟨Or.inr, fun h => h.resolve_left (fun q => e q.symm)⟩
theorem NextS.at {w w' : World} {S : DevS} {st sz place : Nat} {ls : List (Nat × Nat)} {bN : Nat} {mN : List (Nat × Nat)} {f : Nat → List Int} (h : NextS w w' S st sz place ls bN mN f) (b : Nat) : (lk mN b).map (fun _ => f b) = txAt (txOf S st sz place ls) b := by
  have hk := h.keys
  unfold txAt
  cases e : (txOf S st sz place ls).find? (fun p => p.1 == b) with
  | some p =>
    have h1 := List.find?_some e
    have h2 := List.mem_of_find?_eq_some e
    unfold txOf at h2
    obtain ⟨i, hi, rfl⟩ := List.mem_map.1 h2
    rw [List.mem_range] at hi
    simp only [beq_iff_eq] at h1
    have h3 : b ∈ mN.map (·.1) := by
      rw [hk, ← h1]
      have : ls.getD i (0, 0) = ls[i] := by simp [List.getD, hi]
      rw [this]
      exact List.mem_map.2 ⟨ls[i], List.getElem_mem hi, rfl⟩
    have h4 := lk_keys.2 h3
    obtain ⟨g, hg⟩ := Option.isSome_iff_exists.1 h4
    rw [hg]
    simp only [Option.map_some]
    rw [← h1, h.fv i hi]
  | none =>
    have h3 : ¬ b ∈ mN.map (·.1) := fun q => by
      rw [hk] at q
      obtain ⟨r, hr, hre⟩ := List.mem_map.1 q
      obtain ⟨i, hi, hie⟩ := List.getElem_of_mem hr
      have := List.find?_eq_none.1 e ((ls.getD i (0, 0)).1, nxB S st sz place ls i) (List.mem_map.2 ⟨i, List.mem_range.2 hi, rfl⟩)
      have e2 : ls.getD i (0, 0) = ls[i] := by simp [List.getD, hi]
      rw [e2, hie] at this
      simp [hre] at this
    have h4 : lk mN b = none := by
      cases q : lk mN b with
      | none => rfl
      | some g => exact absurd (lk_keys.1 (by rw [q]; rfl)) h3
    rw [h4]
    rfl
theorem Cont.merge {a m : List (Nat × Nat)} {f fa : Nat → List Int} {T : List TxL} {x : TxL} (h : Cont a fa T) (ha : Rising a) (hm : Rising m) (hx : ∀ b, (lk m b).map (fun _ => f b) = txAt x b) : Cont (mmerge a m) (mergeF m f fa) (T ++ [x]) := fun b => by
  rw [ovl_snoc, ← hx b, ← h b, lk_merge m a b ha hm]
  unfold mergeF
  cases e : lk m b with
  | some g => simp
  | none => simp
theorem NextS.low {w w' : World} {S : DevS} {k st sz place : Nat} {ls : List (Nat × Nat)} {bN : Nat} {mN : List (Nat × Nat)} {f : Nat → List Int} (h : NextS w w' S st sz place ls bN mN f) (hm : mayB k st sz ls = true) (hk : k ≤ 4096) : Low mN := fun p hp => by
  have h1 : p.1 ∈ ls.map (·.1) := by rw [← h.keys]; exact List.mem_map.2 ⟨p, hp, rfl⟩
  obtain ⟨r, hr, hre⟩ := List.mem_map.1 h1
  obtain ⟨i, hi, hie⟩ := List.getElem_of_mem hr
  have := (mayB_at hm hi).1.1
  rw [hie, hre] at this
  omega
theorem NextS.len {w w' : World} {S : DevS} {st sz place : Nat} {ls : List (Nat × Nat)} {bN : Nat} {mN : List (Nat × Nat)} {f : Nat → List Int} (h : NextS w w' S st sz place ls bN mN f) : mN.length = ls.length := by
  have := congrArg List.length h.keys
  simpa using this
theorem sorted_at {l : List Nat} (h : l.Pairwise (· < ·)) : ∀ i (hi : i < l.length), i ≤ l[i]
  | 0, _ => Nat.zero_le _
  | i + 1, hi => by
    have h1 := sorted_at h i (by omega)
    have h2 := List.pairwise_iff_getElem.1 h i (i + 1) (by omega) hi (by omega)
    omega
theorem low_len {a : List (Nat × Nat)} (hr : Rising a) (hl : Low a) : a.length ≤ 4096 := by
  by_cases e : a.length = 0
  · omega
  · have hs : (a.map (·.1)).Pairwise (· < ·) := by rw [List.pairwise_map]; exact hr
    have hi : a.length - 1 < (a.map (·.1)).length := by rw [List.length_map]; omega
    have h1 := sorted_at hs (a.length - 1) hi
    have h2 := hl (a[a.length - 1]'(by omega)) (List.getElem_mem _)
    rw [List.getElem_map] at h1
    omega
/-- The place behind transactions. -/
def plEnd (sz place : Nat) (T : List TxL) : Nat := T.foldl (fun p x => (p + x.length + 2) % (sz - 1)) place
theorem plEnd_snoc (sz place : Nat) (T : List TxL) (x : TxL) : plEnd sz place (T ++ [x]) = (plEnd sz place T + x.length + 2) % (sz - 1) := by simp [plEnd, List.foldl_append]
theorem txOf_len (S : DevS) (st sz place : Nat) (ls : List (Nat × Nat)) : (txOf S st sz place ls).length = ls.length := by simp [txOf]
/-- Its blocks are outside, and hold blocks of bytes. -/
def OutA (k st sz : Nat) (a : List (Nat × Nat)) : Prop := ∀ p ∈ a, p.1 < k ∧ (p.1 < st ∨ st + sz ≤ p.1)
theorem NextS.out {w w' : World} {S : DevS} {k st sz place : Nat} {ls : List (Nat × Nat)} {bN : Nat} {mN : List (Nat × Nat)} {f : Nat → List Int} (h : NextS w w' S st sz place ls bN mN f) (hm : mayB k st sz ls = true) : OutA k st sz mN := fun p hp => by
  have h1 : p.1 ∈ ls.map (·.1) := by rw [← h.keys]; exact List.mem_map.2 ⟨p, hp, rfl⟩
  obtain ⟨r, hr, hre⟩ := List.mem_map.1 h1
  obtain ⟨i, hi, hie⟩ := List.getElem_of_mem hr
  have := (mayB_at hm hi).1
  rw [hie, hre] at this
  exact this
theorem OutA.merge {k st sz : Nat} {a m : List (Nat × Nat)} (h1 : OutA k st sz a) (h2 : OutA k st sz m) : OutA k st sz (mmerge a m) := fun p hp => (mmerge_mem m a p hp).elim (h2 p) (h1 p)
theorem OutA.low {k st sz : Nat} {a : List (Nat × Nat)} (h : OutA k st sz a) (hk : k ≤ 4096) : Low a := fun p hp => by have := (h p hp).1; omega
theorem merge_pos {a m : List (Nat × Nat)} (ha : Rising a) (hm : Rising m) (h : 0 < m.length) : 0 < (mmerge a m).length := by
  have h1 := lk_merge m a (m[0]'h).1 ha hm
  rw [lk_mem hm (List.getElem_mem h)] at h1
  cases e : mmerge a m with
  | nil => rw [e] at h1; simp [lk] at h1
  | cons => simp
/-- What takeUp's loop holds. -/
def TkI (w wr : World) (G : Nat → Prop) (wb d : Nat) (S : DevS) (k N jb st sz : Nat) (seq : Int) (place bm : Nat) (op : Option Nat) (T : List TxL) (t : Nat) : Prop := ∃ (fr : Int) (done rest : List TxL) (nd : Nat) (a : List (Nat × Nat)) (fa : Nat → List Int), T = done ++ rest ∧ done.length = t ∧ LogT S k st sz (seq + t) (plEnd sz place done) fr rest ∧ plEnd sz place done ≤ 4096 ∧ 0 ≤ fr ∧ (nd : Int) + fr ≤ sz ∧ Jb wr jb d st sz (seq + t) (plEnd sz place done) fr bm op ∧ Mp wr bm nd a ∧ Vals wr fa a ∧ OutA k st sz a ∧ Cont a fa done ∧ (∀ p ∈ a, w.heap.size ≤ p.2) ∧ (0 < t → 0 < a.length) ∧ (t = 0 → a = [] ∧ fr = (sz : Int) - 1 ∧ nd = 0) ∧ Wk wr wb d .nilIface ∧ Dev wr d 0 S k N G ∧ Turns (fun i => G i ∨ i = wb ∨ i = jb ∨ i = bm) w wr
/-- What takeUp leaves. -/
structure TkR (w0 w' : World) (F : Nat → Prop) (wb d : Nat) (S : DevS) (k N jb st sz : Nat) (seq : Int) (place : Nat) (op : Option Nat) (T : List TxL) : Prop where
  ex : ∃ (bm' : Nat) (p : Int × DevS) (N' : Nat), w0.heap.size ≤ bm' ∧ N' ≤ N + 4097 ∧ Cj w0 w' (fun i => F i ∨ i = jb) (fun i => i = wb ∨ i = jb ∨ i = bm') wb d p.1 p.2 k N' jb st sz (seq + T.length) (plEnd sz place T) ((sz : Int) - 1) bm' op 0 [] (fun _ => []) ∧ ((T = [] ∧ p = (0, S)) ∨ ∃ a fa, 0 < a.length ∧ Rising a ∧ OutA k st sz a ∧ Cont a fa T ∧ (∀ q ∈ a, (fa q.1).length = 512 ∧ ∀ x ∈ fa q.1, 0 ≤ x ∧ x ≤ 255) ∧ p = ckP k (0, S) fa a st (seq + T.length) (plEnd sz place T))
end Go.Proofs.YtlcjkbhcbiggcaaGreatDoor

/- takeUp by its contract. -/
namespace Go.Proofs.YtlcjkbhcbiggcaaGreatDoor
open Go.RowKit Go.Maps
set_option maxRecDepth 100000

set_option maxHeartbeats 4000000 in
theorem takeUp_any {w0 w : World} {F X : Nat → Prop} {wb d : Nat} {S : DevS} {k N : Nat} {er : Nat → Addr} (h0 : Wg w0 w F X wb d S k N) {jb st sz : Nat} {seq : Int} {place bm : Nat} {op : Option Nat} {T : List TxL} (hJ : Jb w jb d st sz seq place ((sz : Int) - 1) bm op) (hM : Mp w bm 0 []) (hXj : X jb) (hXm : X bm) (hjw : jb ≠ wb) (hbw : bm ≠ wb) (hjb : jb ≠ bm) (hj0 : w0.heap.size ≤ jb) (hb0 : w0.heap.size ≤ bm) (h1 : 27 ≤ sz ∧ sz ≤ 4096) (h2 : st + sz ≤ k) (hk : k ≤ 4096) (hp : place ≤ 4096) (ho : S.off = false) (hEF : ∀ w', Turns (fun i => F i ∨ i = wb) w0 w' → Errs w' er) (hgB : ∀ b, b < k → (rdB S b).length = 512 ∧ ∀ x ∈ rdB S b, 0 ≤ x ∧ x ≤ 255) (hT : LogT S k st sz seq place ((sz : Int) - 1) T) (hs : 0 ≤ seq ∧ seq + T.length ≤ 4611686018427387904) (hN : N ≤ 900000000) :
    Calls Tryz.prog 135 #[.pointer (some ⟨jb, 0, none⟩), .pointer (some ⟨wb, 0, none⟩)] w fun e w' => e = .returned (.int .i64 T.length) ∧ TkR w0 w' F wb d S k N jb st sz seq place op T := by
  obtain ⟨G, hD, hGF, hX⟩ := h0.dv
  have hjG := hX jb hXj
  have hbG := hX bm hXm
  have hwG := hX wb h0.xw
  have hTo : ∀ w', Turns (fun i => G i ∨ i = wb ∨ i = jb ∨ i = bm) w w' → Turns (fun i => F i ∨ i = wb) w0 w' := fun w' t => h0.tr.trans t (fun i hi r => by
    rcases r with r | r | r | r
    · exact (hGF i r).elim Or.inl (fun r => by omega)
    · exact Or.inr r
    · omega
    · omega)
  have HI : Hid (TkI w w G wb d S k N jb st sz seq place bm op T 0) := ⟨(sz : Int) - 1, [], T, 0, [], fun _ => [], rfl, rfl, by rw [show seq + ((0 : Nat) : Int) = seq by omega]; exact hT, hp, by omega, by omega, by rw [show seq + ((0 : Nat) : Int) = seq by omega]; exact hJ, hM, (fun p hp => by cases hp), (fun p hp => by cases hp), fun b => rfl, (fun p hp => by cases hp), (fun q => by omega), fun _ => ⟨rfl, rfl, rfl⟩, h0.wk, hD, Turns.refl _ _⟩
  have hln0 : ∀ (w : World) (ty : TypeId), (Builtin.len_ #[96] ty #[.map none]).run Tryz.prog w = .ok (.int .i64 0) w := fun w ty => Maps.len_nil Tryz.underlying96 ty
  go_enter Tryz.func135, Tryz.ntmps135
  go_wp2_with fail
  go_loopw [5] (fun v wr => ∃ t : Nat, v = .int .i64 t ∧ t ≤ T.length ∧ TkI w wr G wb d S k N jb st sz seq place bm op T t) (fun v _ => T.length - (intOf v).toNat)
  case atStart => exact ⟨0, rfl, Nat.zero_le _, HI.out⟩
  case round =>
    clear HI
    obtain ⟨t, rfl, htT, fr, done, rest, nd, a, fa, hTe, hdl, hLg, hpl, hfr0, hndf, J, A, VA, Oa, Ca, hlv, hpos, hzero, wk, D, tr⟩ := hrel
    have c3 := J.cells.c3
    have hseq' : seq + (t : Int) ≤ 4611686018427387904 := by omega
    obtain ⟨pl, hple⟩ : ∃ pl, plEnd sz place done = pl := ⟨_, rfl⟩
    rw [hple] at J hLg hpl
    have HPL : Hid (plEnd sz place done = pl) := hple
    clear hple
    have Rr : Rg wr wr G wb d S k N := ⟨wk, D, Turns.refl _ _⟩
    have hErr : ∀ w', Turns (fun i => G i ∨ i = wb) wr w' → Errs w' er := fun w' t' => hEF w' (hTo w' (tr.trans (t'.mono (fun i _ r => r.elim Or.inl (fun r => Or.inr (Or.inl r)))) (fun _ _ r => r)))
    go_wp2_with fail
    refine (next_any Rr J hjG hjw hwG h1 h2 hk hpl ho hErr hgB).mono ?_
    rintro e w1 ⟨R1, hR⟩
    have tr1 : Turns (fun i => G i ∨ i = wb ∨ i = jb ∨ i = bm) w w1 := tr.trans (R1.tr.mono (fun i _ r => r.elim Or.inl (fun r => Or.inr (Or.inl r)))) (fun _ _ r => r)
    have J1 := R1.jb J hjG hjw
    have A1 := A.turns R1.tr (fun r => r.elim hbG hbw)
    have hvn : ∀ p ∈ a, ¬ (G p.2 ∨ p.2 = wb) := fun p hp r => by
      have := hlv p hp
      rcases r with r | r
      · have := hD.lt _ r; omega
      · have := h0.xl wb h0.xw; omega
    have VA1 := VA.turns R1.tr hvn
    rcases hR with ⟨hnil, rfl⟩ | ⟨bN, mN, f, hne, rfl, NS⟩
    · have hre : rest = [] := by
        cases hLg with
        | nil _ => rfl
        | cons e1 e2 _ => exact absurd (e1.symm.trans hnil) e2
      subst hre
      rw [List.append_nil] at hTe
      subst hTe
      clear c3 tr J A VA wk D Rr hErr
      have HCJ : Hid (∀ X' : Nat → Prop, (∀ i, X' i → i < w1.heap.size ∧ ¬ G i) → X' wb → X' jb → X' bm → (∀ p ∈ a, X' p.2) → Cj w0 w1 F X' wb d 0 S k N jb st sz (seq + t) pl fr bm op nd a fa) := fun X' hX' x1 x2 x3 x4 => ⟨⟨⟨.nilIface, Or.inl ⟨rfl, rfl⟩, R1.wk⟩, ⟨G, R1.D, hGF, fun i hi => (hX' i hi).2⟩, fun i hi => (hX' i hi).1, x1, hTo w1 tr1, h0.nw⟩, J1, A1, VA1, ⟨x2, hjw⟩, ⟨x3, hbw⟩, fun p hp => ⟨x4 p hp, fun e => hvn p hp (Or.inr e)⟩⟩
      have lw1 := heap_lt R1.wk
      have lj1 := heap_lt J1
      have lb1 := A1.own.lt
      by_cases ht0 : t = 0
      · obtain ⟨rfl, rfl, rfl⟩ := hzero ht0
        subst ht0
        have HC : Hid (TkR w0 w1 F wb d S k N jb st sz seq place op T) := by
          have hC := HCJ.out (fun i => i = wb ∨ i = jb ∨ i = bm) (fun i hi => by
            rcases hi with rfl | rfl | rfl
            · exact ⟨lw1, hwG⟩
            · exact ⟨lj1, hjG⟩
            · exact ⟨lb1, hbG⟩) (Or.inl rfl) (Or.inr (Or.inl rfl)) (Or.inr (Or.inr rfl)) (fun p hp => by cases hp)
          have hd0 : T = [] := List.eq_nil_of_length_eq_zero hdl
          subst hd0
          have hXN : ∀ i, (i = wb ∨ i = jb ∨ i = bm) → ¬ G i := fun i hi => by
            rcases hi with rfl | rfl | rfl
            · exact hwG
            · exact hjG
            · exact hbG
          refine ⟨bm, (0, S), N, hb0, by omega, ?_, Or.inl ⟨rfl, rfl⟩⟩
          rw [← HPL.out] at hC
          exact ⟨⟨hC.g.wk, ⟨G, R1.D, fun i hi => (hGF i hi).imp Or.inl id, hXN⟩, hC.g.xl, hC.g.xw, hC.g.tr.mono (fun i _ r => r.imp Or.inl id), hC.g.nw⟩, hC.J, hC.A, (fun p hp => by cases hp), hC.xj, hC.xa, (fun p hp => by cases hp)⟩
        go_wp2_with fail
        refine (checkpoint_none J1 A1).mono ?_
        rintro e wn ⟨rfl, hwn⟩
        subst wn
        go_wp2
        go_ret
        exact ⟨by rw [hdl]; rfl, HC.out⟩
      · have hap := hpos (by omega)
        have hCk := HCJ.out (fun i => i = wb ∨ i = jb ∨ i = bm ∨ ∃ p ∈ a, p.2 = i) (fun i hi => by
          rcases hi with rfl | rfl | rfl | ⟨p, hp, rfl⟩
          · exact ⟨lw1, hwG⟩
          · exact ⟨lj1, hjG⟩
          · exact ⟨lb1, hbG⟩
          · exact ⟨heap_lt (VA1 p hp).1, fun r => hvn p hp (Or.inl r)⟩) (Or.inl rfl) (Or.inr (Or.inl rfl)) (Or.inr (Or.inr (Or.inl rfl))) (fun p hp => Or.inr (Or.inr (Or.inr ⟨p, hp, rfl⟩)))
        have hla := low_len A1.ris (Oa.low hk)
        go_wp2_with fail
        refine (checkpoint_any hCk hap (Oa.low hk) hla (by omega) (by omega)).mono ?_
        rintro e w2 ⟨rfl, bm', lbm, CK, _⟩
        have HC : Hid (TkR w0 w2 F wb d S k N jb st sz seq place op T) := by
          have hs1 := tr1.size
          have hs0 := h0.tr.size
          have hC := CK.less (Y := fun i => i = wb ∨ i = jb ∨ i = bm') (fun i hi => by
            rcases hi with e | e | e
            · exact Or.inl (Or.inl e)
            · exact Or.inl (Or.inr (Or.inl e))
            · exact Or.inr e) (Or.inl rfl) (Or.inr (Or.inl rfl)) (Or.inr (Or.inr rfl)) (fun p hp => by cases hp)
          refine ⟨bm', ckP k (0, S) fa a st (seq + t) pl, N + a.length + 1, by omega, by omega, ?_, Or.inr ⟨a, fa, hap, A1.ris, Oa, Ca, fun q hq => (VA1 q hq).2, by rw [hdl, HPL.out]⟩⟩
          rw [hdl, HPL.out]
          exact hC
        clear CK hCk
        go_wp2
        go_ret
        exact ⟨by rw [hdl]; rfl, HC.out⟩
    · obtain ⟨hroom, hmay, hlen0⟩ := nextL_room hne
      have hml := NS.len
      have hm24 := nextL_24 (k := k) (seq := seq + t) (free := fr) (hgB (atN st sz pl 0) (atN_lt (by omega) h2)).2
      obtain ⟨ls, hls⟩ : ∃ ls, nextL S k st sz (seq + t) pl fr = ls := ⟨_, rfl⟩
      rw [hls] at hroom hmay hlen0 hml NS hne hm24
      obtain ⟨rest', hre, hL'⟩ : ∃ rest', rest = txOf S st sz pl ls :: rest' ∧ LogT S k st sz (seq + t + 1) ((pl + ls.length + 2) % (sz - 1)) (fr - (ls.length + 2)) rest' := by
        cases hLg with
        | nil e1 => exact absurd (hls.symm.trans e1) hne
        | cons e1 e2 e3 =>
          rename_i ls' T'
          obtain rfl : ls' = ls := e1.symm.trans hls
          exact ⟨T', rfl, e3⟩
      have lj1 := heap_lt J1
      have lb1 := A1.own.lt
      have ljr := heap_lt J
      have lbr := A.own.lt
      have lNb := NS.lb
      have Lm := NS.low hmay hk
      have La := Oa.low hk
      have hln : ∀ (ty : TypeId), (Builtin.len_ #[96] ty #[.map (some bN)]).run Tryz.prog w1 = .ok (.int .i64 mN.length) w1 := fun ty => by
        have := NS.M.own.len Tryz.underlying96 ty
        rwa [show (Maps.size (mD mN) : Int) = (mN.length : Int) by simp [mD, Maps.size_eq]] at this
      have hm0 : ¬ (mN.length : Int) = 0 := by omega
      have hfrs : fr ≤ sz := by omega
      have HX : Hid (∀ w2, Jb w2 jb d st sz (seq + t + 1) ((pl + mN.length + 2) % (sz - 1) : Nat) (fr - (mN.length + 2)) bm op → Mp w2 bm (nd + mN.length) (mmerge a mN) → Turns (fun i => i = bm ∨ i = jb) w1 w2 → t + 1 ≤ T.length ∧ TkI w w2 G wb d S k N jb st sz seq place bm op T (t + 1)) := fun w2 J2 A2 t2 => by
        have hTl : t + 1 ≤ T.length := by rw [hTe, List.length_append, hdl, hre]; simp
        have nb : ∀ (x : Nat) (l : List Int), w1.heap[x]? = some (bl l) → ¬ (x = bm ∨ x = jb) := fun x l hx r => by
          rcases r with r | r
          · exact mp_no_cells A1 hx r
          · rw [r] at hx; unfold Jb at J1; rw [J1] at hx; simp [bl] at hx
        have e1 : seq + ((t + 1 : Nat) : Int) = seq + t + 1 := by omega
        have hple' : plEnd sz place (done ++ [txOf S st sz pl ls]) = (pl + ls.length + 2) % (sz - 1) := by rw [plEnd_snoc, HPL.out, txOf_len]
        have hmod := Nat.mod_lt (pl + ls.length + 2) (show 0 < sz - 1 by omega)
        refine ⟨hTl, fr - (ls.length + 2), done ++ [txOf S st sz pl ls], rest', nd + mN.length, mmerge a mN, mergeF mN f fa, by rw [hTe, hre]; simp, by simp [hdl], ?_, by rw [hple']; omega, by omega, by omega, ?_, A2, Vals.merge A1.ris NS.M.ris (NS.V.turns t2 (fun p hp => nb _ _ (NS.V p hp).1)) (VA1.turns t2 (fun p hp => nb _ _ (VA1 p hp).1)), Oa.merge (NS.out hmay), Ca.merge A1.ris NS.M.ris (NS.at), fun p hp => ?_, fun _ => merge_pos A1.ris NS.M.ris (by omega), fun q => by omega, R1.wk.turns t2 (fun r => r.elim (fun r => hbw r.symm) (fun r => hjw r.symm)), R1.D.turns t2 (fun i hi r => r.elim (fun r => hbG (r ▸ hi)) (fun r => hjG (r ▸ hi))), tr1.trans t2 (fun i _ r => r.elim (fun r => Or.inr (Or.inr (Or.inr r))) (fun r => Or.inr (Or.inr (Or.inl r))))⟩
        · rw [hple', e1]; exact hL'
        · rw [hple', e1, ← hml]; exact J2
        · exact (mmerge_mem mN a p hp).elim (fun q => Nat.le_trans tr.size (NS.lv p q)) (hlv p)
      have hpass := pass_ok J1 A1 NS.M (by omega) La Lm (by omega) hjb (by omega) (by omega) hpl (by omega) (by omega) (by omega)
      clear c3 J A VA wk D Rr hErr hL' NS
      go_wp2_with fail
      refine hpass.mono ?_
      rintro e w2 ⟨rfl, J2, A2, _, t2⟩
      obtain ⟨hT9, HI9⟩ := HX.out w2 J2 A2 t2
      have HI9' : Hid (TkI w w2 G wb d S k N jb st sz seq place bm op T (t + 1)) := HI9
      clear HX hpass HI9 J2 A2 t2 J1 A1 VA1
      go_wp2_with fail
      go_roundw
      case rel => exact ⟨t + 1, by go_num, hT9, HI9'.out⟩
      case measure => simp [intOf]; omega
end Go.Proofs.YtlcjkbhcbiggcaaGreatDoor

/- A checkpoint where nothing fails. -/
namespace Go.Proofs.YtlcjkbhcbiggcaaGreatDoor
open Go.RowKit Go.Maps
set_option maxRecDepth 100000

/-- The first i blocks that are away are written home. -/
def homeS (S : DevS) (fa : Nat → List Int) (a : List (Nat × Nat)) : Nat → DevS
  | 0 => S
  | i + 1 => wrote (burnt (homeS S fa a i)) ((a.map (·.1)).getD i 0) (fa ((a.map (·.1)).getD i 0))
/-- What a device holds behind a checkpoint. -/
def ckS (S : DevS) (fa : Nat → List Int) (a : List (Nat × Nat)) (st : Nat) (seq : Int) (place : Nat) : DevS := flushed (burnt (wrote (burnt (flushed (burnt (homeS S fa a a.length)))) st (jheadB seq place)))
theorem homeS_lasts {S : DevS} {fa : Nat → List Int} {a : List (Nat × Nat)} : ∀ (i n : Nat), Lasts S (i + n) → Lasts (homeS S fa a i) n
  | 0, n, h => by rw [Nat.zero_add] at h; exact h
  | i + 1, n, h => ((homeS_lasts i (n + 1) (by rw [show i + (n + 1) = i + 1 + n by omega]; exact h)).burnt).wrote _ _
theorem homeP_ok {S : DevS} {k : Nat} {fa : Nat → List Int} {a : List (Nat × Nat)} (hk : ∀ p ∈ a, p.1 < k) (hf : ∀ p ∈ a, (fa p.1).length = 512) : ∀ (i n : Nat), i ≤ a.length → Lasts S (i + n) → homeP k (0, S) fa a i = (0, homeS S fa a i)
  | 0, _, _, _ => rfl
  | i + 1, n, hi, h => by
    have hl : Lasts (homeS S fa a i) (n + 1) := homeS_lasts i (n + 1) (by rw [show i + (n + 1) = i + 1 + n by omega]; exact h)
    have e : (a.map (·.1)).getD i 0 = (a[i]'(by omega)).1 := by simp [show i < a.length by omega]
    have hm := List.getElem_mem (show i < a.length by omega)
    show pW k (homeP k (0, S) fa a i) _ _ = _
    rw [homeP_ok hk hf i (n + 1) (by omega) (by rw [show i + (n + 1) = i + 1 + n by omega]; exact h)]
    show (wkE 0 (homeS S fa a i) k _ 512, wkS 0 (homeS S fa a i) k _ _) = (0, wrote (burnt (homeS S fa a i)) _ _)
    rw [e, wkE_ok hl (hk _ hm), wkS_ok hl (hk _ hm) (hf _ hm)]
theorem pW_ok {S : DevS} {k b n : Nat} {bs : List Int} (h : Lasts S (n + 1)) (hb : b < k) (hl : bs.length = 512) : pW k (0, S) b bs = (0, wrote (burnt S) b bs) := by
  show (wkE 0 S k b 512, wkS 0 S k b bs) = _
  rw [wkE_ok h hb, wkS_ok h hb hl]
theorem pF_ok {S : DevS} {n : Nat} (h : Lasts S (n + 1)) : pF (0, S) = (0, flushed (burnt S)) := by
  show (fkE 0 S, fkS 0 S) = _
  rw [fkE_ok h, fkS_ok h]
theorem ckP_ok {S : DevS} {k : Nat} {fa : Nat → List Int} {a : List (Nat × Nat)} {st : Nat} {seq : Int} {place : Nat} (hk : ∀ p ∈ a, p.1 < k) (hf : ∀ p ∈ a, (fa p.1).length = 512) (hs : st < k) (h : Lasts S (a.length + 3)) : ckP k (0, S) fa a st seq place = (0, ckS S fa a st seq place) := by
  have h3 : Lasts (homeS S fa a a.length) 3 := homeS_lasts a.length 3 h
  have h2 : Lasts (flushed (burnt (homeS S fa a a.length))) 2 := h3.burnt.flushed
  have h1 : Lasts (wrote (burnt (flushed (burnt (homeS S fa a a.length)))) st (jheadB seq place)) 1 := h2.burnt.wrote _ _
  unfold ckP
  rw [homeP_ok hk hf a.length 3 (Nat.le_refl _) h, pF_ok h3, pW_ok h2 hs (jheadB_len seq place), pF_ok h1]
  rfl
end Go.Proofs.YtlcjkbhcbiggcaaGreatDoor
