/- Whether the blocks of a descriptor may be: mayBe by its contract. -/
import Derived.Test.YtnmdnglbpkpfdaaGreatDoorPk13
import Derived.Test.YtnmdnglbpkpfdaaGreatDoorPk09
import Derived.Test.YtnmdnglbpkpfdaaGreatDoorPk10
namespace Go.Proofs.YtnmdnglbpkpfdaaGreatDoor
open Go.RowKit Go.Maps
set_option maxRecDepth 100000
/-- The line t is right: its block is outside, and above the one ahead of it. -/
def mayT (k st sz : Nat) (ls : List (Nat × Nat)) (t : Nat) : Bool := outB k st sz ((ls.getD t (0, 0)).1 : Nat) && (decide (t = 0) || decide ((ls.getD (t - 1) (0, 0)).1 < (ls.getD t (0, 0)).1))
def mayB (k st sz : Nat) (ls : List (Nat × Nat)) : Bool := (List.range ls.length).all (mayT k st sz ls)
end Go.Proofs.YtnmdnglbpkpfdaaGreatDoor

/- What a call holds while it reads of the device; the transaction that stands at a place of the log. -/
namespace Go.Proofs.YtnmdnglbpkpfdaaGreatDoor
open Go.RowKit Go.Maps
set_option maxRecDepth 100000
/-- A call reads: its work has met no error; only the device's own blocks and the work's have turned since w. -/
structure Rg (w wr : World) (G : Nat → Prop) (wb d : Nat) (S : DevS) (k N : Nat) : Prop where
  wk : Wk wr wb d .nilIface
  D : Dev wr d 0 S k N G
  tr : Turns (fun i => G i ∨ i = wb) w wr
section
variable {w w1 w2 : World} {G : Nat → Prop} {wb d : Nat} {S : DevS} {k N : Nat}
theorem Rg.below (h : Rg w w1 G wb d S k N) (b : Below w1.heap.size w1 w2) : Rg w w2 G wb d S k N := ⟨h.wk.turns (Below.turns b (fun _ => False)) id, h.D.below b, h.tr.trans (Below.turns b (fun _ => False)) (fun _ _ r => r.elim)⟩
theorem Rg.read (h : Rg w w1 G wb d S k N) (k1 : Wk w2 wb d .nilIface) (d1 : Dev w2 d 0 S k N G) (t1 : Turns (fun i => G i ∨ i = wb) w1 w2) : Rg w w2 G wb d S k N := ⟨k1, d1, h.tr.trans t1 (fun _ _ r => r)⟩
theorem Rg.same (h : Rg w w1 G wb d S k N) (hw : ¬ G wb) (q : Same0 w1 w2 d S k N G) : Rg w w2 G wb d S k N := ⟨h.wk.turns q.2 hw, q.1, h.tr.trans q.2 (fun _ _ r => Or.inl r)⟩
theorem Rg.jb (h : Rg w w1 G wb d S k N) {jb st sz : Nat} {seq free : Int} {place bm : Nat} {op : Option Nat} (hJ : Jb w jb d st sz seq place free bm op) (h1 : ¬ G jb) (h2 : jb ≠ wb) : Jb w1 jb d st sz seq place free bm op := (h.tr.block jb (heap_lt hJ) (fun r => r.elim h1 h2)).trans hJ
end
/-- The block of a place. -/
def atN (st sz place i : Nat) : Nat := st + 1 + (place + i) % (sz - 1)
/-- The block of line i as it was; may all up to n look so? -/
def nxB (S : DevS) (st sz place : Nat) (ls : List (Nat × Nat)) (i : Nat) : List Int := shB (rdB S (atN st sz place (i + 1))) (ls.getD i (0, 0)).2
def nxOk (S : DevS) (st sz place : Nat) (ls : List (Nat × Nat)) (n : Nat) : Bool := (List.range n).all fun i => shOk (rdB S (atN st sz place (i + 1))) (ls.getD i (0, 0)).2
/-- The lines of the transaction that stands there; none, if there is none that is right and whole. -/
def nextL (S : DevS) (k st sz : Nat) (seq : Int) (place : Nat) (free : Int) : List (Nat × Nat) :=
  let ls := linesR (rdB S (atN st sz place 0)) seq
  if ls ≠ [] ∧ (ls.length : Int) + 2 ≤ free ∧ mayB k st sz ls = true ∧ isCom (rdB S (atN st sz place (ls.length + 1))) seq = true ∧ nxOk S st sz place ls ls.length = true then ls else []
theorem mayB_at {k st sz : Nat} {ls : List (Nat × Nat)} (h : mayB k st sz ls = true) {i : Nat} (hi : i < ls.length) : (ls[i].1 < k ∧ (ls[i].1 < st ∨ st + sz ≤ ls[i].1)) ∧ ∀ j, j < i → (ls.getD j (0, 0)).1 < ls[i].1 := by
  have hall : ∀ t, t < ls.length → mayT k st sz ls t = true := fun t ht => List.all_eq_true.1 h t (List.mem_range.2 ht)
  have hout : ∀ t (ht : t < ls.length), outB k st sz (ls[t].1 : Nat) = true ∧ (t = 0 ∨ (ls.getD (t - 1) (0, 0)).1 < ls[t].1) := fun t ht => by
    have := hall t ht
    unfold mayT at this
    have e : ls.getD t (0, 0) = ls[t] := by simp [List.getD, ht]
    rw [e] at this
    simp only [Bool.and_eq_true, Bool.or_eq_true, decide_eq_true_eq] at this
    exact this
  refine ⟨?_, ?_⟩
  · have := (hout i hi).1
    unfold outB at this
    simp at this
    omega
  · induction i with
    | zero => intro j hj; omega
    | succ i ih =>
      intro j hj
      have h1 := (hout (i + 1) hi).2.resolve_left (by omega)
      rw [Nat.add_sub_cancel] at h1
      by_cases e : j = i
      · subst e; exact h1
      · have h2 := ih (by omega) j (by omega)
        have e2 : ls.getD i (0, 0) = ls[i] := by simp [List.getD, show i < ls.length by omega]
        rw [e2] at h1
        omega
/-- What next answers: nothing, where nothing stands; else a new map of the transaction's blocks. -/
structure NextS (w w' : World) (S : DevS) (st sz place : Nat) (ls : List (Nat × Nat)) (bN : Nat) (mN : List (Nat × Nat)) (f : Nat → List Int) : Prop where
  lb : w.heap.size ≤ bN
  M : Mp w' bN mN.length mN
  keys : mN.map (·.1) = ls.map (·.1)
  V : Vals w' f mN
  lv : ∀ p ∈ mN, w.heap.size ≤ p.2
  fv : ∀ i, i < ls.length → f (ls.getD i (0, 0)).1 = nxB S st sz place ls i
end Go.Proofs.YtnmdnglbpkpfdaaGreatDoor

/- What a call holds while it works on the device, whatever it meets. -/
namespace Go.Proofs.YtnmdnglbpkpfdaaGreatDoor
open Go.RowKit Go.Maps
set_option maxRecDepth 100000
/-- As Wg, with the error that the work has met. -/
structure Wn (w0 w : World) (F X : Nat → Prop) (wb d : Nat) (e : Int) (S : DevS) (k N : Nat) : Prop where
  wk : ∃ ev, ErrV ev e ∧ Wk w wb d ev
  dv : ∃ G, Dev w d 0 S k N G ∧ (∀ i, G i → F i ∨ w0.heap.size ≤ i) ∧ ∀ i, X i → ¬ G i
  xl : ∀ i, X i → i < w.heap.size
  xw : X wb
  tr : Turns (fun i => F i ∨ i = wb) w0 w
  nw : w0.heap.size ≤ wb
section
variable {w0 w w' : World} {F X G Y : Nat → Prop} {wb d : Nat} {e e' : Int} {S S' : DevS} {k N N' : Nat}
theorem Wg.any (h : Wg w0 w F X wb d S k N) : Wn w0 w F X wb d 0 S k N := ⟨⟨.nilIface, Or.inl ⟨rfl, rfl⟩, h.wk⟩, h.dv, h.xl, h.xw, h.tr, h.nw⟩
theorem Wn.calm (h : Wn w0 w F X wb d 0 S k N) : Wg w0 w F X wb d S k N := by
  obtain ⟨⟨ev, hE, hk⟩, h2, h3, h4, h5, h6⟩ := h
  obtain ⟨_, rfl⟩ := hE.resolve_right (fun h => h.1 rfl)
  exact ⟨hk, h2, h3, h4, h5, h6⟩
theorem Did.tr (q : Did w w' wb d e S k N G) : Turns (fun i => G i ∨ i = wb) w w' := by
  obtain ⟨_, _, _, _, t⟩ := q
  exact t
theorem Wn.did (h : Wn w0 w F X wb d e S k N) (hG : ∀ i, G i → F i ∨ w0.heap.size ≤ i) (hX : ∀ i, X i → ¬ G i) (q : Did w w' wb d e' S' k N' G) : Wn w0 w' F X wb d e' S' k N' ∧ Turns (fun i => G i ∨ i = wb) w w' := by
  obtain ⟨ev, hE, hk, hd, t⟩ := q
  exact ⟨⟨⟨ev, hE, hk⟩, ⟨grow G w w', hd, fun i hi => hi.elim (hG i) (fun r => Or.inr (Nat.le_trans h.tr.size r.1)), fun i hi r => hX i hi (grow_old i (h.xl i hi) r)⟩, fun i hi => Nat.lt_of_lt_of_le (h.xl i hi) t.size, h.xw, h.tr.trans t (fun i hi r => r.elim (fun r => (hG i r).elim Or.inl (fun r => by omega)) Or.inr), h.nw⟩, t⟩
theorem Wn.below (h : Wn w0 w F X wb d e S k N) (b : Below w.heap.size w w') : Wn w0 w' F X wb d e S k N := by
  obtain ⟨G, D, h1, h2⟩ := h.dv
  obtain ⟨ev, hE, hk⟩ := h.wk
  exact ⟨⟨ev, hE, hk.turns (Below.turns b (fun _ => False)) id⟩, ⟨G, D.below b, h1, h2⟩, fun i hi => Nat.lt_of_lt_of_le (h.xl i hi) b.size, h.xw, h.tr.trans (Below.turns b (fun _ => False)) (fun _ _ r => r.elim), h.nw⟩
theorem Wn.add (h : Wn w0 w F X wb d e S k N) (b : Below w.heap.size w w') : Wn w0 w' F (fun i => X i ∨ (w.heap.size ≤ i ∧ i < w'.heap.size)) wb d e S k N := by
  obtain ⟨G, D, h1, h2⟩ := h.dv
  have h' := h.below b
  exact { h' with
    dv := ⟨G, D.below b, h1, fun i hi r => hi.elim (fun hi => h2 i hi r) (fun hi => by have := D.lt i r; omega)⟩
    xl := fun i hi => hi.elim (h'.xl i) (fun hi => hi.2)
    xw := Or.inl h.xw }
theorem Wn.less (h : Wn w0 w F X wb d e S k N) (hY : ∀ i, Y i → X i) (hw : Y wb) : Wn w0 w F Y wb d e S k N := by
  obtain ⟨G, D, h1, h2⟩ := h.dv
  exact { h with dv := ⟨G, D, h1, fun i hi => h2 i (hY i hi)⟩, xl := fun i hi => h.xl i (hY i hi), xw := hw }
end
/-- A journal, and what is not home, while a call works. -/
structure Cj (w0 w : World) (F X : Nat → Prop) (wb d : Nat) (e : Int) (S : DevS) (k N : Nat) (jb st sz : Nat) (seq : Int) (place : Nat) (free : Int) (bm : Nat) (op : Option Nat) (nd : Nat) (a : List (Nat × Nat)) (fa : Nat → List Int) : Prop where
  g : Wn w0 w F X wb d e S k N
  J : Jb w jb d st sz seq place free bm op
  A : Mp w bm nd a
  VA : Vals w fa a
  xj : X jb ∧ jb ≠ wb
  xa : X bm ∧ bm ≠ wb
  xva : ∀ p ∈ a, X p.2 ∧ p.2 ≠ wb
section
variable {w0 w w' : World} {F X G Y : Nat → Prop} {wb d : Nat} {e e' : Int} {S S' : DevS} {k N N' : Nat} {jb st sz : Nat} {seq : Int} {place : Nat} {free : Int} {bm : Nat} {op : Option Nat} {nd : Nat} {a : List (Nat × Nat)} {fa : Nat → List Int}
theorem Cj.turn (h : Cj w0 w F X wb d e S k N jb st sz seq place free bm op nd a fa) (t : Turns Y w w') (hY : ∀ i, X i → i ≠ wb → ¬ Y i) (g' : Wn w0 w' F X wb d e' S' k N') : Cj w0 w' F X wb d e' S' k N' jb st sz seq place free bm op nd a fa :=
  ⟨g', (t.block jb (heap_lt h.J) (hY jb h.xj.1 h.xj.2)).trans h.J, h.A.turns t (hY bm h.xa.1 h.xa.2), h.VA.turns t (fun p hp => hY p.2 (h.xva p hp).1 (h.xva p hp).2), h.xj, h.xa, h.xva⟩
theorem Cj.below (h : Cj w0 w F X wb d e S k N jb st sz seq place free bm op nd a fa) (b : Below w.heap.size w w') : Cj w0 w' F X wb d e S k N jb st sz seq place free bm op nd a fa :=
  h.turn (Below.turns b (fun _ => False)) (fun _ _ _ q => q) (h.g.below b)
theorem Cj.add (h : Cj w0 w F X wb d e S k N jb st sz seq place free bm op nd a fa) (b : Below w.heap.size w w') : Cj w0 w' F (fun i => X i ∨ (w.heap.size ≤ i ∧ i < w'.heap.size)) wb d e S k N jb st sz seq place free bm op nd a fa := by
  have h' := h.below b
  exact ⟨h.g.add b, h'.J, h'.A, h'.VA, ⟨Or.inl h.xj.1, h.xj.2⟩, ⟨Or.inl h.xa.1, h.xa.2⟩, fun p hp => ⟨Or.inl (h.xva p hp).1, (h.xva p hp).2⟩⟩
theorem Cj.less (h : Cj w0 w F X wb d e S k N jb st sz seq place free bm op nd a fa) (hY : ∀ i, Y i → X i) (hw : Y wb) (hj : Y jb) (ha : Y bm) (hva : ∀ p ∈ a, Y p.2) : Cj w0 w F Y wb d e S k N jb st sz seq place free bm op nd a fa :=
  ⟨h.g.less hY hw, h.J, h.A, h.VA, ⟨hj, h.xj.2⟩, ⟨ha, h.xa.2⟩, fun p hp => ⟨hva p hp, (h.xva p hp).2⟩⟩
theorem Cj.did (h : Cj w0 w F X wb d e S k N jb st sz seq place free bm op nd a fa) (hG : ∀ i, G i → F i ∨ w0.heap.size ≤ i) (hX : ∀ i, X i → ¬ G i) (q : Did w w' wb d e' S' k N' G) : Cj w0 w' F X wb d e' S' k N' jb st sz seq place free bm op nd a fa := by
  obtain ⟨g', t⟩ := h.g.did hG hX q
  exact h.turn t (fun i hi hw r => r.elim (hX i hi) hw) g'
end
/-- Blocks of X, the work's own and the journal's own aside, are as they were. -/
abbrev Save (X : Nat → Prop) (wb jb : Nat) (w w' : World) : Prop := Turns (fun i => X i → i = wb ∨ i = jb) w w'
end Go.Proofs.YtnmdnglbpkpfdaaGreatDoor

/- The transactions that stand in a log; what they lay over the blocks. -/
namespace Go.Proofs.YtnmdnglbpkpfdaaGreatDoor
open Go.RowKit Go.Maps
set_option maxRecDepth 100000
/-- A transaction: its blocks, and what they hold. -/
abbrev TxL := List (Nat × List Int)
def txAt (x : TxL) (b : Nat) : Option (List Int) := (x.find? (fun p => p.1 == b)).map (·.2)
/-- What transactions, one behind the other, give a block. -/
def ovl (T : List TxL) (b : Nat) : Option (List Int) := T.foldl (fun o x => (txAt x b).or o) none
theorem ovl_snoc (T : List TxL) (x : TxL) (b : Nat) : ovl (T ++ [x]) b = (txAt x b).or (ovl T b) := by simp [ovl, List.foldl_append]
/-- The transaction of those lines at that place of a log. -/
def txOf (S : DevS) (st sz place : Nat) (ls : List (Nat × Nat)) : TxL := (List.range ls.length).map fun i => ((ls.getD i (0, 0)).1, nxB S st sz place ls i)
/-- The transactions that stand in a log from a place on. -/
inductive LogT (S : DevS) (k st sz : Nat) : Int → Nat → Int → List TxL → Prop
  | nil {seq : Int} {place : Nat} {free : Int} : nextL S k st sz seq place free = [] → LogT S k st sz seq place free []
  | cons {seq : Int} {place : Nat} {free : Int} {ls : List (Nat × Nat)} {T : List TxL} : nextL S k st sz seq place free = ls → ls ≠ [] → LogT S k st sz (seq + 1) ((place + ls.length + 2) % (sz - 1)) (free - (ls.length + 2)) T → LogT S k st sz seq place free (txOf S st sz place ls :: T)
/-- A map holds just what those transactions give. -/
def Cont (a : List (Nat × Nat)) (fa : Nat → List Int) (T : List TxL) : Prop := ∀ b, (lk a b).map (fun _ => fa b) = ovl T b
theorem lk_keys {m : List (Nat × Nat)} {b : Nat} : (lk m b).isSome = true ↔ b ∈ m.map (·.1) := by
  induction m with
  | nil => simp [lk]
  | cons p m ih =>
    rw [lk_cons]
    by_cases e : p.1 = b
    · simp [e]
    · simp only [if_neg e, ih, List.map_cons, List.mem_cons]
      exact ⟨Or.inr, fun h => h.resolve_left (fun q => e q.symm)⟩
theorem NextS.at {w w' : World} {S : DevS} {st sz place : Nat} {ls : List (Nat × Nat)} {bN : Nat} {mN : List (Nat × Nat)} {f : Nat → List Int} (h : NextS w w' S st sz place ls bN mN f) (b : Nat) : (lk mN b).map (fun _ => f b) = txAt (txOf S st sz place ls) b := by
  have hk := h.keys
  unfold txAt
  cases e : (txOf S st sz place ls).find? (fun p => p.1 == b) with
  | some p =>
    have h1 := List.find?_some e
    have h2 := List.mem_of_find?_eq_some e
    unfold txOf at h2
    obtain ⟨i, hi, rfl⟩ := List.mem_map.1 h2
    rw [List.mem_range] at hi
    simp only [beq_iff_eq] at h1
    have h3 : b ∈ mN.map (·.1) := by
      rw [hk, ← h1]
      have : ls.getD i (0, 0) = ls[i] := by simp [List.getD, hi]
      rw [this]
      exact List.mem_map.2 ⟨ls[i], List.getElem_mem hi, rfl⟩
    have h4 := lk_keys.2 h3
    obtain ⟨g, hg⟩ := Option.isSome_iff_exists.1 h4
    rw [hg]
    simp only [Option.map_some]
    rw [← h1, h.fv i hi]
  | none =>
    have h3 : ¬ b ∈ mN.map (·.1) := fun q => by
      rw [hk] at q
      obtain ⟨r, hr, hre⟩ := List.mem_map.1 q
      obtain ⟨i, hi, hie⟩ := List.getElem_of_mem hr
      have := List.find?_eq_none.1 e ((ls.getD i (0, 0)).1, nxB S st sz place ls i) (List.mem_map.2 ⟨i, List.mem_range.2 hi, rfl⟩)
      have e2 : ls.getD i (0, 0) = ls[i] := by simp [List.getD, hi]
      rw [e2, hie] at this
      simp [hre] at this
    have h4 : lk mN b = none := by
      cases q : lk mN b with
      | none => rfl
      | some g => exact absurd (lk_keys.1 (by rw [q]; rfl)) h3
    rw [h4]
    rfl
theorem Cont.merge {a m : List (Nat × Nat)} {f fa : Nat → List Int} {T : List TxL} {x : TxL} (h : Cont a fa T) (ha : Rising a) (hm : Rising m) (hx : ∀ b, (lk m b).map (fun _ => f b) = txAt x b) : Cont (mmerge a m) (mergeF m f fa) (T ++ [x]) := fun b => by
  rw [ovl_snoc, ← hx b, ← h b, lk_merge m a b ha hm]
  unfold mergeF
  cases e : lk m b with
  | some g => simp
  | none => simp
theorem NextS.len {w w' : World} {S : DevS} {st sz place : Nat} {ls : List (Nat × Nat)} {bN : Nat} {mN : List (Nat × Nat)} {f : Nat → List Int} (h : NextS w w' S st sz place ls bN mN f) : mN.length = ls.length := by
  have := congrArg List.length h.keys
  simpa using this
/-- The place behind transactions. -/
def plEnd (sz place : Nat) (T : List TxL) : Nat := T.foldl (fun p x => (p + x.length + 2) % (sz - 1)) place
theorem plEnd_snoc (sz place : Nat) (T : List TxL) (x : TxL) : plEnd sz place (T ++ [x]) = (plEnd sz place T + x.length + 2) % (sz - 1) := by simp [plEnd, List.foldl_append]
/-- Its blocks are outside, and hold blocks of bytes. -/
def OutA (k st sz : Nat) (a : List (Nat × Nat)) : Prop := ∀ p ∈ a, p.1 < k ∧ (p.1 < st ∨ st + sz ≤ p.1)
theorem NextS.out {w w' : World} {S : DevS} {k st sz place : Nat} {ls : List (Nat × Nat)} {bN : Nat} {mN : List (Nat × Nat)} {f : Nat → List Int} (h : NextS w w' S st sz place ls bN mN f) (hm : mayB k st sz ls = true) : OutA k st sz mN := fun p hp => by
  have h1 : p.1 ∈ ls.map (·.1) := by rw [← h.keys]; exact List.mem_map.2 ⟨p, hp, rfl⟩
  obtain ⟨r, hr, hre⟩ := List.mem_map.1 h1
  obtain ⟨i, hi, hie⟩ := List.getElem_of_mem hr
  have := (mayB_at hm hi).1
  rw [hie, hre] at this
  exact this
theorem OutA.merge {k st sz : Nat} {a m : List (Nat × Nat)} (h1 : OutA k st sz a) (h2 : OutA k st sz m) : OutA k st sz (mmerge a m) := fun p hp => (mmerge_mem m a p hp).elim (h2 p) (h1 p)
end Go.Proofs.YtnmdnglbpkpfdaaGreatDoor

/- A checkpoint where nothing fails. -/
namespace Go.Proofs.YtnmdnglbpkpfdaaGreatDoor
open Go.RowKit Go.Maps
set_option maxRecDepth 100000
/-- The first i blocks that are away are written home. -/
def homeS (S : DevS) (fa : Nat → List Int) (a : List (Nat × Nat)) : Nat → DevS
  | 0 => S
  | i + 1 => wrote (burnt (homeS S fa a i)) ((a.map (·.1)).getD i 0) (fa ((a.map (·.1)).getD i 0))
/-- What a device holds behind a checkpoint. -/
def ckS (S : DevS) (fa : Nat → List Int) (a : List (Nat × Nat)) (st : Nat) (seq : Int) (place : Nat) : DevS := flushed (burnt (wrote (burnt (flushed (burnt (homeS S fa a a.length)))) st (jheadB seq place)))
end Go.Proofs.YtnmdnglbpkpfdaaGreatDoor

/- Plain mathematics: descriptors, commits and hidden blocks are read back. -/
namespace Go.Proofs.YtnmdnglbpkpfdaaGreatDoor
open Go.RowKit Go.Maps
set_option maxRecDepth 100000
theorem rd_be {k n : Nat} {q pre post : List Int} {x M : Int} (hq : q = pre ++ (be x k ++ post)) (h0 : 0 ≤ x) (h1 : x < 2 ^ (8 * k)) (hM : x ≤ M) (hn : pre.length + k ≤ n) : rdNum k n q pre.length 0 M = (x, pre.length + k, 0) := by
  have e : (q.drop pre.length).take k = be x k := by rw [hq, List.drop_left' rfl, List.take_left' (be_length x k)]
  unfold rdNum
  rw [if_neg (by simp), if_neg (by omega), e, val_be k x h0 h1, if_neg (by omega)]
/-- What stands in a descriptor behind its mark. -/
theorem des_cut (seq : Int) (ls : List (Nat × Nat)) (hs : 0 ≤ seq ∧ seq ≤ 4611686018427387905) (hl : ls.length ≤ 24) : ((desB seq ls).drop 4).take 508 = (be ls.length 4 ++ be seq 8) ++ (lnB ls ++ List.replicate (496 - 8 * ls.length) 0) := by
  have h : desB seq ls = [65, 78, 88, 68] ++ ((be ls.length 4 ++ be seq 8) ++ (lnB ls ++ List.replicate (496 - 8 * ls.length) 0)) := by
    unfold desB fillB desH
    rw [u64_same seq hs.1 hs.2]
    have e : ([65, 78, 88, 68] ++ be (ls.length : Nat) 4 ++ be seq 8 ++ lnB ls).length = 16 + 8 * ls.length := by simp [be_length, lnB_len]; omega
    rw [e, show 512 - (16 + 8 * ls.length) = 496 - 8 * ls.length by omega]
    simp
  have hd : (desB seq ls).drop 4 = (be ls.length 4 ++ be seq 8) ++ (lnB ls ++ List.replicate (496 - 8 * ls.length) 0) := by rw [h]; rfl
  rw [hd, List.take_of_length_le]
  simp [be_length, lnB_len]
  omega
theorem lnB_split : ∀ (ls : List (Nat × Nat)) (i : Nat) (h : i < ls.length), lnB ls = lnB (ls.take i) ++ (be ls[i].1 4 ++ (be ls[i].2 4 ++ lnB (ls.drop (i + 1))))
  | p :: ls, 0, _ => by simp [lnB]
  | p :: ls, i + 1, h => by
    have := lnB_split ls i (by simpa using h)
    simp only [lnB, List.flatMap_cons, List.take_succ_cons, List.drop_succ_cons, List.getElem_cons_succ] at *
    rw [this]
    simp
/-- A descriptor is read back. -/
theorem lines_back (seq : Int) (ls : List (Nat × Nat)) (hs : 0 ≤ seq ∧ seq ≤ 4611686018427387905) (hl : ls.length ≤ 24) (hb : ∀ p ∈ ls, p.1 < 4294967296 ∧ p.2 ≤ 2) : linesR (desB seq ls) seq = ls := by
  have hbg : begs (desB seq ls) [65, 78, 88, 68] = true := by
    unfold begs
    refine decide_eq_true ?_
    unfold desB fillB desH
    rfl
  have hc := des_cut seq ls hs hl
  obtain ⟨q, hq⟩ : ∃ q, ((desB seq ls).drop 4).take 508 = q := ⟨_, rfl⟩
  rw [hq] at hc
  have a1 : dsA q = ((ls.length : Int), 4, 0) := rd_be (pre := []) (k := 4) (post := be seq 8 ++ (lnB ls ++ List.replicate (496 - 8 * ls.length) 0)) (by rw [hc]; simp) (by omega) (Int.lt_of_le_of_lt (show ((ls.length : Nat) : Int) ≤ 24 by omega) (by decide)) (by omega) (by simp)
  have a2 : dsB q = (seq, 12, 0) := by
    unfold dsB
    rw [a1]
    exact rd_be (pre := be ls.length 4) (k := 8) (post := lnB ls ++ List.replicate (496 - 8 * ls.length) 0) (by rw [hc]; simp) hs.1 (Int.lt_of_le_of_lt hs.2 (by decide)) (by omega) (by simp [be_length])
  have step : ∀ i (h : i < ls.length), dsP q i = (12 + 8 * i, 0) → dsP q (i + 1) = (12 + 8 * (i + 1), 0) ∧ dsL q i = ls[i] := fun i h hp => by
    have hsp := lnB_split ls i h
    have hbi := hb ls[i] (List.getElem_mem h)
    have hpl : (be ls.length 4 ++ be seq 8 ++ lnB (ls.take i)).length = 12 + 8 * i := by simp [be_length, lnB_len]; omega
    have hp2 : (be ls.length 4 ++ be seq 8 ++ lnB (ls.take i) ++ be ls[i].1 4).length = 16 + 8 * i := by simp [be_length, lnB_len]; omega
    have x1 := rd_be (n := 508) (M := 4294967295) (q := q) (pre := be ls.length 4 ++ be seq 8 ++ lnB (ls.take i)) (k := 4) (x := (ls[i].1 : Nat)) (post := be ls[i].2 4 ++ lnB (ls.drop (i + 1)) ++ List.replicate (496 - 8 * ls.length) 0) (by rw [hc, hsp]; simp) (by omega) (Int.lt_of_le_of_lt (show ((ls[i].1 : Nat) : Int) ≤ 4294967295 by omega) (by decide)) (by omega) (by rw [hpl]; omega)
    have x2 := rd_be (n := 508) (M := 2) (q := q) (pre := be ls.length 4 ++ be seq 8 ++ lnB (ls.take i) ++ be ls[i].1 4) (k := 4) (x := (ls[i].2 : Nat)) (post := lnB (ls.drop (i + 1)) ++ List.replicate (496 - 8 * ls.length) 0) (by rw [hc, hsp]; simp) (by omega) (Int.lt_of_le_of_lt (show ((ls[i].2 : Nat) : Int) ≤ 2 by omega) (by decide)) (by omega) (by rw [hp2]; omega)
    rw [hpl] at x1
    rw [hp2] at x2
    have e16 : 12 + 8 * i + 4 = 16 + 8 * i := by omega
    rw [e16] at x1
    refine ⟨?_, ?_⟩
    · show ((rdNum 4 508 q (rdNum 4 508 q (dsP q i).1 (dsP q i).2 4294967295).2.1 (rdNum 4 508 q (dsP q i).1 (dsP q i).2 4294967295).2.2 2).2.1, (rdNum 4 508 q (rdNum 4 508 q (dsP q i).1 (dsP q i).2 4294967295).2.1 (rdNum 4 508 q (dsP q i).1 (dsP q i).2 4294967295).2.2 2).2.2) = _
      rw [hp, x1, x2]
      simp only [Prod.mk.injEq, and_true]
      omega
    · unfold dsL
      rw [hp, x1, x2]
      simp
  have hP : ∀ i, i ≤ ls.length → dsP q i = (12 + 8 * i, 0) := fun i => by
    induction i with
    | zero => intro _; unfold dsP; rw [a2]
    | succ i ih => intro h; exact (step i (by omega) (ih (by omega))).1
  have hn : (dsA q).1.toNat = ls.length := by rw [a1]; simp
  unfold linesR
  rw [hq, if_pos ⟨hbg, by rw [a2], by rw [hn, hP _ (Nat.le_refl _)]⟩, hn]
  refine List.ext_getElem (by simp) (fun i h1 h2 => ?_)
  rw [List.getElem_map, List.getElem_range]
  exact (step i h2 (hP i (by omega))).2
/-- A commit is read back. -/
theorem com_back (seq s : Int) (hs : 0 ≤ seq ∧ seq ≤ 4611686018427387905) : isCom (comB seq) s = decide (seq = s) := by
  have hbg : begs (comB seq) [65, 78, 88, 67] = true := by
    unfold begs
    refine decide_eq_true ?_
    unfold comB fillB
    rfl
  have hc : ((comB seq).drop 8).take 504 = be seq 8 ++ List.replicate 496 0 := by
    have h : comB seq = ([65, 78, 88, 67] ++ be 0 4) ++ (be seq 8 ++ List.replicate 496 0) := by
      unfold comB fillB
      rw [u64_same seq hs.1 hs.2]
      have e : ([65, 78, 88, 67] ++ be 0 4 ++ be seq 8).length = 16 := by simp [be_length]
      rw [e]
      simp
    rw [h, List.drop_left' (by simp [be_length]), List.take_of_length_le (by simp [be_length])]
  unfold isCom
  have x1 := rd_be (n := 504) (M := 9223372036854775807) (q := be seq 8 ++ List.replicate 496 0) (pre := []) (k := 8) (x := seq) (post := List.replicate 496 0) (by simp) hs.1 (Int.lt_of_le_of_lt hs.2 (by decide)) (by omega) (by simp)
  rw [hc, hbg]
  have x1' : rdNum 8 504 (be seq 8 ++ List.replicate 496 0) 0 0 9223372036854775807 = (seq, 8, 0) := x1
  rw [x1']
  rfl
theorem no_com {bs : List Int} (h : begs bs [65, 78, 88, 67] = false) (s : Int) : isCom bs s = false := by
  unfold isCom
  rw [h]
  rfl
theorem des_no (seq : Int) (ls : List (Nat × Nat)) (s : Int) : isCom (desB seq ls) s = false := no_com (by
  unfold begs
  refine decide_eq_false ?_
  unfold desB fillB desH
  intro h
  have : ([65, 78, 88, 68] : List Int) = [65, 78, 88, 67] := h
  simp at this) s
theorem zB_no (s : Int) : isCom zB s = false := no_com (by decide) s
theorem hid_no (bs : List Int) (s : Int) : isCom (hidB bs (flagN bs)) s = false := no_com (by
  unfold hidB flagN
  by_cases h1 : begs bs [65, 78, 88, 68] = true
  · rw [if_pos h1, if_neg (by omega)]
    unfold begs
    refine decide_eq_false ?_
    intro h
    have : ([0, 0, 0, 0] : List Int) = [65, 78, 88, 67] := h
    simp at this
  · rw [if_neg h1]
    by_cases h2 : begs bs [65, 78, 88, 67] = true
    · rw [if_pos h2, if_neg (by omega)]
      unfold begs
      refine decide_eq_false ?_
      intro h
      have : ([0, 0, 0, 0] : List Int) = [65, 78, 88, 67] := h
      simp at this
    · rw [if_neg h2, if_pos rfl]
      simpa using h2) s
/-- A hidden block is shown as it was. -/
theorem show_back (bs : List Int) : shB (hidB bs (flagN bs)) (flagN bs) = bs ∧ shOk (hidB bs (flagN bs)) (flagN bs) = true := by
  have hz : begs ([0, 0, 0, 0] ++ bs.drop 4) [0, 0, 0, 0] = true := by unfold begs; exact decide_eq_true rfl
  by_cases h1 : begs bs [65, 78, 88, 68] = true
  · have hf : flagN bs = 1 := by unfold flagN; rw [if_pos h1]
    rw [hf]
    have e : bs.take 4 = [65, 78, 88, 68] := of_decide_eq_true h1
    refine ⟨?_, hz⟩
    show [65, 78, 88, 68] ++ bs.drop 4 = bs
    rw [← e]
    simp
  · by_cases h2 : begs bs [65, 78, 88, 67] = true
    · have hf : flagN bs = 2 := by unfold flagN; rw [if_neg h1, if_pos h2]
      rw [hf]
      have e : bs.take 4 = [65, 78, 88, 67] := of_decide_eq_true h2
      refine ⟨?_, hz⟩
      show [65, 78, 88, 67] ++ bs.drop 4 = bs
      rw [← e]
      simp
    · have hf : flagN bs = 0 := by unfold flagN; rw [if_neg h1, if_neg h2]
      rw [hf]
      exact ⟨rfl, rfl⟩
end Go.Proofs.YtnmdnglbpkpfdaaGreatDoor

/- Plain mathematics: transactions laid into a log one behind the other are taken up. -/
namespace Go.Proofs.YtnmdnglbpkpfdaaGreatDoor
open Go.RowKit Go.Maps
set_option maxRecDepth 100000
/-- The lines of a transaction. -/
def lnsT (x : TxL) : List (Nat × Nat) := x.map fun p => (p.1, flagN p.2)
theorem lnsT_len (x : TxL) : (lnsT x).length = x.length := by simp [lnsT]
theorem lnsT_getD (x : TxL) (i : Nat) (h : i < x.length) : (lnsT x).getD i (0, 0) = (x[i].1, flagN x[i].2) := by simp [lnsT, List.getD, h]
/-- How a transaction stands in the log. -/
def txS (seq : Int) (x : TxL) : List (List Int) := desB seq (lnsT x) :: (x.map (fun p => hidB p.2 (flagN p.2)) ++ [comB seq])
theorem txS_len (seq : Int) (x : TxL) : (txS seq x).length = x.length + 2 := by simp [txS]
theorem txS_hid (seq : Int) (x : TxL) (i : Nat) (h : i < x.length) : (txS seq x)[i + 1]? = some (hidB x[i].2 (flagN x[i].2)) := by
  simp [txS, List.getElem?_append_left, h]
theorem txS_com (seq : Int) (x : TxL) : (txS seq x)[x.length + 1]? = some (comB seq) := by
  simp [txS]
/-- How transactions stand in the log. -/
def strm (seq : Int) : List TxL → List (List Int)
  | [] => []
  | x :: T => txS seq x ++ strm (seq + 1) T
theorem strm_snoc (T : List TxL) (x : TxL) : ∀ seq : Int, strm seq (T ++ [x]) = strm seq T ++ txS (seq + T.length) x := by
  induction T with
  | nil => intro seq; simp [strm]
  | cons y T ih =>
    intro seq
    show txS seq y ++ strm (seq + 1) (T ++ [x]) = txS seq y ++ strm (seq + 1) T ++ txS (seq + ((y :: T).length : Nat)) x
    rw [ih (seq + 1), show seq + 1 + (T.length : Int) = seq + ((y :: T).length : Nat) by simp; omega]
    simp
/-- A transaction that may be. -/
structure TxOk (k st sz : Nat) (x : TxL) : Prop where
  ne : 0 < x.length
  few : x.length ≤ 24
  ris : x.Pairwise (fun p q => p.1 < q.1)
  out : ∀ p ∈ x, p.1 < k ∧ (p.1 < st ∨ st + sz ≤ p.1)
  byt : ∀ p ∈ x, p.2.length = 512 ∧ ∀ b ∈ p.2, 0 ≤ b ∧ b ≤ 255
theorem TxOk.may {k st sz : Nat} {x : TxL} (h : TxOk k st sz x) : mayB k st sz (lnsT x) = true := by
  unfold mayB
  rw [List.all_eq_true]
  intro t ht
  rw [List.mem_range, lnsT_len] at ht
  unfold mayT
  have ho := h.out x[t] (List.getElem_mem ht)
  rw [lnsT_getD x t ht]
  have e1 : outB k st sz ((x[t].1 : Nat) : Int) = true := by
    unfold outB
    simp
    omega
  rw [e1, Bool.true_and]
  by_cases e0 : t = 0
  · simp [e0]
  · rw [lnsT_getD x (t - 1) (by omega)]
    have := List.pairwise_iff_getElem.1 h.ris (t - 1) t (by omega) ht (by omega)
    simp [e0, this]
theorem atN_next (st sz place n o : Nat) : atN st sz ((place + n + 2) % (sz - 1)) o = atN st sz place (n + 2 + o) := by
  unfold atN
  rw [Nat.mod_add_mod]
  congr 2
  omega
/-- The transaction at a place is taken up. -/
theorem next_of {S : DevS} {k st sz : Nat} {seq : Int} {place : Nat} {free : Int} {x : TxL} (hx : TxOk k st sz x) (hk : k ≤ 4096) (hs : 0 ≤ seq ∧ seq ≤ 4611686018427387905) (hf : (x.length : Int) + 2 ≤ free) (hstr : ∀ o b, (txS seq x)[o]? = some b → rdB S (atN st sz place o) = b) : nextL S k st sz seq place free = lnsT x ∧ txOf S st sz place (lnsT x) = x := by
  have h0 : rdB S (atN st sz place 0) = desB seq (lnsT x) := hstr 0 _ rfl
  have hl : linesR (rdB S (atN st sz place 0)) seq = lnsT x := by
    rw [h0]
    refine lines_back seq _ hs (by rw [lnsT_len]; exact hx.few) (fun p hp => ?_)
    obtain ⟨r, hr, rfl⟩ := List.mem_map.1 hp
    have := (hx.out r hr).1
    exact ⟨by simp only; omega, flagN_le _⟩
  have hi : ∀ i (h : i < x.length), rdB S (atN st sz place (i + 1)) = hidB x[i].2 (flagN x[i].2) := fun i h => hstr (i + 1) _ (txS_hid seq x i h)
  have hne : lnsT x ≠ [] := fun e => by
    have h2 : x.length = 0 := by rw [← lnsT_len, e]; rfl
    have := hx.ne
    omega
  refine ⟨?_, ?_⟩
  · unfold nextL
    simp only [hl]
    rw [if_pos]
    refine ⟨hne, by rw [lnsT_len]; exact hf, hx.may, ?_, ?_⟩
    · rw [lnsT_len, hstr _ _ (txS_com seq x), com_back seq seq hs]
      simp
    · unfold nxOk
      rw [List.all_eq_true]
      intro i hi'
      rw [List.mem_range, lnsT_len] at hi'
      rw [hi i hi', lnsT_getD x i hi']
      exact (show_back _).2
  · unfold txOf
    refine List.ext_getElem (by simp [lnsT_len]) (fun i h1 h2 => ?_)
    rw [List.getElem_map, List.getElem_range, lnsT_getD x i h2]
    unfold nxB
    rw [hi i h2, lnsT_getD x i h2, (show_back _).1]
/-- No commit of that number or a later one stands in the log. -/
def NoCom (S : DevS) (st sz : Nat) (seq : Int) : Prop := ∀ p, st < p → p < st + sz → ∀ s, seq ≤ s → isCom (rdB S p) s = false
theorem next_no {S : DevS} {k st sz : Nat} {seq : Int} {place : Nat} {free : Int} (h : NoCom S st sz seq) (h1 : 2 ≤ sz) : nextL S k st sz seq place free = [] := by
  unfold nextL
  simp only
  rw [if_neg]
  rintro ⟨_, _, _, hc, _⟩
  generalize (linesR (rdB S (atN st sz place 0)) seq).length + 1 = L at hc
  have hm := Nat.mod_lt (place + L) (show 0 < sz - 1 by omega)
  rw [h _ (by unfold atN; omega) (by unfold atN; omega) seq (Int.le_refl _)] at hc
  cases hc
theorem log_of {S : DevS} {k st sz : Nat} (hk : k ≤ 4096) (h1 : 2 ≤ sz) : ∀ (T : List TxL) (seq : Int) (place : Nat) (free : Int), (∀ x ∈ T, TxOk k st sz x) → 0 ≤ seq → seq + T.length ≤ 4611686018427387905 → ((strm seq T).length : Int) ≤ free → (∀ o b, (strm seq T)[o]? = some b → rdB S (atN st sz place o) = b) → NoCom S st sz (seq + T.length) → LogT S k st sz seq place free T
  | [], seq, place, free, _, _, _, _, _, hn => LogT.nil (next_no (by simpa using hn) h1)
  | x :: T, seq, place, free, hok, hs0, hs1, hf, hstr, hn => by
    have hlen : (strm seq (x :: T)).length = x.length + 2 + (strm (seq + 1) T).length := by
      show (txS seq x ++ strm (seq + 1) T).length = _
      rw [List.length_append, txS_len]
    simp only [List.length_cons] at hs1 hn
    obtain ⟨e1, e2⟩ := next_of (S := S) (place := place) (free := free) (seq := seq) (hok x List.mem_cons_self) hk ⟨hs0, by omega⟩ (by omega) (fun o b hb => hstr o b (by
      show (txS seq x ++ strm (seq + 1) T)[o]? = some b
      rw [List.getElem?_append_left (List.getElem?_eq_some_iff.1 hb).1]
      exact hb))
    have hne : lnsT x ≠ [] := fun e => by
      have h2 : x.length = 0 := by rw [← lnsT_len, e]; rfl
      have := (hok x List.mem_cons_self).ne
      omega
    have hrest := log_of hk h1 T (seq + 1) ((place + x.length + 2) % (sz - 1)) (free - (x.length + 2)) (fun y hy => hok y (List.mem_cons_of_mem _ hy)) (by omega) (by omega) (by omega) (fun o b hb => by
      rw [atN_next]
      refine hstr (x.length + 2 + o) b ?_
      show (txS seq x ++ strm (seq + 1) T)[x.length + 2 + o]? = some b
      rw [List.getElem?_append_right (by rw [txS_len]; omega), txS_len, show x.length + 2 + o - (x.length + 2) = o by omega]
      exact hb) (by rw [show seq + 1 + (T.length : Int) = seq + ((T.length + 1 : Nat) : Int) by omega]; exact hn)
    have := LogT.cons (S := S) (k := k) (st := st) (sz := sz) (T := T) e1 hne (by rw [lnsT_len]; exact hrest)
    rw [e2] at this
    exact this
end Go.Proofs.YtnmdnglbpkpfdaaGreatDoor

/- Plain mathematics: what a device with a journal holds; commits and checkpoints keep it. -/
namespace Go.Proofs.YtnmdnglbpkpfdaaGreatDoor
open Go.RowKit Go.Maps
set_option maxRecDepth 100000
theorem atN_inj {st sz place i j : Nat} (hi : i < sz - 1) (hj : j < sz - 1) (h : atN st sz place i = atN st sz place j) : i = j := by
  unfold atN at h
  have e : (place + i) % (sz - 1) = (place + j) % (sz - 1) := by omega
  rcases Nat.le_total i j with q | q
  · have h1 := Nat.sub_mod_eq_zero_of_mod_eq e.symm
    rw [show place + j - (place + i) = j - i by omega, Nat.mod_eq_of_lt (by omega)] at h1
    omega
  · have h1 := Nat.sub_mod_eq_zero_of_mod_eq e
    rw [show place + i - (place + j) = i - j by omega, Nat.mod_eq_of_lt (by omega)] at h1
    omega
theorem atN_in {st sz place i : Nat} (h : 2 ≤ sz) : st < atN st sz place i ∧ atN st sz place i < st + sz := by
  have := Nat.mod_lt (place + i) (show 0 < sz - 1 by omega)
  unfold atN
  omega
theorem rdB_put (S : DevS) (st sz place i : Nat) (bs : List Int) (b : Nat) : rdB (putL S st sz place i bs) b = if atN st sz place i = b then bs else rdB S b := by
  show rdB (wrote (burnt S) (atN st sz place i) bs) b = _
  rw [rdB_wrote, rdB_burnt]
/-- A map's blocks as a transaction. -/
def txM (f : Nat → List Int) (m : List (Nat × Nat)) : TxL := m.map fun p => (p.1, f p.1)
theorem txM_len (f : Nat → List Int) (m : List (Nat × Nat)) : (txM f m).length = m.length := by simp [txM]
theorem txM_lns (f : Nat → List Int) (m : List (Nat × Nat)) : lnsT (txM f m) = lnsOf f m := by simp [lnsT, txM, lnsOf]
theorem rdB_hids {S : DevS} {st sz place : Nat} {seq : Int} {f : Nat → List Int} {m : List (Nat × Nat)} (hl : m.length + 2 ≤ sz - 1) : ∀ i, i ≤ m.length → (∀ j, j ≤ i → ∀ b, (txS seq (txM f m))[j]? = some b → rdB (hidS S st sz place seq f m i) (atN st sz place j) = b) ∧ ∀ b, (∀ j, j ≤ i → atN st sz place j ≠ b) → rdB (hidS S st sz place seq f m i) b = rdB S b
  | 0, _ => by
    refine ⟨fun j hj b hb => ?_, fun b hb => ?_⟩
    · obtain rfl : j = 0 := by omega
      show rdB (putL S st sz place 0 (desB seq (lnsOf f m))) _ = b
      rw [rdB_put, if_pos rfl, ← txM_lns]
      simpa [txS] using hb
    · show rdB (putL S st sz place 0 (desB seq (lnsOf f m))) b = _
      rw [rdB_put, if_neg (hb 0 (Nat.le_refl _))]
  | i + 1, hi => by
    obtain ⟨h1, h2⟩ := rdB_hids (S := S) (st := st) (place := place) (seq := seq) (f := f) hl i (by omega)
    have hg : (m.map (·.1)).getD i 0 = (m[i]'(by omega)).1 := by simp [List.getD, show i < m.length by omega]
    refine ⟨fun j hj b hb => ?_, fun b hb => ?_⟩
    · show rdB (putL (hidS S st sz place seq f m i) st sz place (i + 1) _) _ = b
      rw [rdB_put]
      by_cases e : j = i + 1
      · subst e
        rw [if_pos rfl, hg]
        have := txS_hid seq (txM f m) i (by rw [txM_len]; omega)
        rw [this] at hb
        simp only [txM, List.getElem_map, Option.some.injEq] at hb
        exact hb
      · rw [if_neg (fun q => e (atN_inj (by omega) (by omega) q.symm))]
        exact h1 j (by omega) b hb
    · show rdB (putL (hidS S st sz place seq f m i) st sz place (i + 1) _) b = _
      rw [rdB_put, if_neg (hb (i + 1) (Nat.le_refl _))]
      exact h2 b (fun j hj => hb j (by omega))
/-- What a commit leaves. -/
theorem rdB_coms {S : DevS} {k st sz place : Nat} {seq : Int} {f : Nat → List Int} {m : List (Nat × Nat)} (h : Good S k) (hs : 2 ≤ sz) (hst : st + sz ≤ k) (hm : m.length ≤ 24) (hV : ∀ p ∈ m, (f p.1).length = 512 ∧ ∀ x ∈ f p.1, 0 ≤ x ∧ x ≤ 255) (hl : m.length + 2 ≤ sz - 1) : (∀ j b, (txS seq (txM f m))[j]? = some b → rdB (comS S st sz place seq f m) (atN st sz place j) = b) ∧ (∀ b, (∀ j, j < m.length + 2 → atN st sz place j ≠ b) → rdB (comS S st sz place seq f m) b = rdB S b) ∧ Good (comS S st sz place seq f m) k ∧ (comS S st sz place seq f m).pend = [] := by
  have ghid : ∀ i, i ≤ m.length → Good (hidS S st sz place seq f m i) k := fun i => by
    induction i with
    | zero =>
      intro _
      exact h.burnt.wrote (by have := (atN_in (st := st) (place := place) (i := 0) hs).2; unfold atN at this; omega) (desB_len _ _ (by rw [lnsOf_len]; exact hm)) (desB_by _ _)
    | succ i ih =>
      intro hi
      have hg : (m.map (·.1)).getD i 0 = (m[i]'(by omega)).1 := by simp [List.getD, show i < m.length by omega]
      have hv := hV (m[i]'(by omega)) (List.getElem_mem _)
      refine (ih (by omega)).burnt.wrote (by have := (atN_in (st := st) (place := place) (i := i + 1) hs).2; unfold atN at this; omega) ?_ ?_
      · rw [hg]; exact hidB_len hv.1 _
      · rw [hg]; exact hidB_by hv.2 _
  have g1 := ghid m.length (Nat.le_refl _)
  have g2 : Good (putL (flushed (burnt (hidS S st sz place seq f m m.length))) st sz place (m.length + 1) (comB seq)) k := g1.burnt.flushed.burnt.wrote (by have := (atN_in (st := st) (place := place) (i := m.length + 1) hs).2; unfold atN at this; omega) (comB_len seq) (comB_by seq)
  obtain ⟨h1, h2⟩ := rdB_hids (S := S) (st := st) (place := place) (seq := seq) (f := f) hl m.length (Nat.le_refl _)
  have e : ∀ b, rdB (comS S st sz place seq f m) b = if atN st sz place (m.length + 1) = b then comB seq else rdB (hidS S st sz place seq f m m.length) b := fun b => by
    unfold comS
    rw [rdB_flushed g2.burnt, rdB_burnt, rdB_put, rdB_flushed g1.burnt, rdB_burnt]
  refine ⟨fun j b hb => ?_, fun b hb => ?_, g2.burnt.flushed, rfl⟩
  · rw [e]
    have hj : j < m.length + 2 := by
      have := (List.getElem?_eq_some_iff.1 hb).1
      rwa [txS_len, txM_len] at this
    by_cases q : j = m.length + 1
    · subst q
      rw [if_pos rfl]
      have := txS_com seq (txM f m)
      rw [txM_len, hb] at this
      exact (Option.some.inj this).symm
    · rw [if_neg (fun r => q (atN_inj (by omega) (by omega) r.symm))]
      exact h1 j (by omega) b hb
  · rw [e, if_neg (hb (m.length + 1) (by omega))]
    exact h2 b (fun j hj => hb j (by omega))
/-- What a checkpoint leaves. -/
theorem rdB_home {S : DevS} {fa : Nat → List Int} {a : List (Nat × Nat)} (hr : Rising a) : ∀ i, i ≤ a.length → ∀ b, rdB (homeS S fa a i) b = if b ∈ (a.take i).map (·.1) then fa b else rdB S b
  | 0, _, b => by simp [homeS]
  | i + 1, hi, b => by
    have e : (a.map (·.1)).getD i 0 = (a[i]'(by omega)).1 := by simp [List.getD, show i < a.length by omega]
    show rdB (wrote (burnt (homeS S fa a i)) _ _) b = _
    rw [rdB_wrote, rdB_burnt, rdB_home hr i (by omega) b, e, List.take_succ_eq_append_getElem (show i < a.length by omega), List.map_append]
    by_cases q : (a[i]'(by omega)).1 = b
    · rw [if_pos q, if_pos (by simp [q]), q]
    · rw [if_neg q]
      by_cases r : b ∈ (a.take i).map (·.1)
      · rw [if_pos r, if_pos (List.mem_append_left _ r)]
      · rw [if_neg r, if_neg (fun s => (List.mem_append.1 s).elim r (fun s => q (by simp at s; exact s.symm)))]
theorem Good.home {S : DevS} {k : Nat} {fa : Nat → List Int} {a : List (Nat × Nat)} (h : Good S k) (hk : ∀ p ∈ a, p.1 < k) (hf : ∀ p ∈ a, (fa p.1).length = 512 ∧ ∀ x ∈ fa p.1, 0 ≤ x ∧ x ≤ 255) : ∀ i, i ≤ a.length → Good (homeS S fa a i) k
  | 0, _ => h
  | i + 1, hi => by
    have e : (a.map (·.1)).getD i 0 = (a[i]'(by omega)).1 := by simp [List.getD, show i < a.length by omega]
    have hm := List.getElem_mem (show i < a.length by omega)
    have g := (Good.home h hk hf i (by omega)).burnt.wrote (hk _ hm) (hf _ hm).1 (hf _ hm).2
    rw [← e] at g
    exact g
theorem rdB_ck {S : DevS} {k st : Nat} {seq : Int} {place : Nat} {fa : Nat → List Int} {a : List (Nat × Nat)} (h : Good S k) (hst : st < k) (hr : Rising a) (hk : ∀ p ∈ a, p.1 < k) (hf : ∀ p ∈ a, (fa p.1).length = 512 ∧ ∀ x ∈ fa p.1, 0 ≤ x ∧ x ≤ 255) : (∀ b, rdB (ckS S fa a st seq place) b = if st = b then jheadB seq place else if b ∈ a.map (·.1) then fa b else rdB S b) ∧ Good (ckS S fa a st seq place) k ∧ (ckS S fa a st seq place).pend = [] := by
  have g1 := h.home hk hf a.length (Nat.le_refl _)
  have g2 : Good (wrote (burnt (flushed (burnt (homeS S fa a a.length)))) st (jheadB seq place)) k := g1.burnt.flushed.burnt.wrote hst (jheadB_len seq place) (jheadB_by seq place)
  refine ⟨fun b => ?_, g2.burnt.flushed, rfl⟩
  unfold ckS
  rw [rdB_flushed g2.burnt, rdB_burnt, rdB_wrote, rdB_burnt, rdB_flushed g1.burnt, rdB_burnt, rdB_home hr a.length (Nat.le_refl _) b, List.take_of_length_le (Nat.le_refl _)]
/-- A device with a journal: its head, the transactions in its log, and nothing behind them that looks committed. -/
structure Lg (S : DevS) (k st sz seq place : Nat) (free : Int) (T : List TxL) (seq0 place0 : Nat) : Prop where
  good : Good S k
  calm : S.pend = []
  s1 : 27 ≤ sz
  s2 : st + sz ≤ k
  head : rdB S st = jheadB seq0 place0
  q0 : 1 ≤ seq0
  q1 : seq = seq0 + T.length
  p0 : place0 < sz - 1
  p1 : place = plEnd sz place0 T
  fr : ((strm seq0 T).length : Int) + free = (sz : Int) - 1
  f0 : 0 ≤ free
  ok : ∀ x ∈ T, TxOk k st sz x
  str : ∀ o b, (strm seq0 T)[o]? = some b → rdB S (atN st sz place0 o) = b
  noc : NoCom S st sz seq
theorem plEnd_at (st sz : Nat) : ∀ (T : List TxL) (seq : Int) (place o : Nat), atN st sz (plEnd sz place T) o = atN st sz place ((strm seq T).length + o)
  | [], seq, place, o => by simp [plEnd, strm]
  | x :: T, seq, place, o => by
    have h := plEnd_at st sz T (seq + 1) ((place + x.length + 2) % (sz - 1)) o
    show atN st sz (plEnd sz ((place + x.length + 2) % (sz - 1)) T) o = _
    rw [h, atN_next]
    show _ = atN st sz place ((txS seq x ++ strm (seq + 1) T).length + o)
    rw [List.length_append, txS_len]
    congr 1
    omega
theorem plEnd_lt {sz place : Nat} (T : List TxL) (hp : place < sz - 1) : plEnd sz place T < sz - 1 := by
  induction T using snoc_ind with
  | h0 => exact hp
  | h1 T x _ => rw [plEnd_snoc]; exact Nat.mod_lt _ (by omega)
/-- Behind a commit. -/
theorem Lg.commit {S : DevS} {k st sz seq place : Nat} {free : Int} {T : List TxL} {seq0 place0 : Nat} (h : Lg S k st sz seq place free T seq0 place0) {f : Nat → List Int} {m : List (Nat × Nat)} (hx : TxOk k st sz (txM f m)) (hf : (m.length : Int) + 2 ≤ free) (hs : seq ≤ 4611686018427387904) : Lg (comS S st sz place seq f m) k st sz (seq + 1) ((place + m.length + 2) % (sz - 1)) (free - (m.length + 2)) (T ++ [txM f m]) seq0 place0 := by
  have h1 := h.s1
  have hq := h.q1
  have hfr := h.fr
  have hm24 := hx.few
  rw [txM_len] at hm24
  have hV : ∀ p ∈ m, (f p.1).length = 512 ∧ ∀ x ∈ f p.1, 0 ≤ x ∧ x ≤ 255 := fun p hp => hx.byt (p.1, f p.1) (List.mem_map.2 ⟨p, hp, rfl⟩)
  obtain ⟨c1, c2, c3, c4⟩ := rdB_coms (place := place) (seq := (seq : Int)) (f := f) (m := m) h.good (by omega) h.s2 hm24 hV (by omega)
  have hat : ∀ o, atN st sz place o = atN st sz place0 ((strm seq0 T).length + o) := fun o => by rw [h.p1]; exact plEnd_at st sz T seq0 place0 o
  have hlenS : strm (seq0 : Int) (T ++ [txM f m]) = strm seq0 T ++ txS seq (txM f m) := by
    rw [strm_snoc]
    congr 2
    omega
  refine ⟨c3, c4, h1, h.s2, ?_, h.q0, by simp; omega, h.p0, by rw [plEnd_snoc, txM_len, ← h.p1], ?_, by omega, fun x hx' => ?_, fun o b hb => ?_, fun p hp1 hp2 s hs' => ?_⟩
  · rw [c2 st (fun j _ e => by have := (atN_in (st := st) (place := place) (i := j) (show 2 ≤ sz by omega)).1; omega)]
    exact h.head
  · rw [hlenS, List.length_append, txS_len, txM_len]
    omega
  · rcases List.mem_append.1 hx' with q | q
    · exact h.ok x q
    · rw [List.mem_singleton.1 q]; exact hx
  · rw [hlenS] at hb
    by_cases q : o < (strm (seq0 : Int) T).length
    · rw [List.getElem?_append_left q] at hb
      rw [c2 _ (fun j hj e => ?_)]
      · exact h.str o b hb
      · rw [hat] at e
        have := atN_inj (by omega) (by omega) e
        omega
    · rw [List.getElem?_append_right (by omega)] at hb
      have := c1 _ b hb
      rw [hat] at this
      rw [show (strm (seq0 : Int) T).length + (o - (strm (seq0 : Int) T).length) = o by omega] at this
      exact this
  · by_cases q : ∃ j, j < m.length + 2 ∧ atN st sz place j = p
    · obtain ⟨j, hj, rfl⟩ := q
      obtain ⟨b, hb⟩ : ∃ b, (txS (seq : Int) (txM f m))[j]? = some b := ⟨_, List.getElem?_eq_getElem (by rw [txS_len, txM_len]; exact hj)⟩
      rw [c1 j b hb]
      have hm : b ∈ txS (seq : Int) (txM f m) := List.mem_of_getElem? hb
      unfold txS at hm
      rcases List.mem_cons.1 hm with rfl | hm
      · exact des_no _ _ _
      · rcases List.mem_append.1 hm with hm | hm
        · obtain ⟨r, _, rfl⟩ := List.mem_map.1 hm
          exact hid_no _ _
        · rw [List.mem_singleton.1 hm, com_back (seq : Int) s ⟨by omega, by omega⟩]
          simp
          omega
    · rw [c2 p (fun j hj e => q ⟨j, hj, e⟩)]
      exact h.noc p hp1 hp2 s (by omega)
/-- Behind a checkpoint. -/
theorem Lg.ck {S : DevS} {k st sz seq place : Nat} {free : Int} {T : List TxL} {seq0 place0 : Nat} (h : Lg S k st sz seq place free T seq0 place0) {fa : Nat → List Int} {a : List (Nat × Nat)} (hr : Rising a) (ho : OutA k st sz a) (hf : ∀ p ∈ a, (fa p.1).length = 512 ∧ ∀ x ∈ fa p.1, 0 ≤ x ∧ x ≤ 255) : Lg (ckS S fa a st seq place) k st sz seq place ((sz : Int) - 1) [] seq place := by
  have h1 := h.s1
  obtain ⟨c1, c2, c3⟩ := rdB_ck (seq := (seq : Int)) (place := place) h.good (show st < k by have := h.s2; omega) hr (fun p hp => (ho p hp).1) hf
  have hq := h.q0
  have hq1 := h.q1
  refine ⟨c2, c3, h1, h.s2, by rw [c1, if_pos rfl], by omega, by simp, by rw [h.p1]; exact plEnd_lt T h.p0, rfl, by simp [strm], by omega, (fun x hx => by cases hx), (fun o b hb => by simp [strm] at hb), fun p hp1 hp2 s hs => ?_⟩
  rw [c1, if_neg (by omega), if_neg (fun q => ?_)]
  · exact h.noc p hp1 hp2 s hs
  · obtain ⟨r, hr', hre⟩ := List.mem_map.1 q
    have := (ho r hr').2
    omega
/-- It opens. -/
theorem Lg.log {S : DevS} {k st sz seq place : Nat} {free : Int} {T : List TxL} {seq0 place0 : Nat} (h : Lg S k st sz seq place free T seq0 place0) (hs : seq ≤ 4611686018427387904) : LogT S k st sz seq0 place0 ((sz : Int) - 1) T := by
  have h1 := h.s1
  have hfr := h.fr
  have hf0 := h.f0
  have hq := h.q1
  exact log_of h.good.top (by omega) T seq0 place0 _ h.ok (by omega) (by omega) (by omega) h.str (by rw [show (seq0 : Int) + (T.length : Int) = (seq : Int) by omega]; exact h.noc)
/-- A journal that was just formatted. -/
theorem Lg.fmt {S : DevS} {k st sz : Nat} (h : Good S k) (h1 : 27 ≤ sz) (h2 : st + sz ≤ k) : Lg (fmtS S st sz) k st sz 1 0 ((sz : Int) - 1) [] 1 0 := by
  have e := rdB_fmt h (show 1 ≤ sz by omega) h2
  refine ⟨h.fmt (by omega) h2, rfl, h1, h2, by rw [e, if_pos rfl]; rfl, Nat.le_refl _, rfl, by omega, rfl, by simp [strm], by omega, (fun x hx => by cases hx), (fun o b hb => by simp [strm] at hb), fun p hp1 hp2 s hs => ?_⟩
  rw [e, if_neg (by omega), if_pos (by omega)]
  exact zB_no s
end Go.Proofs.YtnmdnglbpkpfdaaGreatDoor

/- What a commit holds while it works, whatever it meets; what the device holds behind it. -/
namespace Go.Proofs.YtnmdnglbpkpfdaaGreatDoor
open Go.RowKit Go.Maps
set_option maxRecDepth 100000
/-- What a commit holds while it works: the journal, its map of what is away, the transaction's map, and what their blocks hold. -/
structure Cn (w0 w : World) (F X : Nat → Prop) (wb d : Nat) (ec : Int) (S : DevS) (k N : Nat) (jb st sz : Nat) (seq : Int) (place : Nat) (free : Int) (bm : Nat) (op : Option Nat) (nd : Nat) (a : List (Nat × Nat)) (bs ns : Nat) (m : List (Nat × Nat)) (f fa : Nat → List Int) : Prop where
  g : Wn w0 w F X wb d ec S k N
  J : Jb w jb d st sz seq place free bm op
  A : Mp w bm nd a
  M : Mp w bs ns m
  V : Vals w f m
  VA : Vals w fa a
  xj : X jb ∧ jb ≠ wb
  xa : X bm ∧ bm ≠ wb
  xm : X bs ∧ bs ≠ wb
  xv : ∀ p ∈ m, X p.2 ∧ p.2 ≠ wb
  xva : ∀ p ∈ a, X p.2 ∧ p.2 ≠ wb
theorem Cn.turn {w0 w w' : World} {F X Y : Nat → Prop} {wb d : Nat} {ec ec' : Int} {S S' : DevS} {k N N' : Nat} {jb st sz : Nat} {seq : Int} {place : Nat} {free : Int} {bm : Nat} {op : Option Nat} {nd : Nat} {a : List (Nat × Nat)} {bs ns : Nat} {m : List (Nat × Nat)} {f fa : Nat → List Int} (h : Cn w0 w F X wb d ec S k N jb st sz seq place free bm op nd a bs ns m f fa) (t : Turns Y w w') (hY : ∀ i, X i → i ≠ wb → ¬ Y i) (g' : Wn w0 w' F X wb d ec' S' k N') : Cn w0 w' F X wb d ec' S' k N' jb st sz seq place free bm op nd a bs ns m f fa :=
  ⟨g', (t.block jb (heap_lt h.J) (hY jb h.xj.1 h.xj.2)).trans h.J, h.A.turns t (hY bm h.xa.1 h.xa.2), h.M.turns t (hY bs h.xm.1 h.xm.2), h.V.turns t (fun p hp => hY p.2 (h.xv p hp).1 (h.xv p hp).2), h.VA.turns t (fun p hp => hY p.2 (h.xva p hp).1 (h.xva p hp).2), h.xj, h.xa, h.xm, h.xv, h.xva⟩
theorem Cn.below {w0 w w' : World} {F X : Nat → Prop} {wb d : Nat} {ec : Int} {S : DevS} {k N : Nat} {jb st sz : Nat} {seq : Int} {place : Nat} {free : Int} {bm : Nat} {op : Option Nat} {nd : Nat} {a : List (Nat × Nat)} {bs ns : Nat} {m : List (Nat × Nat)} {f fa : Nat → List Int} (h : Cn w0 w F X wb d ec S k N jb st sz seq place free bm op nd a bs ns m f fa) (b : Below w.heap.size w w') : Cn w0 w' F X wb d ec S k N jb st sz seq place free bm op nd a bs ns m f fa :=
  h.turn (Below.turns b (fun _ => False)) (fun _ _ _ q => q) (h.g.below b)
/-- New blocks are not the device's. -/
theorem Cn.add {w0 w w' : World} {F X : Nat → Prop} {wb d : Nat} {ec : Int} {S : DevS} {k N : Nat} {jb st sz : Nat} {seq : Int} {place : Nat} {free : Int} {bm : Nat} {op : Option Nat} {nd : Nat} {a : List (Nat × Nat)} {bs ns : Nat} {m : List (Nat × Nat)} {f fa : Nat → List Int} (h : Cn w0 w F X wb d ec S k N jb st sz seq place free bm op nd a bs ns m f fa) (b : Below w.heap.size w w') : Cn w0 w' F (fun i => X i ∨ (w.heap.size ≤ i ∧ i < w'.heap.size)) wb d ec S k N jb st sz seq place free bm op nd a bs ns m f fa := by
  have h' := h.below b
  exact ⟨h.g.add b, h'.J, h'.A, h'.M, h'.V, h'.VA, ⟨Or.inl h.xj.1, h.xj.2⟩, ⟨Or.inl h.xa.1, h.xa.2⟩, ⟨Or.inl h.xm.1, h.xm.2⟩, fun p hp => ⟨Or.inl (h.xv p hp).1, (h.xv p hp).2⟩, fun p hp => ⟨Or.inl (h.xva p hp).1, (h.xva p hp).2⟩⟩
theorem Cn.less {w0 w : World} {F X Y : Nat → Prop} {wb d : Nat} {ec : Int} {S : DevS} {k N : Nat} {jb st sz : Nat} {seq : Int} {place : Nat} {free : Int} {bm : Nat} {op : Option Nat} {nd : Nat} {a : List (Nat × Nat)} {bs ns : Nat} {m : List (Nat × Nat)} {f fa : Nat → List Int} (h : Cn w0 w F X wb d ec S k N jb st sz seq place free bm op nd a bs ns m f fa) (hY : ∀ i, Y i → X i) (hw : Y wb) (hj : Y jb) (ha : Y bm) (hm : Y bs) (hv : ∀ p ∈ m, Y p.2) (hva : ∀ p ∈ a, Y p.2) : Cn w0 w F Y wb d ec S k N jb st sz seq place free bm op nd a bs ns m f fa :=
  ⟨h.g.less hY hw, h.J, h.A, h.M, h.V, h.VA, ⟨hj, h.xj.2⟩, ⟨ha, h.xa.2⟩, ⟨hm, h.xm.2⟩, fun p hp => ⟨hv p hp, (h.xv p hp).2⟩, fun p hp => ⟨hva p hp, (h.xva p hp).2⟩⟩
/-- A block is written, or all is flushed. -/
theorem Cn.did {w0 w w' : World} {F X G : Nat → Prop} {wb d : Nat} {ec ec' : Int} {S S' : DevS} {k N N' : Nat} {jb st sz : Nat} {seq : Int} {place : Nat} {free : Int} {bm : Nat} {op : Option Nat} {nd : Nat} {a : List (Nat × Nat)} {bs ns : Nat} {m : List (Nat × Nat)} {f fa : Nat → List Int} (h : Cn w0 w F X wb d ec S k N jb st sz seq place free bm op nd a bs ns m f fa) (hG : ∀ i, G i → F i ∨ w0.heap.size ≤ i) (hX : ∀ i, X i → ¬ G i) (q : Did w w' wb d ec' S' k N' G) : Cn w0 w' F X wb d ec' S' k N' jb st sz seq place free bm op nd a bs ns m f fa :=
  h.turn (Did.tr q) (fun i hi hw r => r.elim (hX i hi) hw) (h.g.did hG hX q).1
/-- What stands behind a commit. -/
structure Cnd (w0 w : World) (F X : Nat → Prop) (wb d : Nat) (ec : Int) (S : DevS) (k N : Nat) (jb st sz : Nat) (seq : Int) (place : Nat) (free : Int) (bm : Nat) (op : Option Nat) (nd : Nat) (a : List (Nat × Nat)) (bs ns : Nat) (m : List (Nat × Nat)) (f fa : Nat → List Int) : Prop where
  wk : ∃ ev, ErrV ev ec ∧ Wk w wb d ev
  dv : ∃ G, Dev w d 0 S k N G ∧ (∀ i, G i → F i ∨ w0.heap.size ≤ i) ∧ ∀ i, X i → ¬ G i
  J : Jb w jb d st sz (seq + 1) ((place + m.length + 2) % (sz - 1) : Nat) (free - (m.length + 2)) bm op
  A : Mp w bm (nd + m.length) (mmerge a m)
  M : Mp w bs ns m
  V : Vals w f m
  VA : Vals w fa a
  tr : Turns (fun i => F i ∨ i = wb ∨ i = bm ∨ i = jb) w0 w
theorem Cn.pass {w0 w w' : World} {F X : Nat → Prop} {wb d : Nat} {ec : Int} {S : DevS} {k N : Nat} {jb st sz : Nat} {seq : Int} {place : Nat} {free : Int} {bm : Nat} {op : Option Nat} {nd : Nat} {a : List (Nat × Nat)} {bs ns : Nat} {m : List (Nat × Nat)} {f fa : Nat → List Int} (h : Cn w0 w F X wb d ec S k N jb st sz seq place free bm op nd a bs ns m f fa) (J : Jb w' jb d st sz (seq + 1) ((place + m.length + 2) % (sz - 1) : Nat) (free - (m.length + 2)) bm op) (A : Mp w' bm (nd + m.length) (mmerge a m)) (M : Mp w' bs ns m) (t : Turns (fun i => i = bm ∨ i = jb) w w') : Cnd w0 w' F X wb d ec S k N jb st sz seq place free bm op nd a bs ns m f fa := by
  obtain ⟨G, D, hG, hX⟩ := h.g.dv
  have nJ : ∀ (g : Nat) (bs : List Int), w.heap[g]? = some (bl bs) → ¬ (g = bm ∨ g = jb) := fun g bs hg e => by
    rcases e with rfl | rfl
    · exact mp_no_bl h.A hg
    · have := h.J; unfold Jb at this; rw [hg] at this; simp [bl] at this
  obtain ⟨ev, hev, hwk⟩ := h.g.wk
  refine ⟨⟨ev, hev, hwk.turns t (fun e => e.elim h.xa.2.symm h.xj.2.symm)⟩, ⟨G, D.turns t (fun i hi e => ?_), hG, hX⟩, J, A, M, h.V.turns t (fun p hp => nJ p.2 _ (h.V p hp).1), h.VA.turns t (fun p hp => nJ p.2 _ (h.VA p hp).1), (h.g.tr.mono (G := fun i => F i ∨ i = wb ∨ i = bm ∨ i = jb) (fun i _ e => e.imp id Or.inl)).trans t (fun i _ e => Or.inr (Or.inr e))⟩
  · rcases e with rfl | rfl
    · exact hX _ h.xa.1 hi
    · exact hX _ h.xj.1 hi
theorem Cn.cj {w0 w : World} {F X : Nat → Prop} {wb d : Nat} {ec : Int} {S : DevS} {k N : Nat} {jb st sz : Nat} {seq : Int} {place : Nat} {free : Int} {bm : Nat} {op : Option Nat} {nd : Nat} {a : List (Nat × Nat)} {bs ns : Nat} {m : List (Nat × Nat)} {f fa : Nat → List Int} (h : Cn w0 w F X wb d ec S k N jb st sz seq place free bm op nd a bs ns m f fa) : Cj w0 w F X wb d ec S k N jb st sz seq place free bm op nd a fa := ⟨h.g, h.J, h.A, h.VA, h.xj, h.xa, h.xva⟩
theorem Cm.any {w0 w : World} {F X : Nat → Prop} {wb d : Nat} {S : DevS} {k N : Nat} {jb st sz : Nat} {seq : Int} {place : Nat} {free : Int} {bm : Nat} {op : Option Nat} {nd : Nat} {a : List (Nat × Nat)} {bs ns : Nat} {m : List (Nat × Nat)} {f fa : Nat → List Int} (h : Cm w0 w F X wb d S k N jb st sz seq place free bm op nd a bs ns m f fa) : Cn w0 w F X wb d 0 S k N jb st sz seq place free bm op nd a bs ns m f fa := ⟨h.g.any, h.J, h.A, h.M, h.V, h.VA, h.xj, h.xa, h.xm, h.xv, h.xva⟩
/-- Behind a checkpoint. -/
theorem Cn.ck {w0 w w' : World} {F X : Nat → Prop} {wb d : Nat} {ec ec' : Int} {S S' : DevS} {k N N' : Nat} {jb st sz : Nat} {seq : Int} {place : Nat} {free free' : Int} {bm bm' : Nat} {op : Option Nat} {nd : Nat} {a : List (Nat × Nat)} {bs ns : Nat} {m : List (Nat × Nat)} {f fa : Nat → List Int} (h : Cn w0 w F X wb d ec S k N jb st sz seq place free bm op nd a bs ns m f fa) (hj : jb ≠ bs) (c : Cj w0 w' (fun i => F i ∨ i = jb) (fun i => X i ∨ i = bm') wb d ec' S' k N' jb st sz seq place free' bm' op 0 [] (fun _ => [])) (t : Save X wb jb w w') : Cn w0 w' (fun i => F i ∨ i = jb) (fun i => X i ∨ i = bm') wb d ec' S' k N' jb st sz seq place free' bm' op 0 [] bs ns m f (fun _ => []) := by
  have nJ : ∀ p ∈ m, p.2 ≠ jb := fun p hp e => by
    have h1 := (h.V p hp).1
    have h2 := h.J
    unfold Jb at h2
    rw [e, h2] at h1
    simp [bl] at h1
  exact ⟨c.g, c.J, c.A, h.M.turns t (fun r => (r h.xm.1).elim h.xm.2 (fun e => hj e.symm)), h.V.turns t (fun p hp r => (r (h.xv p hp).1).elim (h.xv p hp).2 (nJ p hp)), c.VA, c.xj, c.xa, ⟨Or.inl h.xm.1, h.xm.2⟩, fun p hp => ⟨Or.inl (h.xv p hp).1, (h.xv p hp).2⟩, (fun p hp => by cases hp)⟩
end Go.Proofs.YtnmdnglbpkpfdaaGreatDoor
