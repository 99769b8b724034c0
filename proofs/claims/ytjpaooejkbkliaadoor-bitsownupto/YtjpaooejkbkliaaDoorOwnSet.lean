/- BitsOwn, readers: what is held of rows, lists and readers, and what keeps it. -/
import Derived.Test.YtjpaooejkbkliaaDoorOwnMath
import Derived.Test.YtjpaooejkbkliaaDoorBookAll
import Derived.Test.YtjpaooejkbkliaaDoorPutsMid
namespace Go.Proofs.YtjpaooejkbkliaaDoor
open Go.RowKit
set_option maxRecDepth 100000

/-- Block b is a row of elements of the type t. -/
def Kind (w : World) (b t : Nat) : Prop := ∃ cs : Array Value, w.heap[b]? = some (Obj.cells cs t)
theorem Kind.ne {w : World} {b c s t : Nat} (h : Kind w b s) (k : Kind w c t) (hne : s ≠ t) : b ≠ c := by
  obtain ⟨cs, h⟩ := h
  obtain ⟨ds, k⟩ := k
  rintro rfl
  rw [h] at k
  cases k
  exact hne rfl
theorem Kind.lt {w : World} {b t : Nat} (h : Kind w b t) : b < w.heap.size := by
  obtain ⟨cs, h⟩ := h
  exact lt_of_block h
theorem own_kind {w : World} {base n t b : Nat} {v : Value} {xs : List Value} (h : w.ownsRow base t 1 v n xs) (hb : v.ownBlock = some b) : Kind w b t := by
  rcases h.2 with ⟨rfl, _⟩ | ⟨g, cap, cur, rfl, _, hh, _⟩
  · cases hb
  · cases hb
    exact ⟨cur, hh⟩

/-- What may have turned: blocks of K alone, among the old ones. -/
abbrev Fk (K : Nat → Prop) (w w' : World) : Prop := FrO K [] w w'
theorem Fk.at {K : Nat → Prop} {w w' : World} (h : Fk K w w') {b : Nat} (hb : b < w.heap.size) (hk : ¬ K b) : w'.heap[b]? = w.heap[b]? := h.block b hb hk (by simp)
theorem Fk.refl (K : Nat → Prop) (w : World) : Fk K w w := ⟨rfl, rfl, rfl, Nat.le_refl _, fun _ _ _ _ => rfl⟩
theorem Fk.of_below {w w' : World} (h : Below w.heap.size w w') : Fk (fun _ => False) w w' := ⟨h.os, h.tape, h.output, h.size, fun k hk _ _ => h.block k hk⟩
theorem Fk.of_grown {w w' : World} {b : Nat} (h : w.grownBy w' (some b)) : Fk (fun k => k = b) w w' := ⟨h.os, h.tape, h.output, h.size, fun k hk hne _ => h.block k hk (by simpa using hne)⟩
theorem Fk.of_laid {w w' : World} {v v' : Value} {n k : Nat} (h : Laid w w' v v' n k) : Fk (fun b => v.ownBlock = some b) w w' := by
  rcases h with ⟨g, cap, rfl, _, hg⟩ | ⟨cap', _, hg⟩
  · exact ⟨hg.os, hg.tape, hg.output, hg.size, fun k hk hne _ => hg.block k hk (fun e => hne e.symm)⟩
  · exact ⟨hg.os, hg.tape, hg.output, hg.size, fun k hk _ _ => hg.block k hk (by simp)⟩
theorem Fk.mono {K K' : Nat → Prop} {w w' : World} (h : Fk K w w') (hk : ∀ b, b < w.heap.size → K b → K' b) : Fk K' w w' := ⟨h.os, h.tape, h.output, h.size, fun b hb hne _ => h.at hb (fun hk' => hne (hk b hb hk'))⟩
theorem Fk.trans {K : Nat → Prop} {a b c : World} (h : Fk K a b) (k : Fk K b c) : Fk K a c :=
  ⟨k.os.trans h.os, k.tape.trans h.tape, k.output.trans h.output, Nat.le_trans h.size k.size, fun _ hi hne _ => (k.at (Nat.lt_of_lt_of_le hi h.size) hne).trans (h.at hi hne)⟩
theorem Fk.below {K : Nat → Prop} {B : Nat} {w0 w w' : World} (hb : Below B w0 w) (hs : B ≤ w.heap.size) (h : Fk K w w') (hK : ∀ b, K b → B ≤ b) : Below B w0 w' :=
  ⟨h.os.trans hb.os, h.tape.trans hb.tape, h.output.trans hb.output, Nat.le_trans hb.size h.size, fun k hk => (h.at (Nat.lt_of_lt_of_le hk hs) (fun hh => by have := hK k hh; omega)).trans (hb.block k hk)⟩

theorem own_fk {K : Nat → Prop} {w w' : World} {base t n : Nat} {v : Value} {xs : List Value} (h : w.ownsRow base t 1 v n xs) (hF : Fk K w w') (hK : ∀ b, v.ownBlock = some b → ¬ K b) : w'.ownsRow base t 1 v n xs := by
  obtain ⟨h1, h2⟩ := h
  refine ⟨h1, ?_⟩
  rcases h2 with h2 | ⟨g, cap, cur, hv, hg, hh, r⟩
  · exact Or.inl h2
  · exact Or.inr ⟨g, cap, cur, hv, hg, (hF.at (lt_of_block hh) (hK g (by rw [hv]; rfl))).trans hh, r⟩
theorem Kind.fk {K : Nat → Prop} {w w' : World} {b t : Nat} (h : Kind w b t) (hF : Fk K w w') (hK : ¬ K b) : Kind w' b t := by
  obtain ⟨cs, hh⟩ := h
  exact ⟨cs, (hF.at (lt_of_block hh) hK).trans hh⟩

/-- A reader: its box, its bytes' block, how many, which. -/
structure RR where
  rb : Nat
  g : Nat
  n : Nat
  bs : List Int
def RR.val (r : RR) : Value := .pointer (some ⟨r.rb, 0, none⟩)
/-- A reader in memory, at a place, with no error. -/
def RdT (w : World) (r : RR) (pl : Nat) : Prop := Rdr w r.rb r.g r.n r.n (pl : Int) 0 r.bs ∧ Kind w r.g 5
theorem RdT.kind {w : World} {r : RR} {pl : Nat} (h : RdT w r pl) : Kind w r.rb 65 := ⟨_, h.1.blk⟩
theorem RdT.fk {K : Nat → Prop} {w w' : World} {r : RR} {pl : Nat} (h : RdT w r pl) (hF : Fk K w w') (h1 : ¬ K r.rb) (h2 : ¬ K r.g) : RdT w' r pl := by
  have hg := hF.at h.2.lt h2
  refine ⟨⟨(hF.at h.1.lt h1).trans h.1.blk, ⟨h.1.lies.hlen, h.1.lies.hle, h.1.lies.hnone, fun ad had t u hu => ?_⟩, h.1.apart, Nat.lt_of_lt_of_le h.1.glt hF.size⟩, h.2.fk hF h2⟩
  rw [← h.1.lies.hcells ad had t u hu]
  obtain rfl := Option.some.inj had
  exact World.cell?_of_block (w := w) (by rw [add_block]; exact hg)

/-- Two lists of the same bytes. -/
def Pr (B : Nat) (w : World) (x y : Value) : Prop :=
  ∃ (m : Nat) (xs : List Int), m ≤ 200000000 ∧ w.ownsRow B 5 1 x m (xs.map (Value.int .u8)) ∧ w.ownsRow B 5 1 y m (xs.map (Value.int .u8))
theorem Pr.fk {K : Nat → Prop} {B : Nat} {w w' : World} {x y : Value} (h : Pr B w x y) (hF : Fk K w w') (h1 : ∀ b, x.ownBlock = some b → ¬ K b) (h2 : ∀ b, y.ownBlock = some b → ¬ K b) : Pr B w' x y := by
  obtain ⟨m, xs, hm, a, b⟩ := h
  exact ⟨m, xs, hm, own_fk a hF h1, own_fk b hF h2⟩

/-- What the first loop leaves: readers, the lists they were made of, and copies of these. -/
structure In1 (B0 kr kg kw : Nat) (xs : List Itm) (w : World) (vr vg vw : Value) (R : List RR) (Vg Vw : List Value) : Prop where
  row : w.ownsRow B0 29 1 vr kr (R.map RR.val)
  rowg : w.ownsRow B0 24 1 vg kg Vg
  roww : w.ownsRow B0 24 1 vw kw Vw
  apart : ∀ b, vg.ownBlock = some b → ¬ vw.ownBlock = some b
  dist : ∀ (i j : Nat) (r s : RR), R[i]? = some r → R[j]? = some s → r.rb = s.rb → i = j
  lo : ∀ r ∈ R, B0 ≤ r.rb ∧ B0 ≤ r.g
  body : ∀ (j : Nat) (r : RR), R[j]? = some r → ∃ x, xs[j / 2]? = some x ∧ r.bs = be (flipN j : Int) 4 ++ tailOf x.dl x.ds ∧ r.bs.length = r.n
  rd : ∀ r ∈ R, RdT w r 0
  pr : ∀ (j : Nat) (x y : Value), Vg[j]? = some x → Vw[j]? = some y → Pr B0 w x y

theorem In1.fk {B0 kr kg kw : Nat} {xs : List Itm} {w w' : World} {vr vg vw : Value} {R : List RR} {Vg Vw : List Value} {K : Nat → Prop} (h : In1 B0 kr kg kw xs w vr vg vw R Vg Vw) (hF : Fk K w w')
    (hK : ∀ b, K b → b < w.heap.size → B0 ≤ b → False) : In1 B0 kr kg kw xs w' vr vg vw R Vg Vw := by
  have own : ∀ {t n : Nat} {v : Value} {ys : List Value}, w.ownsRow B0 t 1 v n ys → w'.ownsRow B0 t 1 v n ys := fun ho => own_fk ho hF (fun b hb hk => hK b hk (ho.lt b hb).2 (ho.lt b hb).1)
  refine ⟨own h.row, own h.rowg, own h.roww, h.apart, h.dist, h.lo, h.body, fun r hr => ?_, fun j x y hx hy => ?_⟩
  · have hd := h.rd r hr
    exact hd.fk hF (fun hk => hK _ hk hd.1.lt (h.lo r hr).1) (fun hk => hK _ hk hd.1.glt (h.lo r hr).2)
  · obtain ⟨m, zs, hm, a, b⟩ := h.pr j x y hx hy
    exact ⟨m, zs, hm, own a, own b⟩
/-- Nothing old has turned. -/
theorem In1.later {B0 kr kg kw : Nat} {xs : List Itm} {w w' : World} {vr vg vw : Value} {R : List RR} {Vg Vw : List Value} (h : In1 B0 kr kg kw xs w vr vg vw R Vg Vw) (hb : Below w.heap.size w w') : In1 B0 kr kg kw xs w' vr vg vw R Vg Vw :=
  h.fk (Fk.of_below hb) (fun _ hk => hk.elim)

/-- A row of pointers was appended to. -/
theorem In1.readers {B0 k : Nat} {xs : List Itm} {w w' : World} {vr vr' vg vw : Value} {R : List RR} {Vg Vw : List Value} {r s : RR} {x : Itm} (h : In1 B0 (2 * k) k k xs w vr vg vw R Vg Vw) (hlen : R.length = 2 * k) (hx : xs[k]? = some x)
    (ho : w'.ownsRow B0 29 1 vr' (2 * k + 2) (R.map RR.val ++ [r.val, s.val])) (hl : Laid w w' vr vr' (2 * k) (2 * k + 2))
    (hr : RdT w r 0) (hs : RdT w s 0) (hr0 : B0 ≤ r.rb ∧ B0 ≤ r.g) (hs0 : B0 ≤ s.rb ∧ B0 ≤ s.g)
    (hnew : ∀ q ∈ R, q.rb < r.rb) (hrs : r.rb < s.rb) (hrb : r.bs = be (k : Int) 4 ++ tailOf x.dl x.ds) (hsb : s.bs = be ((k ^^^ 1 : Nat) : Int) 4 ++ tailOf x.dl x.ds) (hrn : r.bs.length = r.n) (hsn : s.bs.length = s.n) :
    In1 B0 (2 * k + 2) k k xs w' vr' vg vw (R ++ [r, s]) Vg Vw := by
  have hF := Fk.of_laid hl
  have kr : ∀ b, vr.ownBlock = some b → Kind w b 29 := fun b hb => own_kind h.row hb
  have own : ∀ {t n : Nat} {v : Value} {ys : List Value}, w.ownsRow B0 t 1 v n ys → t ≠ 29 → w'.ownsRow B0 t 1 v n ys := fun ho ht => own_fk ho hF (fun b hb hk => (own_kind ho hb).ne (kr b hk) ht rfl)
  have rdk : ∀ {q : RR} {pl : Nat}, RdT w q pl → RdT w' q pl := fun hq => hq.fk hF (fun hk => hq.kind.ne (kr _ hk) (by decide) rfl) (fun hk => hq.2.ne (kr _ hk) (by decide) rfl)
  have get : ∀ j q, (R ++ [r, s])[j]? = some q → (j < 2 * k ∧ R[j]? = some q) ∨ (j = 2 * k ∧ q = r) ∨ (j = 2 * k + 1 ∧ q = s) := by
    intro j q hq
    by_cases hj : j < 2 * k
    · rw [List.getElem?_append_left (by omega)] at hq
      exact Or.inl ⟨hj, hq⟩
    · rw [List.getElem?_append_right (by omega), hlen] at hq
      have hj2 := (List.getElem?_eq_some_iff.1 hq).1
      simp at hj2
      rcases (show j = 2 * k ∨ j = 2 * k + 1 by omega) with rfl | rfl
      · simp at hq
        exact Or.inr (Or.inl ⟨rfl, hq.symm⟩)
      · rw [show 2 * k + 1 - 2 * k = 1 by omega] at hq
        simp at hq
        exact Or.inr (Or.inr ⟨rfl, hq.symm⟩)
  refine ⟨by simpa using ho, own h.rowg (by decide), own h.roww (by decide), h.apart, fun i j a b ha hb hab => ?_, fun q hq => ?_, fun j q hq => ?_, fun q hq => ?_, fun j a b ha hb => ?_⟩
  · rcases get i a ha with ⟨hi, ha'⟩ | ⟨rfl, rfl⟩ | ⟨rfl, rfl⟩ <;> rcases get j b hb with ⟨hj, hb'⟩ | ⟨rfl, rfl⟩ | ⟨rfl, rfl⟩
    · exact h.dist i j a b ha' hb' hab
    · have := hnew a (List.mem_of_getElem? ha'); omega
    · have := hnew a (List.mem_of_getElem? ha'); omega
    · have := hnew b (List.mem_of_getElem? hb'); omega
    · rfl
    · omega
    · have := hnew b (List.mem_of_getElem? hb'); omega
    · omega
    · rfl
  · simp only [List.mem_append, List.mem_cons, List.not_mem_nil, or_false] at hq
    rcases hq with hq | rfl | rfl
    · exact h.lo q hq
    · exact hr0
    · exact hs0
  · rcases get j q hq with ⟨hj, hq'⟩ | ⟨rfl, rfl⟩ | ⟨rfl, rfl⟩
    · exact h.body j q hq'
    · refine ⟨x, by rw [show 2 * k / 2 = k by omega]; exact hx, ?_, hrn⟩
      rw [hrb, show flipN (2 * k) = k by unfold flipN; rw [if_pos (by omega)]; omega]
    · refine ⟨x, by rw [show (2 * k + 1) / 2 = k by omega]; exact hx, ?_, hsn⟩
      rw [hsb, show flipN (2 * k + 1) = k ^^^ 1 by unfold flipN; rw [if_neg (by omega), show (2 * k + 1) / 2 = k by omega]]
  · simp only [List.mem_append, List.mem_cons, List.not_mem_nil, or_false] at hq
    rcases hq with hq | rfl | rfl
    · exact rdk (h.rd q hq)
    · exact rdk hr
    · exact rdk hs
  · obtain ⟨m, zs, hm, p, q⟩ := h.pr j a b ha hb
    exact ⟨m, zs, hm, own p (by decide), own q (by decide)⟩

/-- The blocks of a row and of the row behind an append, beside another row. -/
theorem laid_apart {w w' : World} {B t n k m : Nat} {u v v' : Value} {xs : List Value} (hu : w.ownsRow B t 1 u m xs) (hne : ∀ b, v.ownBlock = some b → ¬ u.ownBlock = some b) (hl : Laid w w' v v' n k) :
    w'.ownsRow B t 1 u m xs ∧ ∀ b, v'.ownBlock = some b → ¬ u.ownBlock = some b := by
  refine ⟨own_fk hu (Fk.of_laid hl) (fun b hb hv => hne b hv hb), fun b hb hub => ?_⟩
  rcases hl with ⟨g, cap, rfl, rfl, _⟩ | ⟨cap', rfl, _⟩
  · exact hne b hb hub
  · cases hb
    exact Nat.lt_irrefl _ (hu.lt _ hub).2

theorem In1.rest {B0 kr kg kw t : Nat} {xs : List Itm} {w w' : World} {vr vg vw : Value} {R : List RR} {Vg Vw : List Value} {K : Nat → Prop} (h : In1 B0 kr kg kw xs w vr vg vw R Vg Vw) (hF : Fk K w w') (hK : ∀ b, K b → Kind w b t) (ht : t ≠ 29 ∧ t ≠ 65 ∧ t ≠ 5) :
    w'.ownsRow B0 29 1 vr kr (R.map RR.val) ∧ (∀ r ∈ R, RdT w' r 0) ∧ ∀ (j : Nat) (x y : Value), Vg[j]? = some x → Vw[j]? = some y → Pr B0 w' x y := by
  have own : ∀ {s n : Nat} {v : Value} {ys : List Value}, w.ownsRow B0 s 1 v n ys → s ≠ t → w'.ownsRow B0 s 1 v n ys := fun ho hs => own_fk ho hF (fun b hb hk => (own_kind ho hb).ne (hK b hk) hs rfl)
  refine ⟨own h.row (fun e => ht.1 e.symm), fun r hr => ?_, fun j x y hx hy => ?_⟩
  · have hd := h.rd r hr
    exact hd.fk hF (fun hk => hd.kind.ne (hK _ hk) (fun e => ht.2.1 e.symm) rfl) (fun hk => hd.2.ne (hK _ hk) (fun e => ht.2.2 e.symm) rfl)
  · obtain ⟨m, zs, hm, a, b⟩ := h.pr j x y hx hy
    exact ⟨m, zs, hm, own a (fun e => ht.2.2 e.symm), own b (fun e => ht.2.2 e.symm)⟩

theorem In1.given {B0 kr k : Nat} {xs : List Itm} {w w' : World} {vr vg vg' vw : Value} {R : List RR} {Vg Vw : List Value} {a : Value} (h : In1 B0 kr k k xs w vr vg vw R Vg Vw)
    (ho : w'.ownsRow B0 24 1 vg' (k + 1) (Vg ++ [a])) (hl : Laid w w' vg vg' k (k + 1)) : In1 B0 kr (k + 1) k xs w' vr vg' vw R (Vg ++ [a]) Vw := by
  obtain ⟨h1, h2⟩ := laid_apart h.roww h.apart hl
  obtain ⟨r1, r2, r3⟩ := h.rest (t := 24) (Fk.of_laid hl) (fun b hb => own_kind h.rowg hb) (by decide)
  have hlg : Vg.length = k := by simpa using h.rowg.1
  have hlw : Vw.length = k := by simpa using h.roww.1
  refine ⟨r1, ho, h1, h2, h.dist, h.lo, h.body, r2, fun j x y hx hy => ?_⟩
  have hj : j < k := by
    have := (List.getElem?_eq_some_iff.1 hy).1
    omega
  rw [List.getElem?_append_left (by omega)] at hx
  exact r3 j x y hx hy
theorem In1.was {B0 kr k : Nat} {xs : List Itm} {w w' : World} {vr vg vw vw' : Value} {R : List RR} {Vg Vw : List Value} {c : Value} (h : In1 B0 kr (k + 1) k xs w vr vg vw R Vg Vw)
    (ho : w'.ownsRow B0 24 1 vw' (k + 1) (Vw ++ [c])) (hl : Laid w w' vw vw' k (k + 1)) (hp : ∀ x, Vg[k]? = some x → Pr B0 w x c) : In1 B0 kr (k + 1) (k + 1) xs w' vr vg vw' R Vg (Vw ++ [c]) := by
  obtain ⟨h1, h2⟩ := laid_apart h.rowg (fun b hb hg => h.apart b hg hb) hl
  have kw : ∀ b, vw.ownBlock = some b → Kind w b 24 := fun b hb => own_kind h.roww hb
  obtain ⟨r1, r2, r3⟩ := h.rest (t := 24) (Fk.of_laid hl) kw (by decide)
  have hlw : Vw.length = k := by simpa using h.roww.1
  refine ⟨r1, h1, ho, fun b hb hw => h2 b hw hb, h.dist, h.lo, h.body, r2, fun j x y hx hy => ?_⟩
  by_cases hj : j < k
  · rw [List.getElem?_append_left (by omega)] at hy
    exact r3 j x y hx hy
  · have hjk : j = k := by
      have := (List.getElem?_eq_some_iff.1 hy).1
      simp at this; omega
    subst hjk
    rw [List.getElem?_append_right (by omega)] at hy
    simp [hlw] at hy
    subst hy
    obtain ⟨m, zs, hm, p, q⟩ := hp x hx
    exact ⟨m, zs, hm, own_fk p (Fk.of_laid hl) (fun b hb hk => (own_kind p hb).ne (kw b hk) (by decide) rfl), own_fk q (Fk.of_laid hl) (fun b hb hk => (own_kind q hb).ne (kw b hk) (by decide) rfl)⟩
end Go.Proofs.YtjpaooejkbkliaaDoor
