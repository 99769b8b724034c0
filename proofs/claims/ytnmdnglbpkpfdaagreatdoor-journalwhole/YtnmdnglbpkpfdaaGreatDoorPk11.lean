/- annexlaw7.town by its contract, of any shape that may be. -/
import Derived.Test.YtnmdnglbpkpfdaaGreatDoorPk10
namespace Go.Proofs.YtnmdnglbpkpfdaaGreatDoor
open Go.RowKit Go.Maps
set_option maxRecDepth 100000
/-- A device of k blocks, just formatted. -/
def FK (k st sz : Nat) : DevS := fmtS (fresh (List.replicate (512 * k) 0)) st sz
theorem fresh_good (k : Nat) (h0 : 1 ≤ k) (h1 : k ≤ 4096) : Good (fresh (List.replicate (512 * k) 0)) k := Good.fresh (by simp) h0 h1 (fun x hx => by have := List.eq_of_mem_replicate hx; omega)
theorem formatK {w : World} {d k N : Nat} {F : Nat → Prop} (hD : Dev w d 0 (fresh (List.replicate (512 * k) 0)) k N F) (hN : N ≤ 1000000) {st sz : Nat} (h1 : 27 ≤ sz) (h2 : st + sz ≤ k) :
    Calls Tryz.prog 47 #[.pointer (some ⟨d, 0, none⟩), .int .i64 (st : Nat), .int .i64 (sz : Nat)] w fun e w' => e = .returned (.int .i64 0) ∧ Dev w' d 0 (FK k st sz) k (N + sz) (grow F w w') ∧ Turns F w w' :=
  format_ok hD st sz h1 h2 ⟨rfl, Or.inl rfl⟩ (by omega)
/-- A town: its device, its journal's place, the blocks outside, what they should hold. -/
structure Tg (w : World) (G : Nat → Prop) (tw db st sz : Nat) (ov wv : Value) (outs : List Nat) (xs : List It) : Prop where
  box : w.heap[tw]? = some (.cells #[.pointer (some ⟨db, 0, none⟩), .int .i64 (st : Nat), .int .i64 (sz : Nat), ov, wv] 42)
  o : Ns w G ov outs
  x : Wt w G wv xs
  gt : ¬ G tw
theorem Tg.kp {G : Nat → Prop} {w w' : World} {tw db st sz : Nat} {ov wv : Value} {outs : List Nat} {xs : List It} (h : Tg w G tw db st sz ov wv outs xs) (k : Kp G w w') : Tg w' G tw db st sz ov wv outs xs := ⟨k.block _ _ _ _ h.gt h.box (by decide), h.o.kp k, h.x.kp k, h.gt⟩
/-- The blocks outside, below b. -/
def outBg (st sz b : Nat) : Bool := decide (b < st) || decide (st + sz ≤ b)
def og (st sz b : Nat) : List Nat := (List.range b).filter (outBg st sz)
theorem og_succ (st sz b : Nat) : og st sz (b + 1) = og st sz b ++ (if outBg st sz b then [b] else []) := by
  unfold og
  rw [List.range_succ, List.filter_append]
  congr 1
  cases h : outBg st sz b <;> simp [h]
theorem og_le (st sz b : Nat) : (og st sz b).length ≤ b := by
  unfold og
  exact Nat.le_trans (List.length_filter_le _ _) (by simp)
/-- The town's other parts, where its list of blocks has grown (the list itself is taken anew). -/
structure Tg0 (w : World) (G : Nat → Prop) (tw db st sz : Nat) (ov wv : Value) (xs : List It) : Prop where
  box : w.heap[tw]? = some (.cells #[.pointer (some ⟨db, 0, none⟩), .int .i64 (st : Nat), .int .i64 (sz : Nat), ov, wv] 42)
  x : Wt w G wv xs
  gt : ¬ G tw
theorem Tg.grow1 {st sz : Nat} {w w5 : World} {G : Nat → Prop} {tw db L : Nat} {ov wv : Value} {os : List Nat} {xs : List It} {ys : List Value} {o : Obj} (h : Tg w G tw db st sz ov wv os xs) (htl : tw < w.heap.size) (r : w.ownsRow 0 3 1 ov L ys) (hg : (w.alloc o).grownBy w5 ov.ownBlock) : Tg0 w5 G tw db st sz ov wv xs := by
  have t : Turns (fun i => ov.ownBlock = some i) w w5 := (Turns.alloc _ w o).trans (Turns.grown hg (fun b hb => hb)) (fun _ _ e => e)
  have hrow := h.x.row
  refine ⟨(t.block tw htl (own_typeJ r h.box (by decide))).trans h.box, ⟨own_turns hrow t (fun b hb e => ?_), h.x.gr, fun x hx => ?_⟩, h.gt⟩
  · rcases hrow.2 with ⟨q, _⟩ | ⟨g, cap, cur, q, _, hh, _⟩
    · rw [q] at hb; cases hb
    · rw [q] at hb; cases hb
      exact own_typeJ r hh (by decide) e
  · have hi := h.x.it x hx
    refine ⟨own_turns hi.own t (fun b hb e => ?_), hi.ng, hi.by_⟩
    rcases hi.own.2 with ⟨q, _⟩ | ⟨g, cap, cur, q, _, hh, _⟩
    · rw [q] at hb; cases hb
    · rw [q] at hb; cases hb
      exact own_typeJ r hh (by decide) e
theorem Tg.grow2 {st sz : Nat} {w w5 : World} {G : Nat → Prop} {tw db : Nat} {ov wv : Value} {os : List Nat} {xs : List It} {o : Obj} (h : Tg w G tw db st sz ov wv os xs) (hg : (w.alloc o).grownBy w5 wv.ownBlock) : w5.heap[tw]? = some (.cells #[.pointer (some ⟨db, 0, none⟩), .int .i64 (st : Nat), .int .i64 (sz : Nat), ov, wv] 42) := by
  have t : Turns (fun i => wv.ownBlock = some i) w w5 := (Turns.alloc _ w o).trans (Turns.grown hg (fun b hb => hb)) (fun _ _ e => e)
  exact (t.block tw (heap_lt h.box) (own_typeJ h.x.row h.box (by decide))).trans h.box
theorem Tg.out {st sz : Nat} {w w5 : World} {G : Nat → Prop} {tw db L g5 c5 b : Nat} {ov wv : Value} {os : List Nat} {xs : List It} {o : Obj} (h : Tg w G tw db st sz ov wv os xs) (hL : os.length = L) (hGl : ∀ i, G i → i < w.heap.size) (ho : w5.ownsRow 0 3 1 (.slice (some ⟨g5, 0, none⟩) (L + 1) c5) (L + 1) ((os.map fun x => Value.int .i64 (x : Nat)) ++ [.int .i64 (b : Nat)])) (hg : (w.alloc o).grownBy w5 ov.ownBlock) (hat : ov.ownBlock = some g5 ∨ g5 = (w.alloc o).heap.size) :
    Tg (w5.setCell ⟨tw, 3, none⟩ (.slice (some ⟨g5, 0, none⟩) (L + 1) c5)) G tw db st sz (.slice (some ⟨g5, 0, none⟩) (L + 1) c5) wv (os ++ [b]) xs ∧ Turns (fun i => i = tw ∨ ov.ownBlock = some i) w (w5.setCell ⟨tw, 3, none⟩ (.slice (some ⟨g5, 0, none⟩) (L + 1) c5)) := by
  have t : Turns (fun i => ov.ownBlock = some i) w w5 := (Turns.alloc _ w o).trans (Turns.grown hg (fun b hb => hb)) (fun _ _ e => e)
  have T5 := h.grow1 (heap_lt h.box) h.o.row hg
  have u := Turns.cell w5 tw 3 (.slice (some ⟨g5, 0, none⟩) (L + 1) c5)
  have hs : (w.alloc o).heap.size = w.heap.size + 1 := by simp
  refine ⟨⟨heap_setCell_same _ tw 3 _ _ _ T5.box, ⟨?_, fun b hb => ?_⟩, T5.x.turn1 T5.box (by decide) (by decide) u, h.gt⟩, (t.mono (fun _ _ e => Or.inr e)).trans u (fun _ _ e => Or.inl e)⟩
  · rw [List.length_append, hL, List.map_append]
    exact own_turn1 ho T5.box (by decide) u
  · cases hb
    rcases hat with e | e
    · exact h.o.gr g5 e
    · exact fun r => by have := hGl g5 r; omega
theorem Tg.want {st sz : Nat} {w w5 : World} {G : Nat → Prop} {tw db L g5 c5 : Nat} {ov wv : Value} {os : List Nat} {xs : List It} {x : It} {o : Obj} (h : Tg w G tw db st sz ov wv os xs) (hL : xs.length = L) (hx : ItOk w G x) (hGl : ∀ i, G i → i < w.heap.size) (ho : w5.ownsRow 0 56 1 (.slice (some ⟨g5, 0, none⟩) (L + 1) c5) (L + 1) (xs.map It.val ++ [x.val])) (hg : (w.alloc o).grownBy w5 wv.ownBlock) (hat : wv.ownBlock = some g5 ∨ g5 = (w.alloc o).heap.size) :
    Tg (w5.setCell ⟨tw, 4, none⟩ (.slice (some ⟨g5, 0, none⟩) (L + 1) c5)) G tw db st sz ov (.slice (some ⟨g5, 0, none⟩) (L + 1) c5) os (xs ++ [x]) ∧ Turns (fun i => i = tw ∨ wv.ownBlock = some i) w (w5.setCell ⟨tw, 4, none⟩ (.slice (some ⟨g5, 0, none⟩) (L + 1) c5)) := by
  have t : Turns (fun i => wv.ownBlock = some i) w w5 := (Turns.alloc _ w o).trans (Turns.grown hg (fun b hb => hb)) (fun _ _ e => e)
  have X5 := h.grow2 hg
  have u := Turns.cell w5 tw 4 (.slice (some ⟨g5, 0, none⟩) (L + 1) c5)
  have hs : (w.alloc o).heap.size = w.heap.size + 1 := by simp
  have hit : ∀ y, ItOk w G y → ItOk (w5.setCell ⟨tw, 4, none⟩ (.slice (some ⟨g5, 0, none⟩) (L + 1) c5)) G y := fun y hy => by
    refine ItOk.turn1 (w := w5) ⟨own_turns hy.own t (fun b hb e => ?_), hy.ng, hy.by_⟩ X5 (by decide) u
    rcases hy.own.2 with ⟨q, _⟩ | ⟨g, cap, cur, q, _, hh, _⟩
    · rw [q] at hb; cases hb
    · rw [q] at hb; cases hb
      exact own_typeJ h.x.row hh (by decide) e
  have hos : w5.ownsRow 0 3 1 ov os.length (os.map fun x => Value.int .i64 (x : Nat)) := own_turns h.o.row t (fun b hb e => by
    rcases h.o.row.2 with ⟨q, _⟩ | ⟨g, cap, cur, q, _, hh, _⟩
    · rw [q] at hb; cases hb
    · rw [q] at hb; cases hb
      exact own_typeJ h.x.row hh (by decide) e)
  refine ⟨⟨heap_setCell_same _ tw 4 _ _ _ X5, ⟨own_turn1 hos X5 (by decide) u, h.o.gr⟩, ⟨?_, fun b hb => ?_, fun y hy => ?_⟩, h.gt⟩, (t.mono (fun _ _ e => Or.inr e)).trans u (fun _ _ e => Or.inl e)⟩
  · rw [List.length_append, hL, List.map_append]
    exact own_turn1 ho X5 (by decide) u
  · cases hb
    rcases hat with e | e
    · exact h.x.gr g5 e
    · exact fun r => by have := hGl g5 r; omega
  · rcases List.mem_append.1 hy with hy | hy
    · exact hit y (h.x.it y hy)
    · simp at hy; subst hy; exact hit y hx
/-- What a round of town leaves. -/
def TRg (w : World) (G : Nat → Prop) (tw db k st sz b : Nat) (wr : World) : Prop := ∃ (ov wv : Value) (xs : List It), Dev wr db 0 (FK k st sz) k sz G ∧ Tg wr G tw db st sz ov wv (og st sz b) xs ∧ xs.length = (og st sz b).length ∧ (∀ x ∈ xs, x.bs = zB) ∧ (∀ c, ov.ownBlock = some c → w.heap.size ≤ c) ∧ (∀ c, wv.ownBlock = some c → w.heap.size ≤ c) ∧ Below w.heap.size w wr
theorem town_endg {k st sz : Nat} {w w4 W6 w7 w8 : World} {G : Nat → Prop} {tw db b L g5 c5 g7 c7 g8 c8 : Nat} {ov wv : Value} {xs : List It} {o4 o7' : Obj} (D : Dev w4 db 0 (FK k st sz) k sz G) (T : Tg w4 G tw db st sz ov wv (og st sz b) xs) (B : Below w.heap.size w w4) (ltw : w.heap.size ≤ tw) (lo : ∀ c, ov.ownBlock = some c → w.heap.size ≤ c) (lw : ∀ c, wv.ownBlock = some c → w.heap.size ≤ c) (ho : outBg st sz b = true) (hl : (og st sz b).length = L) (hxl : xs.length = L) (hxz : ∀ x ∈ xs, x.bs = zB) (hat5 : ov.ownBlock = some g5 ∨ g5 = (w4.alloc o4).heap.size)
    (T6 : Tg W6 G tw db st sz (.slice (some ⟨g5, 0, none⟩) (L + 1) c5) wv (og st sz b ++ [b]) xs) (t6 : Turns (fun i => i = tw ∨ ov.ownBlock = some i) w4 W6) (o7 : B512 w7 W6.drew.heap.size (.slice (some ⟨g7, 0, none⟩) 512 c7) (blkB [])) (b7 : Below W6.heap.size W6 w7)
    (ho8 : w8.ownsRow 0 56 1 (.slice (some ⟨g8, 0, none⟩) (L + 1) c8) (L + 1) (xs.map It.val ++ [.slice (some ⟨g7, 0, none⟩) 512 c7])) (hg8 : (w7.alloc o7').grownBy w8 wv.ownBlock) (hat8 : wv.ownBlock = some g8 ∨ g8 = (w7.alloc o7').heap.size) :
    TRg w G tw db k st sz (b + 1) (w8.setCell ⟨tw, 4, none⟩ (.slice (some ⟨g8, 0, none⟩) (L + 1) c8)) := by
  have hz : blkB [] = zB := by simp [blkB, zB]
  rw [hz] at o7
  have s4 := B.size
  have s6 := t6.size
  have s7 := b7.size
  have hG4 := D.lt
  have D6 : Dev W6 db 0 (FK k st sz) k sz G := D.turns t6 (fun i gi => by
    rintro (rfl | e)
    · exact T.gt gi
    · exact T.o.gr i e gi)
  have D7 := D6.below b7
  have hG7 := D7.lt
  have hg7 : W6.heap.size ≤ g7 := by
    rcases o7.2 with ⟨q, _⟩ | ⟨g, cap, cur, q, hb, _⟩
    · cases q
    · cases q; exact hb
  have I7 : ItOk w7 G ⟨g7, c7, zB⟩ := ⟨own_zero o7, fun r => by have := D6.lt g7 r; omega, zB_by⟩
  have T7 := T6.kp (Kp.below b7)
  obtain ⟨T9, t9⟩ := T7.want hxl I7 hG7 ho8 hg8 hat8
  have hs4 : (w4.alloc o4).heap.size = w4.heap.size + 1 := by simp
  have hs7 : (w7.alloc o7').heap.size = w7.heap.size + 1 := by simp
  have e : og st sz (b + 1) = og st sz b ++ [b] := by rw [og_succ, ho]; rfl
  have B7 : Below w.heap.size w w7 := (B.trans (t6.below (fun i hi => by
    rcases hi with rfl | e
    · exact ltw
    · exact lo i e) s4)).trans (b7.mono (by omega))
  refine ⟨_, _, xs ++ [⟨g7, c7, zB⟩], D7.turns t9 (fun i gi => by
    rintro (rfl | e)
    · exact T.gt gi
    · exact T.x.gr i e gi), by rw [e]; exact T9, by rw [e]; simp [hxl, hl], fun x hx => ?_, fun c hc => ?_, fun c hc => ?_, B7.trans (t9.below (fun i hi => by
    rcases hi with rfl | e
    · exact ltw
    · exact lw i e) (by omega))⟩
  · rcases List.mem_append.1 hx with hx | hx
    · exact hxz x hx
    · simp at hx; subst hx; rfl
  · have hc : some g5 = some c := hc
    cases hc
    rcases hat5 with e | e
    · exact lo _ e
    · omega
  · have hc : some g8 = some c := hc
    cases hc
    rcases hat8 with e | e
    · exact lw _ e
    · omega
set_option maxHeartbeats 4000000 in
theorem town_good (w : World) (k st sz : Nat) (hk1 : 30 ≤ k) (hk2 : k ≤ 200) (hs1 : 27 ≤ sz) (hs2 : sz ≤ k - 1) (hs3 : st ≤ k - sz) :
    Calls Tryz.prog 10 #[.int .i64 (k : Nat), .int .i64 (st : Nat), .int .i64 (sz : Nat)] w fun e w' => ∃ tw db N G ov wv xs, e = .returned (.tuple #[.pointer (some ⟨tw, 0, none⟩), .bool true]) ∧ Dev w' db 0 (FK k st sz) k N G ∧ N ≤ 1000 ∧ (∀ i, G i → w.heap.size ≤ i) ∧ Tg w' G tw db st sz ov wv (og st sz k) xs ∧ xs.length = (og st sz k).length ∧ (∀ x ∈ xs, x.bs = zB) ∧ w.heap.size ≤ tw ∧ (∀ b, ov.ownBlock = some b → w.heap.size ≤ b) ∧ Below w.heap.size w w' := by
  obtain ⟨i0, hi, hz0, hz1, hz2⟩ := info_parts Tryz.info3
  obtain ⟨i1, ki, kz0, kz1, kz2⟩ := info_parts Tryz.infoS7
  have n1 : ¬ (k : Int) < 30 := by omega
  have n2 : ¬ (200 : Int) < k := by omega
  have n3 : ¬ (st : Int) < 0 := by omega
  have n4 : ¬ (sz : Int) < 27 := by omega
  have n5 : ¬ (k : Int) - 1 < sz := by omega
  have n6 : ¬ (k : Int) - sz < st := by omega
  have hss : IntKind.i64.wrap ((st : Int) + sz) = st + sz := Go.IntWalk.i64_in _ ⟨by omega, by omega⟩
  go_enter Tryz.func10, Tryz.ntmps10
  go_wp2_with fail
  refine (new_good k w (by omega) (by omega)).mono ?_
  rintro e w1 ⟨db, rfl, D1, b1⟩
  replace D1 : Dev w1 db 0 (fresh (List.replicate (512 * k) 0)) k 0 (grow (fun _ => False) w w1) := D1
  obtain ⟨W2, hW2⟩ : ∃ W, w1.alloc (.cells #[.pointer (some ⟨db, 0, none⟩), .int .i64 (st : Nat), .int .i64 (sz : Nat), .slice none 0 0, .slice none 0 0] 42) = W := ⟨_, rfl⟩
  have b2 : Below w1.heap.size w1 W2 := by rw [← hW2]; exact (Below.refl _ w1).alloc (Nat.le_refl _) _
  have s2 : W2.heap.size = w1.heap.size + 1 := by rw [← hW2]; simp
  have X2 : W2.heap[w1.heap.size]? = some (.cells #[.pointer (some ⟨db, 0, none⟩), .int .i64 (st : Nat), .int .i64 (sz : Nat), .slice none 0 0, .slice none 0 0] 42) := by rw [← hW2]; exact (MapKept.heap_alloc w1 _).1
  have D2 := D1.below b2
  obtain ⟨tw, htw⟩ : ∃ tw, w1.heap.size = tw := ⟨_, rfl⟩
  rw [htw] at X2
  have q0 : W2.cell? ⟨tw, 0, none⟩ = some (.pointer (some ⟨db, 0, none⟩)) := by simp [World.cell?, X2]
  go_wp2_with fail
  try rw [hW2]
  try rw [htw]
  refine (formatK D2 (by omega) hs1 (by omega)).mono ?_
  rintro e w3 ⟨rfl, D3, t3⟩
  rw [Nat.zero_add] at D3
  have sb1 := b1.size
  have f1 : ∀ i, grow (fun _ => False) w w1 i → w.heap.size ≤ i ∧ i < w1.heap.size := fun i hi => hi.elim False.elim (fun r => r)
  have X3 := (t3.block tw (heap_lt X2) (fun r => by have := f1 tw r; omega)).trans X2
  have b02 : Below w.heap.size w W2 := b1.trans (b2.mono b1.size)
  have B3 : Below w.heap.size w w3 := b02.trans (t3.below (fun i r => (f1 i r).1) b02.size)
  have f3 : ∀ i, grow (grow (fun _ => False) w w1) W2 w3 i → w.heap.size ≤ i ∧ i ≠ tw := fun i hi => hi.elim (fun r => ⟨(f1 i r).1, by have := f1 i r; omega⟩) (fun r => ⟨by omega, by omega⟩)
  generalize grow (grow (fun _ => False) w w1) W2 w3 = G at D3 f3
  have hGl := D3.lt
  have T3 : Tg w3 G tw db st sz (.slice none 0 0) (.slice none 0 0) (og st sz 0) [] := ⟨X3, ⟨⟨rfl, Or.inl ⟨rfl, rfl⟩⟩, (fun b hb => by cases hb)⟩, ⟨⟨rfl, Or.inl ⟨rfl, rfl⟩⟩, (fun b hb => by cases hb), (fun x hx => by cases hx)⟩, fun r => (f3 tw r).2 rfl⟩
  have ltw : w.heap.size ≤ tw := by omega
  clear D1 D2 t3 q0 X2 X3 hW2 f1
  go_wp2_with fail
  go_loopw [10] (fun i wr => ∃ (b : Nat), b ≤ k ∧ i = .int .i64 b ∧ TRg w G tw db k st sz b wr) (fun i _ => k - (intOf i).toNat)
  case atStart => exact ⟨0, by omega, rfl, _, _, [], D3, T3, rfl, (fun x hx => by cases hx), (fun c hc => by cases hc), (fun c hc => by cases hc), B3⟩
  case round =>
    clear D3 T3 B3
    obtain ⟨b, hb, rfl, ov, wv, xs, D, T, hxl, hxz, lo, lw, B⟩ := hrel
    obtain ⟨w4, hw4⟩ : ∃ w4, w4 = wr := ⟨wr, rfl⟩
    subst hw4
    by_cases hlt : b < k
    · have hbi : (b : Int) < k := by omega
      by_cases ho : outBg st sz b = true
      · have y3 : w4.cell? ⟨tw, 3, none⟩ = some ov := by simp [World.cell?, T.box]
        have y4 : w4.cell? ⟨tw, 4, none⟩ = some wv := by simp [World.cell?, T.box]
        have r3 := T.o.row
        have ol := og_le st sz b
        have s4 := B.size
        have tl := heap_lt T.box
        have hD4 := D.lt
        obtain ⟨L, hL⟩ : ∃ L, (og st sz b).length = L := ⟨_, rfl⟩
        have HL : Hid ((og st sz b).length = L) := hL
        rw [hL] at r3 ol hxl
        clear hL
        by_cases hb2 : b < st
        · have hb2i : (b : Int) < st := by omega
          go_wp2_with (first
            | (at_builtin; refine wpList_append_lies _ rfl _ _ 40 rfl 0 3 i0 (.int .i64 0) 1 8 Tryz.underlying40 hi hz0 hz1 hz2 rfl (by decide) ov L _ rfl (r3.alloc _) ⟨w4.heap.size, 0, none⟩ 1 1 [.int .i64 (b : Nat)] rfl rfl (cell_one7 _ _ _) (by intro u hu; simp at hu; subst hu; rfl) (by decide) (by unfold maxLen; omega) (by omega) (by omega) _ rfl ?_; intro g5 c5 w5 ho5 hg5 hat5 hlt5; have T5 := T.grow1 tl r3 hg5; have z3 : w5.cell? ⟨tw, 3, none⟩ = some ov := by { simp [World.cell?, T5.box] }; have zf : w5.frozen? ⟨tw, 3, none⟩ = false := by { simp [World.frozen?, T5.box] }))
          have hN6 := T.out HL.out D.lt ho5 hg5 hat5
          obtain ⟨W6, hW6⟩ : ∃ W6, w5.setCell ⟨tw, 3, none⟩ (.slice (some ⟨g5, 0, none⟩) (L + 1) c5) = W6 := ⟨_, rfl⟩
          rw [hW6] at hN6
          try rw [hW6]
          obtain ⟨T6, t6⟩ := hN6
          have y4d : W6.drew.cell? ⟨tw, 4, none⟩ = some wv := by
            have : W6.drew.heap[tw]? = _ := T6.box
            simp [World.cell?, this]
          clear z3 zf T5 y3 y4
          refine wp_region_held_drew (S := fun _ => True) (by kernel_rfl) trivial (fun hHeld => ?_)
          clear hHeld
          refine wpAnyH_take (i := 0) (oi := ⟨some 81, .move (.tmp 8), 25, "free.go:45", #[], none⟩) (v := (.pointer (some ⟨tw, 0, none⟩))) rfl (by kernel_rfl) (by kernel_rfl) (by kernel_rfl) (fun _ _ _ h => h) (Or.inl ⟨by rfl, fun _ _ => by rfl⟩) trivial ?_
          simp only [Act.put, List.setIfInBounds_toArray, List.set_cons_zero, List.set_cons_succ]
          refine wpAnyH_take (i := 1) (oi := ⟨some 82, .move (.tmp 8), 25, "free.go:45", #[], none⟩) (v := (.pointer (some ⟨tw, 0, none⟩))) rfl (by kernel_rfl) (by kernel_rfl) (by kernel_rfl) (fun _ _ _ h => h) (Or.inl ⟨by rfl, fun _ _ => by rfl⟩) trivial ?_
          simp only [Act.put, List.setIfInBounds_toArray, List.set_cons_zero, List.set_cons_succ]
          refine wpAnyH_take (i := 2) (oi := ⟨some 83, .nilCheck (.tmp 82), 0, "free.go:45", #[⟨1, .data⟩], none⟩) (v := (.pointer (some ⟨tw, 0, none⟩))) rfl (by kernel_rfl) (by kernel_rfl) (by kernel_rfl) (fun _ _ _ h => h) (Or.inl ⟨by rfl, fun _ _ => by rfl⟩) trivial ?_
          simp only [Act.put, List.setIfInBounds_toArray, List.set_cons_zero, List.set_cons_succ]
          refine wpAnyH_take (i := 3) (oi := ⟨some 84, .fieldAddr 42 (.tmp 83) 4, 0, "free.go:45", #[⟨2, .data⟩], none⟩) (v := (.pointer (some ⟨tw, 4, none⟩))) rfl (by kernel_rfl) (by kernel_rfl) (by kernel_rfl) (fun _ _ _ h => h) (Or.inl ⟨by rfl, fun _ _ => by rfl⟩) trivial ?_
          simp only [Act.put, List.setIfInBounds_toArray, List.set_cons_zero, List.set_cons_succ]
          refine wpAnyH_ready (rs := [4, 5]) (by kernel_rfl) (by simp) ?_
          refine AllReadyH.cons (o := ⟨some 85, .load 33 (.tmp 84), 33, "free.go:45", #[⟨3, .data⟩], none⟩) rfl (fun KK hK => ?_) (AllReadyH.cons (o := ⟨some 86, .call ⟨.value (.func 28), #[.const (.slice none 0 0)], #[56]⟩, 56, "free.go:45", #[], none⟩) rfl (fun KK hK => ?_) (AllReadyH.nil))
          · go_simp
            refine hK.out _ _ trivial (fun hHeld => ?_)
            clear hK KK hHeld
            try simp only [Act.put, List.setIfInBounds_toArray, List.set_cons_zero, List.set_cons_succ]
            refine wpAnyH_ready (rs := [5]) (by kernel_rfl) (by simp) ?_
            refine AllReadyH.cons (o := ⟨some 86, .call ⟨.value (.func 28), #[.const (.slice none 0 0)], #[56]⟩, 56, "free.go:45", #[], none⟩) rfl (fun KK hK => ?_) (AllReadyH.nil)
            go_simp
            refine (block7 none 0 0 [] W6.drew (by omega) (Lies.nil _)).mono ?_
            rintro e w7 ⟨g7, c7, rfl, o7, b7⟩
            replace b7 := Below.fromDrew b7
            have T7 := T6.kp (Kp.below b7)
            have u4 : w7.cell? ⟨tw, 4, none⟩ = some wv := by simp [World.cell?, T7.box]
            have u4a : ∀ o, (w7.alloc o).cell? ⟨tw, 4, none⟩ = some wv := fun o => by
              have := (Below.heap_alloc w7 o tw (heap_lt T7.box)).trans T7.box
              simp [World.cell?, this]
            go_wp2_with fail
            refine hK.out _ _ trivial (fun hHeld => ?_)
            clear hK KK hHeld
            try simp only [Act.put, List.setIfInBounds_toArray, List.set_cons_zero, List.set_cons_succ]
            refine wpAnyH_ready (rs := [6]) (by kernel_rfl) (by simp) ?_
            refine AllReadyH.cons (o := ⟨some 87, .buildSlice 33 1 #[(0, .tmp 86)], 33, "free.go:45", #[⟨5, .data⟩], none⟩) rfl (fun KK hK => ?_) (AllReadyH.nil)
            go_simp
            refine hK.out _ _ trivial (fun hHeld => ?_)
            clear hK KK hHeld
            try simp only [Act.put, List.setIfInBounds_toArray, List.set_cons_zero, List.set_cons_succ]
            refine wpAnyH_ready (rs := [7]) (by kernel_rfl) (by simp) ?_
            refine AllReadyH.cons (o := ⟨some 88, .call ⟨.builtin .append, #[.tmp 85, .tmp 87], #[33, 33]⟩, 33, "free.go:45", #[⟨4, .data⟩, ⟨6, .data⟩, ⟨5, .chain⟩], none⟩) rfl (fun KK hK => ?_) (AllReadyH.nil)
            have rw7 : w7.ownsRow 0 56 1 wv L (xs.map It.val) := by
              have := T7.x.row
              rwa [hxl] at this
            refine step_append_lies _ rfl _ _ 33 rfl 0 56 i1 (.slice none 0 0) 1 24 Tryz.underlying33 ki kz0 kz1 kz2 rfl (by decide) wv L _ rfl (rw7.alloc _) ⟨w7.heap.size, 0, none⟩ 1 1 [.slice (some ⟨g7, 0, none⟩) 512 c7] rfl rfl (cell_one7 _ _ _) (by intro u hu; simp at hu; subst hu; rfl) (by decide) (by unfold maxLen; omega) (by omega) (by omega) _ rfl ?_
            intro g8 c8 w8 ho8 hg8 hat8 hlt8
            have X8 := T7.grow2 hg8
            have z4 : w8.cell? ⟨tw, 4, none⟩ = some wv := by simp [World.cell?, X8]
            have zf8 : w8.frozen? ⟨tw, 4, none⟩ = false := by simp [World.frozen?, X8]
            refine hK.out _ _ trivial (fun hHeld => ?_)
            clear hK KK hHeld
            try simp only [Act.put, List.setIfInBounds_toArray, List.set_cons_zero, List.set_cons_succ]
            refine wpAnyH_take (i := 8) (oi := ⟨some 89, .nilCheck (.tmp 81), 0, "free.go:45", #[⟨0, .data⟩, ⟨0, .phase⟩, ⟨1, .phase⟩, ⟨2, .phase⟩, ⟨3, .phase⟩, ⟨4, .phase⟩, ⟨5, .phase⟩, ⟨6, .phase⟩, ⟨7, .phase⟩], none⟩) (v := (.pointer (some ⟨tw, 0, none⟩))) rfl (by kernel_rfl) (by kernel_rfl) (by kernel_rfl) (fun _ _ _ h => h) (Or.inl ⟨by rfl, fun _ _ => by rfl⟩) trivial ?_
            simp only [Act.put, List.setIfInBounds_toArray, List.set_cons_zero, List.set_cons_succ]
            refine wpAnyH_take (i := 9) (oi := ⟨some 90, .fieldAddr 42 (.tmp 89) 4, 0, "free.go:45", #[⟨8, .data⟩, ⟨0, .phase⟩, ⟨1, .phase⟩, ⟨2, .phase⟩, ⟨3, .phase⟩, ⟨4, .phase⟩, ⟨5, .phase⟩, ⟨6, .phase⟩, ⟨7, .phase⟩], none⟩) (v := (.pointer (some ⟨tw, 4, none⟩))) rfl (by kernel_rfl) (by kernel_rfl) (by kernel_rfl) (fun _ _ _ h => h) (Or.inl ⟨by rfl, fun _ _ => by rfl⟩) trivial ?_
            simp only [Act.put, List.setIfInBounds_toArray, List.set_cons_zero, List.set_cons_succ]
            refine wpAnyH_ready (rs := [10]) (by kernel_rfl) (by simp) ?_
            refine AllReadyH.cons (o := ⟨none, .store 33 (.tmp 90) (.tmp 88), 0, "free.go:45", #[⟨9, .data⟩, ⟨7, .data⟩, ⟨7, .chain⟩, ⟨0, .phase⟩, ⟨1, .phase⟩, ⟨2, .phase⟩, ⟨3, .phase⟩, ⟨4, .phase⟩, ⟨5, .phase⟩, ⟨6, .phase⟩, ⟨7, .phase⟩], none⟩) rfl (fun KK hK => ?_) (AllReadyH.nil)
            go_simp
            refine hK.out _ _ trivial (fun hHeld => ?_)
            clear hK KK hHeld
            try simp only [Act.put, List.setIfInBounds_toArray, List.set_cons_zero, List.set_cons_succ]
            refine wpAnyH_done (by kernel_rfl) ?_ _
            have HE := town_endg D T B ltw lo lw ho HL.out hxl hxz hat5 T6 t6 o7 b7 ho8 hg8 hat8
            obtain ⟨W9, hW9⟩ : ∃ W9, w8.setCell ⟨tw, 4, none⟩ (.slice (some ⟨g8, 0, none⟩) (L + 1) c8) = W9 := ⟨_, rfl⟩
            rw [hW9] at HE
            try rw [hW9]
            clear hW9 z4 zf8 X8 ho8 hg8 hat8 hlt8 rw7 u4 u4a T7 o7 b7 T6 t6 hW6 y4d ho5 hg5 hat5 hlt5 T D
            go_wp2_with fail
            go_roundw
            case rel => exact ⟨b + 1, by omega, by simp, HE⟩
            case measure => simp [intOf]; omega
          · go_simp
            refine (block7 none 0 0 [] W6.drew (by omega) (Lies.nil _)).mono ?_
            rintro e w7 ⟨g7, c7, rfl, o7, b7⟩
            replace b7 := Below.fromDrew b7
            have T7 := T6.kp (Kp.below b7)
            have u4 : w7.cell? ⟨tw, 4, none⟩ = some wv := by simp [World.cell?, T7.box]
            have u4a : ∀ o, (w7.alloc o).cell? ⟨tw, 4, none⟩ = some wv := fun o => by
              have := (Below.heap_alloc w7 o tw (heap_lt T7.box)).trans T7.box
              simp [World.cell?, this]
            go_wp2_with fail
            refine hK.out _ _ trivial (fun hHeld => ?_)
            clear hK KK hHeld
            try simp only [Act.put, List.setIfInBounds_toArray, List.set_cons_zero, List.set_cons_succ]
            refine wpAnyH_ready (rs := [4, 6]) (by kernel_rfl) (by simp) ?_
            refine AllReadyH.cons (o := ⟨some 85, .load 33 (.tmp 84), 33, "free.go:45", #[⟨3, .data⟩], none⟩) rfl (fun KK hK => ?_) (AllReadyH.cons (o := ⟨some 87, .buildSlice 33 1 #[(0, .tmp 86)], 33, "free.go:45", #[⟨5, .data⟩], none⟩) rfl (fun KK hK => ?_) (AllReadyH.nil))
            · go_simp
              refine hK.out _ _ trivial (fun hHeld => ?_)
              clear hK KK hHeld
              try simp only [Act.put, List.setIfInBounds_toArray, List.set_cons_zero, List.set_cons_succ]
              refine wpAnyH_ready (rs := [6]) (by kernel_rfl) (by simp) ?_
              refine AllReadyH.cons (o := ⟨some 87, .buildSlice 33 1 #[(0, .tmp 86)], 33, "free.go:45", #[⟨5, .data⟩], none⟩) rfl (fun KK hK => ?_) (AllReadyH.nil)
              go_simp
              refine hK.out _ _ trivial (fun hHeld => ?_)
              clear hK KK hHeld
              try simp only [Act.put, List.setIfInBounds_toArray, List.set_cons_zero, List.set_cons_succ]
              refine wpAnyH_ready (rs := [7]) (by kernel_rfl) (by simp) ?_
              refine AllReadyH.cons (o := ⟨some 88, .call ⟨.builtin .append, #[.tmp 85, .tmp 87], #[33, 33]⟩, 33, "free.go:45", #[⟨4, .data⟩, ⟨6, .data⟩, ⟨5, .chain⟩], none⟩) rfl (fun KK hK => ?_) (AllReadyH.nil)
              have rw7 : w7.ownsRow 0 56 1 wv L (xs.map It.val) := by
                have := T7.x.row
                rwa [hxl] at this
              refine step_append_lies _ rfl _ _ 33 rfl 0 56 i1 (.slice none 0 0) 1 24 Tryz.underlying33 ki kz0 kz1 kz2 rfl (by decide) wv L _ rfl (rw7.alloc _) ⟨w7.heap.size, 0, none⟩ 1 1 [.slice (some ⟨g7, 0, none⟩) 512 c7] rfl rfl (cell_one7 _ _ _) (by intro u hu; simp at hu; subst hu; rfl) (by decide) (by unfold maxLen; omega) (by omega) (by omega) _ rfl ?_
              intro g8 c8 w8 ho8 hg8 hat8 hlt8
              have X8 := T7.grow2 hg8
              have z4 : w8.cell? ⟨tw, 4, none⟩ = some wv := by simp [World.cell?, X8]
              have zf8 : w8.frozen? ⟨tw, 4, none⟩ = false := by simp [World.frozen?, X8]
              refine hK.out _ _ trivial (fun hHeld => ?_)
              clear hK KK hHeld
              try simp only [Act.put, List.setIfInBounds_toArray, List.set_cons_zero, List.set_cons_succ]
              refine wpAnyH_take (i := 8) (oi := ⟨some 89, .nilCheck (.tmp 81), 0, "free.go:45", #[⟨0, .data⟩, ⟨0, .phase⟩, ⟨1, .phase⟩, ⟨2, .phase⟩, ⟨3, .phase⟩, ⟨4, .phase⟩, ⟨5, .phase⟩, ⟨6, .phase⟩, ⟨7, .phase⟩], none⟩) (v := (.pointer (some ⟨tw, 0, none⟩))) rfl (by kernel_rfl) (by kernel_rfl) (by kernel_rfl) (fun _ _ _ h => h) (Or.inl ⟨by rfl, fun _ _ => by rfl⟩) trivial ?_
              simp only [Act.put, List.setIfInBounds_toArray, List.set_cons_zero, List.set_cons_succ]
              refine wpAnyH_take (i := 9) (oi := ⟨some 90, .fieldAddr 42 (.tmp 89) 4, 0, "free.go:45", #[⟨8, .data⟩, ⟨0, .phase⟩, ⟨1, .phase⟩, ⟨2, .phase⟩, ⟨3, .phase⟩, ⟨4, .phase⟩, ⟨5, .phase⟩, ⟨6, .phase⟩, ⟨7, .phase⟩], none⟩) (v := (.pointer (some ⟨tw, 4, none⟩))) rfl (by kernel_rfl) (by kernel_rfl) (by kernel_rfl) (fun _ _ _ h => h) (Or.inl ⟨by rfl, fun _ _ => by rfl⟩) trivial ?_
              simp only [Act.put, List.setIfInBounds_toArray, List.set_cons_zero, List.set_cons_succ]
              refine wpAnyH_ready (rs := [10]) (by kernel_rfl) (by simp) ?_
              refine AllReadyH.cons (o := ⟨none, .store 33 (.tmp 90) (.tmp 88), 0, "free.go:45", #[⟨9, .data⟩, ⟨7, .data⟩, ⟨7, .chain⟩, ⟨0, .phase⟩, ⟨1, .phase⟩, ⟨2, .phase⟩, ⟨3, .phase⟩, ⟨4, .phase⟩, ⟨5, .phase⟩, ⟨6, .phase⟩, ⟨7, .phase⟩], none⟩) rfl (fun KK hK => ?_) (AllReadyH.nil)
              go_simp
              refine hK.out _ _ trivial (fun hHeld => ?_)
              clear hK KK hHeld
              try simp only [Act.put, List.setIfInBounds_toArray, List.set_cons_zero, List.set_cons_succ]
              refine wpAnyH_done (by kernel_rfl) ?_ _
              have HE := town_endg D T B ltw lo lw ho HL.out hxl hxz hat5 T6 t6 o7 b7 ho8 hg8 hat8
              obtain ⟨W9, hW9⟩ : ∃ W9, w8.setCell ⟨tw, 4, none⟩ (.slice (some ⟨g8, 0, none⟩) (L + 1) c8) = W9 := ⟨_, rfl⟩
              rw [hW9] at HE
              try rw [hW9]
              clear hW9 z4 zf8 X8 ho8 hg8 hat8 hlt8 rw7 u4 u4a T7 o7 b7 T6 t6 hW6 y4d ho5 hg5 hat5 hlt5 T D
              go_wp2_with fail
              go_roundw
              case rel => exact ⟨b + 1, by omega, by simp, HE⟩
              case measure => simp [intOf]; omega
            · go_simp
              refine hK.out _ _ trivial (fun hHeld => ?_)
              clear hK KK hHeld
              try simp only [Act.put, List.setIfInBounds_toArray, List.set_cons_zero, List.set_cons_succ]
              refine wpAnyH_ready (rs := [4]) (by kernel_rfl) (by simp) ?_
              refine AllReadyH.cons (o := ⟨some 85, .load 33 (.tmp 84), 33, "free.go:45", #[⟨3, .data⟩], none⟩) rfl (fun KK hK => ?_) (AllReadyH.nil)
              go_simp
              refine hK.out _ _ trivial (fun hHeld => ?_)
              clear hK KK hHeld
              try simp only [Act.put, List.setIfInBounds_toArray, List.set_cons_zero, List.set_cons_succ]
              refine wpAnyH_ready (rs := [7]) (by kernel_rfl) (by simp) ?_
              refine AllReadyH.cons (o := ⟨some 88, .call ⟨.builtin .append, #[.tmp 85, .tmp 87], #[33, 33]⟩, 33, "free.go:45", #[⟨4, .data⟩, ⟨6, .data⟩, ⟨5, .chain⟩], none⟩) rfl (fun KK hK => ?_) (AllReadyH.nil)
              have rw7 : w7.ownsRow 0 56 1 wv L (xs.map It.val) := by
                have := T7.x.row
                rwa [hxl] at this
              refine step_append_lies _ rfl _ _ 33 rfl 0 56 i1 (.slice none 0 0) 1 24 Tryz.underlying33 ki kz0 kz1 kz2 rfl (by decide) wv L _ rfl (rw7.alloc _) ⟨w7.heap.size, 0, none⟩ 1 1 [.slice (some ⟨g7, 0, none⟩) 512 c7] rfl rfl (cell_one7 _ _ _) (by intro u hu; simp at hu; subst hu; rfl) (by decide) (by unfold maxLen; omega) (by omega) (by omega) _ rfl ?_
              intro g8 c8 w8 ho8 hg8 hat8 hlt8
              have X8 := T7.grow2 hg8
              have z4 : w8.cell? ⟨tw, 4, none⟩ = some wv := by simp [World.cell?, X8]
              have zf8 : w8.frozen? ⟨tw, 4, none⟩ = false := by simp [World.frozen?, X8]
              refine hK.out _ _ trivial (fun hHeld => ?_)
              clear hK KK hHeld
              try simp only [Act.put, List.setIfInBounds_toArray, List.set_cons_zero, List.set_cons_succ]
              refine wpAnyH_take (i := 8) (oi := ⟨some 89, .nilCheck (.tmp 81), 0, "free.go:45", #[⟨0, .data⟩, ⟨0, .phase⟩, ⟨1, .phase⟩, ⟨2, .phase⟩, ⟨3, .phase⟩, ⟨4, .phase⟩, ⟨5, .phase⟩, ⟨6, .phase⟩, ⟨7, .phase⟩], none⟩) (v := (.pointer (some ⟨tw, 0, none⟩))) rfl (by kernel_rfl) (by kernel_rfl) (by kernel_rfl) (fun _ _ _ h => h) (Or.inl ⟨by rfl, fun _ _ => by rfl⟩) trivial ?_
              simp only [Act.put, List.setIfInBounds_toArray, List.set_cons_zero, List.set_cons_succ]
              refine wpAnyH_take (i := 9) (oi := ⟨some 90, .fieldAddr 42 (.tmp 89) 4, 0, "free.go:45", #[⟨8, .data⟩, ⟨0, .phase⟩, ⟨1, .phase⟩, ⟨2, .phase⟩, ⟨3, .phase⟩, ⟨4, .phase⟩, ⟨5, .phase⟩, ⟨6, .phase⟩, ⟨7, .phase⟩], none⟩) (v := (.pointer (some ⟨tw, 4, none⟩))) rfl (by kernel_rfl) (by kernel_rfl) (by kernel_rfl) (fun _ _ _ h => h) (Or.inl ⟨by rfl, fun _ _ => by rfl⟩) trivial ?_
              simp only [Act.put, List.setIfInBounds_toArray, List.set_cons_zero, List.set_cons_succ]
              refine wpAnyH_ready (rs := [10]) (by kernel_rfl) (by simp) ?_
              refine AllReadyH.cons (o := ⟨none, .store 33 (.tmp 90) (.tmp 88), 0, "free.go:45", #[⟨9, .data⟩, ⟨7, .data⟩, ⟨7, .chain⟩, ⟨0, .phase⟩, ⟨1, .phase⟩, ⟨2, .phase⟩, ⟨3, .phase⟩, ⟨4, .phase⟩, ⟨5, .phase⟩, ⟨6, .phase⟩, ⟨7, .phase⟩], none⟩) rfl (fun KK hK => ?_) (AllReadyH.nil)
              go_simp
              refine hK.out _ _ trivial (fun hHeld => ?_)
              clear hK KK hHeld
              try simp only [Act.put, List.setIfInBounds_toArray, List.set_cons_zero, List.set_cons_succ]
              refine wpAnyH_done (by kernel_rfl) ?_ _
              have HE := town_endg D T B ltw lo lw ho HL.out hxl hxz hat5 T6 t6 o7 b7 ho8 hg8 hat8
              obtain ⟨W9, hW9⟩ : ∃ W9, w8.setCell ⟨tw, 4, none⟩ (.slice (some ⟨g8, 0, none⟩) (L + 1) c8) = W9 := ⟨_, rfl⟩
              rw [hW9] at HE
              try rw [hW9]
              clear hW9 z4 zf8 X8 ho8 hg8 hat8 hlt8 rw7 u4 u4a T7 o7 b7 T6 t6 hW6 y4d ho5 hg5 hat5 hlt5 T D
              go_wp2_with fail
              go_roundw
              case rel => exact ⟨b + 1, by omega, by simp, HE⟩
              case measure => simp [intOf]; omega
        · have h32 : st + sz ≤ b := by
            simp [outBg] at ho; omega
          have hb2i : ¬ (b : Int) < st := by omega
          have h32i : (st : Int) + sz ≤ b := by omega
          go_wp2_with (first
            | (at_builtin; refine wpList_append_lies _ rfl _ _ 40 rfl 0 3 i0 (.int .i64 0) 1 8 Tryz.underlying40 hi hz0 hz1 hz2 rfl (by decide) ov L _ rfl (r3.alloc _) ⟨w4.heap.size, 0, none⟩ 1 1 [.int .i64 (b : Nat)] rfl rfl (cell_one7 _ _ _) (by intro u hu; simp at hu; subst hu; rfl) (by decide) (by unfold maxLen; omega) (by omega) (by omega) _ rfl ?_; intro g5 c5 w5 ho5 hg5 hat5 hlt5; have T5 := T.grow1 tl r3 hg5; have z3 : w5.cell? ⟨tw, 3, none⟩ = some ov := by { simp [World.cell?, T5.box] }; have zf : w5.frozen? ⟨tw, 3, none⟩ = false := by { simp [World.frozen?, T5.box] }))
          have hN6 := T.out HL.out D.lt ho5 hg5 hat5
          obtain ⟨W6, hW6⟩ : ∃ W6, w5.setCell ⟨tw, 3, none⟩ (.slice (some ⟨g5, 0, none⟩) (L + 1) c5) = W6 := ⟨_, rfl⟩
          rw [hW6] at hN6
          try rw [hW6]
          obtain ⟨T6, t6⟩ := hN6
          have y4d : W6.drew.cell? ⟨tw, 4, none⟩ = some wv := by
            have : W6.drew.heap[tw]? = _ := T6.box
            simp [World.cell?, this]
          clear z3 zf T5 y3 y4
          refine wp_region_held_drew (S := fun _ => True) (by kernel_rfl) trivial (fun hHeld => ?_)
          clear hHeld
          refine wpAnyH_take (i := 0) (oi := ⟨some 81, .move (.tmp 8), 25, "free.go:45", #[], none⟩) (v := (.pointer (some ⟨tw, 0, none⟩))) rfl (by kernel_rfl) (by kernel_rfl) (by kernel_rfl) (fun _ _ _ h => h) (Or.inl ⟨by rfl, fun _ _ => by rfl⟩) trivial ?_
          simp only [Act.put, List.setIfInBounds_toArray, List.set_cons_zero, List.set_cons_succ]
          refine wpAnyH_take (i := 1) (oi := ⟨some 82, .move (.tmp 8), 25, "free.go:45", #[], none⟩) (v := (.pointer (some ⟨tw, 0, none⟩))) rfl (by kernel_rfl) (by kernel_rfl) (by kernel_rfl) (fun _ _ _ h => h) (Or.inl ⟨by rfl, fun _ _ => by rfl⟩) trivial ?_
          simp only [Act.put, List.setIfInBounds_toArray, List.set_cons_zero, List.set_cons_succ]
          refine wpAnyH_take (i := 2) (oi := ⟨some 83, .nilCheck (.tmp 82), 0, "free.go:45", #[⟨1, .data⟩], none⟩) (v := (.pointer (some ⟨tw, 0, none⟩))) rfl (by kernel_rfl) (by kernel_rfl) (by kernel_rfl) (fun _ _ _ h => h) (Or.inl ⟨by rfl, fun _ _ => by rfl⟩) trivial ?_
          simp only [Act.put, List.setIfInBounds_toArray, List.set_cons_zero, List.set_cons_succ]
          refine wpAnyH_take (i := 3) (oi := ⟨some 84, .fieldAddr 42 (.tmp 83) 4, 0, "free.go:45", #[⟨2, .data⟩], none⟩) (v := (.pointer (some ⟨tw, 4, none⟩))) rfl (by kernel_rfl) (by kernel_rfl) (by kernel_rfl) (fun _ _ _ h => h) (Or.inl ⟨by rfl, fun _ _ => by rfl⟩) trivial ?_
          simp only [Act.put, List.setIfInBounds_toArray, List.set_cons_zero, List.set_cons_succ]
          refine wpAnyH_ready (rs := [4, 5]) (by kernel_rfl) (by simp) ?_
          refine AllReadyH.cons (o := ⟨some 85, .load 33 (.tmp 84), 33, "free.go:45", #[⟨3, .data⟩], none⟩) rfl (fun KK hK => ?_) (AllReadyH.cons (o := ⟨some 86, .call ⟨.value (.func 28), #[.const (.slice none 0 0)], #[56]⟩, 56, "free.go:45", #[], none⟩) rfl (fun KK hK => ?_) (AllReadyH.nil))
          · go_simp
            refine hK.out _ _ trivial (fun hHeld => ?_)
            clear hK KK hHeld
            try simp only [Act.put, List.setIfInBounds_toArray, List.set_cons_zero, List.set_cons_succ]
            refine wpAnyH_ready (rs := [5]) (by kernel_rfl) (by simp) ?_
            refine AllReadyH.cons (o := ⟨some 86, .call ⟨.value (.func 28), #[.const (.slice none 0 0)], #[56]⟩, 56, "free.go:45", #[], none⟩) rfl (fun KK hK => ?_) (AllReadyH.nil)
            go_simp
            refine (block7 none 0 0 [] W6.drew (by omega) (Lies.nil _)).mono ?_
            rintro e w7 ⟨g7, c7, rfl, o7, b7⟩
            replace b7 := Below.fromDrew b7
            have T7 := T6.kp (Kp.below b7)
            have u4 : w7.cell? ⟨tw, 4, none⟩ = some wv := by simp [World.cell?, T7.box]
            have u4a : ∀ o, (w7.alloc o).cell? ⟨tw, 4, none⟩ = some wv := fun o => by
              have := (Below.heap_alloc w7 o tw (heap_lt T7.box)).trans T7.box
              simp [World.cell?, this]
            go_wp2_with fail
            refine hK.out _ _ trivial (fun hHeld => ?_)
            clear hK KK hHeld
            try simp only [Act.put, List.setIfInBounds_toArray, List.set_cons_zero, List.set_cons_succ]
            refine wpAnyH_ready (rs := [6]) (by kernel_rfl) (by simp) ?_
            refine AllReadyH.cons (o := ⟨some 87, .buildSlice 33 1 #[(0, .tmp 86)], 33, "free.go:45", #[⟨5, .data⟩], none⟩) rfl (fun KK hK => ?_) (AllReadyH.nil)
            go_simp
            refine hK.out _ _ trivial (fun hHeld => ?_)
            clear hK KK hHeld
            try simp only [Act.put, List.setIfInBounds_toArray, List.set_cons_zero, List.set_cons_succ]
            refine wpAnyH_ready (rs := [7]) (by kernel_rfl) (by simp) ?_
            refine AllReadyH.cons (o := ⟨some 88, .call ⟨.builtin .append, #[.tmp 85, .tmp 87], #[33, 33]⟩, 33, "free.go:45", #[⟨4, .data⟩, ⟨6, .data⟩, ⟨5, .chain⟩], none⟩) rfl (fun KK hK => ?_) (AllReadyH.nil)
            have rw7 : w7.ownsRow 0 56 1 wv L (xs.map It.val) := by
              have := T7.x.row
              rwa [hxl] at this
            refine step_append_lies _ rfl _ _ 33 rfl 0 56 i1 (.slice none 0 0) 1 24 Tryz.underlying33 ki kz0 kz1 kz2 rfl (by decide) wv L _ rfl (rw7.alloc _) ⟨w7.heap.size, 0, none⟩ 1 1 [.slice (some ⟨g7, 0, none⟩) 512 c7] rfl rfl (cell_one7 _ _ _) (by intro u hu; simp at hu; subst hu; rfl) (by decide) (by unfold maxLen; omega) (by omega) (by omega) _ rfl ?_
            intro g8 c8 w8 ho8 hg8 hat8 hlt8
            have X8 := T7.grow2 hg8
            have z4 : w8.cell? ⟨tw, 4, none⟩ = some wv := by simp [World.cell?, X8]
            have zf8 : w8.frozen? ⟨tw, 4, none⟩ = false := by simp [World.frozen?, X8]
            refine hK.out _ _ trivial (fun hHeld => ?_)
            clear hK KK hHeld
            try simp only [Act.put, List.setIfInBounds_toArray, List.set_cons_zero, List.set_cons_succ]
            refine wpAnyH_take (i := 8) (oi := ⟨some 89, .nilCheck (.tmp 81), 0, "free.go:45", #[⟨0, .data⟩, ⟨0, .phase⟩, ⟨1, .phase⟩, ⟨2, .phase⟩, ⟨3, .phase⟩, ⟨4, .phase⟩, ⟨5, .phase⟩, ⟨6, .phase⟩, ⟨7, .phase⟩], none⟩) (v := (.pointer (some ⟨tw, 0, none⟩))) rfl (by kernel_rfl) (by kernel_rfl) (by kernel_rfl) (fun _ _ _ h => h) (Or.inl ⟨by rfl, fun _ _ => by rfl⟩) trivial ?_
            simp only [Act.put, List.setIfInBounds_toArray, List.set_cons_zero, List.set_cons_succ]
            refine wpAnyH_take (i := 9) (oi := ⟨some 90, .fieldAddr 42 (.tmp 89) 4, 0, "free.go:45", #[⟨8, .data⟩, ⟨0, .phase⟩, ⟨1, .phase⟩, ⟨2, .phase⟩, ⟨3, .phase⟩, ⟨4, .phase⟩, ⟨5, .phase⟩, ⟨6, .phase⟩, ⟨7, .phase⟩], none⟩) (v := (.pointer (some ⟨tw, 4, none⟩))) rfl (by kernel_rfl) (by kernel_rfl) (by kernel_rfl) (fun _ _ _ h => h) (Or.inl ⟨by rfl, fun _ _ => by rfl⟩) trivial ?_
            simp only [Act.put, List.setIfInBounds_toArray, List.set_cons_zero, List.set_cons_succ]
            refine wpAnyH_ready (rs := [10]) (by kernel_rfl) (by simp) ?_
            refine AllReadyH.cons (o := ⟨none, .store 33 (.tmp 90) (.tmp 88), 0, "free.go:45", #[⟨9, .data⟩, ⟨7, .data⟩, ⟨7, .chain⟩, ⟨0, .phase⟩, ⟨1, .phase⟩, ⟨2, .phase⟩, ⟨3, .phase⟩, ⟨4, .phase⟩, ⟨5, .phase⟩, ⟨6, .phase⟩, ⟨7, .phase⟩], none⟩) rfl (fun KK hK => ?_) (AllReadyH.nil)
            go_simp
            refine hK.out _ _ trivial (fun hHeld => ?_)
            clear hK KK hHeld
            try simp only [Act.put, List.setIfInBounds_toArray, List.set_cons_zero, List.set_cons_succ]
            refine wpAnyH_done (by kernel_rfl) ?_ _
            have HE := town_endg D T B ltw lo lw ho HL.out hxl hxz hat5 T6 t6 o7 b7 ho8 hg8 hat8
            obtain ⟨W9, hW9⟩ : ∃ W9, w8.setCell ⟨tw, 4, none⟩ (.slice (some ⟨g8, 0, none⟩) (L + 1) c8) = W9 := ⟨_, rfl⟩
            rw [hW9] at HE
            try rw [hW9]
            clear hW9 z4 zf8 X8 ho8 hg8 hat8 hlt8 rw7 u4 u4a T7 o7 b7 T6 t6 hW6 y4d ho5 hg5 hat5 hlt5 T D
            go_wp2_with fail
            go_roundw
            case rel => exact ⟨b + 1, by omega, by simp, HE⟩
            case measure => simp [intOf]; omega
          · go_simp
            refine (block7 none 0 0 [] W6.drew (by omega) (Lies.nil _)).mono ?_
            rintro e w7 ⟨g7, c7, rfl, o7, b7⟩
            replace b7 := Below.fromDrew b7
            have T7 := T6.kp (Kp.below b7)
            have u4 : w7.cell? ⟨tw, 4, none⟩ = some wv := by simp [World.cell?, T7.box]
            have u4a : ∀ o, (w7.alloc o).cell? ⟨tw, 4, none⟩ = some wv := fun o => by
              have := (Below.heap_alloc w7 o tw (heap_lt T7.box)).trans T7.box
              simp [World.cell?, this]
            go_wp2_with fail
            refine hK.out _ _ trivial (fun hHeld => ?_)
            clear hK KK hHeld
            try simp only [Act.put, List.setIfInBounds_toArray, List.set_cons_zero, List.set_cons_succ]
            refine wpAnyH_ready (rs := [4, 6]) (by kernel_rfl) (by simp) ?_
            refine AllReadyH.cons (o := ⟨some 85, .load 33 (.tmp 84), 33, "free.go:45", #[⟨3, .data⟩], none⟩) rfl (fun KK hK => ?_) (AllReadyH.cons (o := ⟨some 87, .buildSlice 33 1 #[(0, .tmp 86)], 33, "free.go:45", #[⟨5, .data⟩], none⟩) rfl (fun KK hK => ?_) (AllReadyH.nil))
            · go_simp
              refine hK.out _ _ trivial (fun hHeld => ?_)
              clear hK KK hHeld
              try simp only [Act.put, List.setIfInBounds_toArray, List.set_cons_zero, List.set_cons_succ]
              refine wpAnyH_ready (rs := [6]) (by kernel_rfl) (by simp) ?_
              refine AllReadyH.cons (o := ⟨some 87, .buildSlice 33 1 #[(0, .tmp 86)], 33, "free.go:45", #[⟨5, .data⟩], none⟩) rfl (fun KK hK => ?_) (AllReadyH.nil)
              go_simp
              refine hK.out _ _ trivial (fun hHeld => ?_)
              clear hK KK hHeld
              try simp only [Act.put, List.setIfInBounds_toArray, List.set_cons_zero, List.set_cons_succ]
              refine wpAnyH_ready (rs := [7]) (by kernel_rfl) (by simp) ?_
              refine AllReadyH.cons (o := ⟨some 88, .call ⟨.builtin .append, #[.tmp 85, .tmp 87], #[33, 33]⟩, 33, "free.go:45", #[⟨4, .data⟩, ⟨6, .data⟩, ⟨5, .chain⟩], none⟩) rfl (fun KK hK => ?_) (AllReadyH.nil)
              have rw7 : w7.ownsRow 0 56 1 wv L (xs.map It.val) := by
                have := T7.x.row
                rwa [hxl] at this
              refine step_append_lies _ rfl _ _ 33 rfl 0 56 i1 (.slice none 0 0) 1 24 Tryz.underlying33 ki kz0 kz1 kz2 rfl (by decide) wv L _ rfl (rw7.alloc _) ⟨w7.heap.size, 0, none⟩ 1 1 [.slice (some ⟨g7, 0, none⟩) 512 c7] rfl rfl (cell_one7 _ _ _) (by intro u hu; simp at hu; subst hu; rfl) (by decide) (by unfold maxLen; omega) (by omega) (by omega) _ rfl ?_
              intro g8 c8 w8 ho8 hg8 hat8 hlt8
              have X8 := T7.grow2 hg8
              have z4 : w8.cell? ⟨tw, 4, none⟩ = some wv := by simp [World.cell?, X8]
              have zf8 : w8.frozen? ⟨tw, 4, none⟩ = false := by simp [World.frozen?, X8]
              refine hK.out _ _ trivial (fun hHeld => ?_)
              clear hK KK hHeld
              try simp only [Act.put, List.setIfInBounds_toArray, List.set_cons_zero, List.set_cons_succ]
              refine wpAnyH_take (i := 8) (oi := ⟨some 89, .nilCheck (.tmp 81), 0, "free.go:45", #[⟨0, .data⟩, ⟨0, .phase⟩, ⟨1, .phase⟩, ⟨2, .phase⟩, ⟨3, .phase⟩, ⟨4, .phase⟩, ⟨5, .phase⟩, ⟨6, .phase⟩, ⟨7, .phase⟩], none⟩) (v := (.pointer (some ⟨tw, 0, none⟩))) rfl (by kernel_rfl) (by kernel_rfl) (by kernel_rfl) (fun _ _ _ h => h) (Or.inl ⟨by rfl, fun _ _ => by rfl⟩) trivial ?_
              simp only [Act.put, List.setIfInBounds_toArray, List.set_cons_zero, List.set_cons_succ]
              refine wpAnyH_take (i := 9) (oi := ⟨some 90, .fieldAddr 42 (.tmp 89) 4, 0, "free.go:45", #[⟨8, .data⟩, ⟨0, .phase⟩, ⟨1, .phase⟩, ⟨2, .phase⟩, ⟨3, .phase⟩, ⟨4, .phase⟩, ⟨5, .phase⟩, ⟨6, .phase⟩, ⟨7, .phase⟩], none⟩) (v := (.pointer (some ⟨tw, 4, none⟩))) rfl (by kernel_rfl) (by kernel_rfl) (by kernel_rfl) (fun _ _ _ h => h) (Or.inl ⟨by rfl, fun _ _ => by rfl⟩) trivial ?_
              simp only [Act.put, List.setIfInBounds_toArray, List.set_cons_zero, List.set_cons_succ]
              refine wpAnyH_ready (rs := [10]) (by kernel_rfl) (by simp) ?_
              refine AllReadyH.cons (o := ⟨none, .store 33 (.tmp 90) (.tmp 88), 0, "free.go:45", #[⟨9, .data⟩, ⟨7, .data⟩, ⟨7, .chain⟩, ⟨0, .phase⟩, ⟨1, .phase⟩, ⟨2, .phase⟩, ⟨3, .phase⟩, ⟨4, .phase⟩, ⟨5, .phase⟩, ⟨6, .phase⟩, ⟨7, .phase⟩], none⟩) rfl (fun KK hK => ?_) (AllReadyH.nil)
              go_simp
              refine hK.out _ _ trivial (fun hHeld => ?_)
              clear hK KK hHeld
              try simp only [Act.put, List.setIfInBounds_toArray, List.set_cons_zero, List.set_cons_succ]
              refine wpAnyH_done (by kernel_rfl) ?_ _
              have HE := town_endg D T B ltw lo lw ho HL.out hxl hxz hat5 T6 t6 o7 b7 ho8 hg8 hat8
              obtain ⟨W9, hW9⟩ : ∃ W9, w8.setCell ⟨tw, 4, none⟩ (.slice (some ⟨g8, 0, none⟩) (L + 1) c8) = W9 := ⟨_, rfl⟩
              rw [hW9] at HE
              try rw [hW9]
              clear hW9 z4 zf8 X8 ho8 hg8 hat8 hlt8 rw7 u4 u4a T7 o7 b7 T6 t6 hW6 y4d ho5 hg5 hat5 hlt5 T D
              go_wp2_with fail
              go_roundw
              case rel => exact ⟨b + 1, by omega, by simp, HE⟩
              case measure => simp [intOf]; omega
            · go_simp
              refine hK.out _ _ trivial (fun hHeld => ?_)
              clear hK KK hHeld
              try simp only [Act.put, List.setIfInBounds_toArray, List.set_cons_zero, List.set_cons_succ]
              refine wpAnyH_ready (rs := [4]) (by kernel_rfl) (by simp) ?_
              refine AllReadyH.cons (o := ⟨some 85, .load 33 (.tmp 84), 33, "free.go:45", #[⟨3, .data⟩], none⟩) rfl (fun KK hK => ?_) (AllReadyH.nil)
              go_simp
              refine hK.out _ _ trivial (fun hHeld => ?_)
              clear hK KK hHeld
              try simp only [Act.put, List.setIfInBounds_toArray, List.set_cons_zero, List.set_cons_succ]
              refine wpAnyH_ready (rs := [7]) (by kernel_rfl) (by simp) ?_
              refine AllReadyH.cons (o := ⟨some 88, .call ⟨.builtin .append, #[.tmp 85, .tmp 87], #[33, 33]⟩, 33, "free.go:45", #[⟨4, .data⟩, ⟨6, .data⟩, ⟨5, .chain⟩], none⟩) rfl (fun KK hK => ?_) (AllReadyH.nil)
              have rw7 : w7.ownsRow 0 56 1 wv L (xs.map It.val) := by
                have := T7.x.row
                rwa [hxl] at this
              refine step_append_lies _ rfl _ _ 33 rfl 0 56 i1 (.slice none 0 0) 1 24 Tryz.underlying33 ki kz0 kz1 kz2 rfl (by decide) wv L _ rfl (rw7.alloc _) ⟨w7.heap.size, 0, none⟩ 1 1 [.slice (some ⟨g7, 0, none⟩) 512 c7] rfl rfl (cell_one7 _ _ _) (by intro u hu; simp at hu; subst hu; rfl) (by decide) (by unfold maxLen; omega) (by omega) (by omega) _ rfl ?_
              intro g8 c8 w8 ho8 hg8 hat8 hlt8
              have X8 := T7.grow2 hg8
              have z4 : w8.cell? ⟨tw, 4, none⟩ = some wv := by simp [World.cell?, X8]
              have zf8 : w8.frozen? ⟨tw, 4, none⟩ = false := by simp [World.frozen?, X8]
              refine hK.out _ _ trivial (fun hHeld => ?_)
              clear hK KK hHeld
              try simp only [Act.put, List.setIfInBounds_toArray, List.set_cons_zero, List.set_cons_succ]
              refine wpAnyH_take (i := 8) (oi := ⟨some 89, .nilCheck (.tmp 81), 0, "free.go:45", #[⟨0, .data⟩, ⟨0, .phase⟩, ⟨1, .phase⟩, ⟨2, .phase⟩, ⟨3, .phase⟩, ⟨4, .phase⟩, ⟨5, .phase⟩, ⟨6, .phase⟩, ⟨7, .phase⟩], none⟩) (v := (.pointer (some ⟨tw, 0, none⟩))) rfl (by kernel_rfl) (by kernel_rfl) (by kernel_rfl) (fun _ _ _ h => h) (Or.inl ⟨by rfl, fun _ _ => by rfl⟩) trivial ?_
              simp only [Act.put, List.setIfInBounds_toArray, List.set_cons_zero, List.set_cons_succ]
              refine wpAnyH_take (i := 9) (oi := ⟨some 90, .fieldAddr 42 (.tmp 89) 4, 0, "free.go:45", #[⟨8, .data⟩, ⟨0, .phase⟩, ⟨1, .phase⟩, ⟨2, .phase⟩, ⟨3, .phase⟩, ⟨4, .phase⟩, ⟨5, .phase⟩, ⟨6, .phase⟩, ⟨7, .phase⟩], none⟩) (v := (.pointer (some ⟨tw, 4, none⟩))) rfl (by kernel_rfl) (by kernel_rfl) (by kernel_rfl) (fun _ _ _ h => h) (Or.inl ⟨by rfl, fun _ _ => by rfl⟩) trivial ?_
              simp only [Act.put, List.setIfInBounds_toArray, List.set_cons_zero, List.set_cons_succ]
              refine wpAnyH_ready (rs := [10]) (by kernel_rfl) (by simp) ?_
              refine AllReadyH.cons (o := ⟨none, .store 33 (.tmp 90) (.tmp 88), 0, "free.go:45", #[⟨9, .data⟩, ⟨7, .data⟩, ⟨7, .chain⟩, ⟨0, .phase⟩, ⟨1, .phase⟩, ⟨2, .phase⟩, ⟨3, .phase⟩, ⟨4, .phase⟩, ⟨5, .phase⟩, ⟨6, .phase⟩, ⟨7, .phase⟩], none⟩) rfl (fun KK hK => ?_) (AllReadyH.nil)
              go_simp
              refine hK.out _ _ trivial (fun hHeld => ?_)
              clear hK KK hHeld
              try simp only [Act.put, List.setIfInBounds_toArray, List.set_cons_zero, List.set_cons_succ]
              refine wpAnyH_done (by kernel_rfl) ?_ _
              have HE := town_endg D T B ltw lo lw ho HL.out hxl hxz hat5 T6 t6 o7 b7 ho8 hg8 hat8
              obtain ⟨W9, hW9⟩ : ∃ W9, w8.setCell ⟨tw, 4, none⟩ (.slice (some ⟨g8, 0, none⟩) (L + 1) c8) = W9 := ⟨_, rfl⟩
              rw [hW9] at HE
              try rw [hW9]
              clear hW9 z4 zf8 X8 ho8 hg8 hat8 hlt8 rw7 u4 u4a T7 o7 b7 T6 t6 hW6 y4d ho5 hg5 hat5 hlt5 T D
              go_wp2_with fail
              go_roundw
              case rel => exact ⟨b + 1, by omega, by simp, HE⟩
              case measure => simp [intOf]; omega
      · have ho2 : ¬ b < st ∧ b < st + sz := by
          simp [outBg] at ho; omega
        have hb2i : ¬ (b : Int) < st := by omega
        have h32i : ¬ (st : Int) + sz ≤ b := by omega
        have HE : TRg w G tw db k st sz (b + 1) w4 := by
          have e : og st sz (b + 1) = og st sz b := by rw [og_succ]; simp [ho]
          exact ⟨ov, wv, xs, D, by rw [e]; exact T, by rw [e]; exact hxl, hxz, lo, lw, B⟩
        clear D T hxl
        go_wp2_with fail
        go_roundw
        case rel => exact ⟨b + 1, by omega, by simp, HE⟩
        case measure => simp [intOf]; omega
    · obtain rfl : b = k := by omega
      have HT : Hid (Dev w4 db 0 (FK b st sz) b sz G ∧ Tg w4 G tw db st sz ov wv (og st sz b) xs ∧ xs.length = (og st sz b).length) := ⟨D, T, hxl⟩
      clear D T hxl
      go_wp2_with fail
      refine (num7 0 w4).mono ?_
      rintro e w5 ⟨rfl, rfl⟩
      go_wp2_with fail
      obtain ⟨Dz, Tz, lz⟩ := HT.out
      refine bodyPost_ret (results_tmp2 rfl _ _ _) rfl ?_
      exact ⟨tw, db, sz, G, ov, wv, xs, rfl, Dz, by omega, fun i hi => (f3 i hi).1, Tz, lz, hxz, ltw, lo, B⟩
end Go.Proofs.YtnmdnglbpkpfdaaGreatDoor
