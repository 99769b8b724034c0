/- A device in memory. -/
import Derived.Test.YtejfbjjhnhlagaaDMath
namespace Go.Proofs.Ytejfbjjhnhlagaa
open Go.RowKit
set_option maxRecDepth 100000

/-- The slice of a block's bytes. -/
abbrev hv (g : Nat) : Value := .slice (some ⟨g, 0, none⟩) 512 512
/-- The cells of the writes that pend. -/
def pc : List (Nat × List Int) → List Nat → List Value
  | p :: ps, g :: gs => .int .i64 p.1 :: hv g :: pc ps gs
  | _, _ => []
theorem pc_len : ∀ (ps : List (Nat × List Int)) (gs : List Nat), gs.length = ps.length → (pc ps gs).length = ps.length * 2
  | [], _, _ => by simp [pc]
  | p :: ps, [], h => by cases h
  | p :: ps, g :: gs, h => by
    have := pc_len ps gs (by simpa using h)
    simp [pc, this]; omega
theorem pc_snoc : ∀ (ps : List (Nat × List Int)) (gs : List Nat) (b : Nat) (d : List Int) (g : Nat), gs.length = ps.length → pc (ps ++ [(b, d)]) (gs ++ [g]) = pc ps gs ++ [.int .i64 b, hv g]
  | [], [], _, _, _, _ => rfl
  | [], g :: gs, _, _, _, h => by cases h
  | p :: ps, [], _, _, _, h => by cases h
  | p :: ps, g :: gs, b, d, g', h => by
    have := pc_snoc ps gs b d g' (by simpa using h)
    simp [pc, this]
theorem pc_at : ∀ (ps : List (Nat × List Int)) (gs : List Nat) (i : Nat) (p : Nat × List Int) (g : Nat), ps[i]? = some p → gs[i]? = some g → (pc ps gs)[i * 2]? = some (.int .i64 p.1) ∧ (pc ps gs)[i * 2 + 1]? = some (hv g)
  | [], _, _, _, _, h, _ => by simp at h
  | p :: ps, [], _, _, _, _, h => by simp at h
  | p :: ps, g :: gs, 0, _, _, h1, h2 => by
    simp at h1 h2; subst h1; subst h2
    simp [pc]
  | p :: ps, g :: gs, i + 1, p', g', h1, h2 => by
    have := pc_at ps gs i p' g' (by simpa using h1) (by simpa using h2)
    rw [show (i + 1) * 2 = i * 2 + 1 + 1 by omega]
    simpa [pc] using this
/-- The block of the last write that pends for a block. -/
def newestG (ps : List (Nat × List Int)) (gs : List Nat) (b : Nat) : Option Nat := ((ps.zip gs).reverse.find? (fun t => t.1.1 == b)).map (·.2)
theorem newestG_snoc (ps : List (Nat × List Int)) (gs : List Nat) (b : Nat) (d : List Int) (g x : Nat) (h : gs.length = ps.length) : newestG (ps ++ [(b, d)]) (gs ++ [g]) x = if b = x then some g else newestG ps gs x := by
  unfold newestG
  rw [List.zip_append h.symm, List.reverse_append]
  by_cases e : b = x
  · simp [e]
  · simp [e]
/-- A map's element is held as it is. -/
abbrev RV (v : Value) : Option (DataW Value × List MemPlace) := some (.held v, [])

/-- A device in memory, with all its parts. -/
structure DevX (w : World) (db : Nat) (st : Int) (S : DevS) (k N gl bm : Nat) (q : Int) (pv : Value) (gs : List Nat) (Dm : DataW Value) : Prop where
  good : Good S k
  blk : w.heap[db]? = some (.cells #[.int .i32 st, .int .u32 q, .slice (some ⟨gl, 0, none⟩) (512 * k) (512 * k), pv, .map (some bm), .int .i64 S.fuse, .bool S.off] 86 (0, 0))
  lst : w.heap[gl]? = some (bl S.last)
  row : w.ownsRow 0 69 2 pv S.pend.length (pc S.pend gs)
  gsl : gs.length = S.pend.length
  pn : S.pend.length ≤ N
  dat : ∀ (i : Nat) p g, S.pend[i]? = some p → gs[i]? = some g → w.heap[g]? = some (bl p.2)
  map : w.ownsMap Try.prog 3 RV bm N Dm
  at_ : ∀ b : Nat, b < 4096 → Maps.has Dm (.int .i64 b) = (newestG S.pend gs b).isSome ∧ ∀ zd, Dm.atKey (.int .i64 b) zd = ((newestG S.pend gs b).map (fun g => DataW.held (hv g))).getD zd
  a1 : db ≠ gl
  a2 : db ∉ gs
  a3 : gl ∉ gs
  a4 : pv.ownBlock ≠ some db
  a5 : pv.ownBlock ≠ some gl
  a6 : ∀ g ∈ gs, pv.ownBlock ≠ some g
/-- All blocks of a device. -/
structure Foot (F : Nat → Prop) (db gl bm : Nat) (pv : Value) (gs : List Nat) : Prop where
  f1 : F db
  f2 : F gl
  f3 : F bm
  f4 : ∀ b, pv.ownBlock = some b → F b
  f5 : ∀ g ∈ gs, F g
/-- A device in memory: its lock's state, what it holds, how many blocks; at most N entries of its map; its blocks lie in F. -/
def Dev (w : World) (db : Nat) (st : Int) (S : DevS) (k N : Nat) (F : Nat → Prop) : Prop := ∃ gl bm q pv gs Dm, DevX w db st S k N gl bm q pv gs Dm ∧ Foot F db gl bm pv gs ∧ ∀ i, F i → i < w.heap.size
/-- The old blocks, and all that are new. -/
def grow (F : Nat → Prop) (w w' : World) : Nat → Prop := fun i => F i ∨ (w.heap.size ≤ i ∧ i < w'.heap.size)
theorem grow_old {F : Nat → Prop} {w w' : World} : ∀ i, i < w.heap.size → grow F w w' i → F i := fun i hi h => h.elim id (fun h => by omega)

theorem dat_turns {F : Nat → Prop} {w w' : World} {ps : List (Nat × List Int)} {gs : List Nat} (h : ∀ (i : Nat) p g, ps[i]? = some p → gs[i]? = some g → w.heap[g]? = some (bl p.2)) (ht : Turns F w w') (hF : ∀ g ∈ gs, ¬ F g) :
    ∀ (i : Nat) p g, ps[i]? = some p → gs[i]? = some g → w'.heap[g]? = some (bl p.2) := fun i p g h1 h2 => by
  have hb := h i p g h1 h2
  exact (ht.block g (heap_lt hb) (hF g (List.mem_of_getElem? h2))).trans hb
theorem DevX.turns {G : Nat → Prop} {w w' : World} {db : Nat} {st : Int} {S : DevS} {k N gl bm : Nat} {q : Int} {pv : Value} {gs : List Nat} {Dm : DataW Value} (h : DevX w db st S k N gl bm q pv gs Dm) (ht : Turns G w w')
    (h1 : ¬ G db) (h2 : ¬ G gl) (h3 : ¬ G bm) (h4 : ∀ b, pv.ownBlock = some b → ¬ G b) (h5 : ∀ g ∈ gs, ¬ G g) : DevX w' db st S k N gl bm q pv gs Dm :=
  { h with
    blk := (ht.block db (heap_lt h.blk) h1).trans h.blk
    lst := (ht.block gl (heap_lt h.lst) h2).trans h.lst
    row := own_turns h.row ht h4
    dat := dat_turns h.dat ht h5
    map := map_turns h.map ht h3 }
theorem Dev.turns {F G : Nat → Prop} {w w' : World} {db : Nat} {st : Int} {S : DevS} {k N : Nat} (h : Dev w db st S k N F) (ht : Turns G w w') (hG : ∀ i, F i → ¬ G i) : Dev w' db st S k N F := by
  obtain ⟨gl, bm, q, pv, gs, Dm, h, f, hl⟩ := h
  exact ⟨gl, bm, q, pv, gs, Dm, h.turns ht (hG _ f.f1) (hG _ f.f2) (hG _ f.f3) (fun b hb => hG _ (f.f4 b hb)) (fun g hg => hG _ (f.f5 g hg)), f, fun i hi => Nat.lt_of_lt_of_le (hl i hi) ht.size⟩
theorem Dev.below {F : Nat → Prop} {w w' : World} {db : Nat} {st : Int} {S : DevS} {k N : Nat} (h : Dev w db st S k N F) (hb : Below w.heap.size w w') : Dev w' db st S k N F :=
  h.turns (Below.turns hb (fun _ => False)) (fun _ _ => id)
theorem Dev.foot {F G : Nat → Prop} {w : World} {db : Nat} {st : Int} {S : DevS} {k N : Nat} (h : Dev w db st S k N F) (hG : ∀ i, F i → G i) (hl : ∀ i, G i → i < w.heap.size) : Dev w db st S k N G := by
  obtain ⟨gl, bm, q, pv, gs, Dm, h, f, _⟩ := h
  exact ⟨gl, bm, q, pv, gs, Dm, h, ⟨hG _ f.f1, hG _ f.f2, hG _ f.f3, fun b hb => hG _ (f.f4 b hb), fun g hg => hG _ (f.f5 g hg)⟩, hl⟩
theorem Dev.lt {F : Nat → Prop} {w : World} {db : Nat} {st : Int} {S : DevS} {k N : Nat} (h : Dev w db st S k N F) : ∀ i, F i → i < w.heap.size := by
  obtain ⟨gl, bm, q, pv, gs, Dm, h, f, hl⟩ := h
  exact hl
theorem Dev.good {F : Nat → Prop} {w : World} {db : Nat} {st : Int} {S : DevS} {k N : Nat} (h : Dev w db st S k N F) : Good S k := by
  obtain ⟨gl, bm, q, pv, gs, Dm, h, f, hl⟩ := h
  exact h.good
theorem DevX.mdb {w : World} {db : Nat} {st : Int} {S : DevS} {k N gl bm : Nat} {q : Int} {pv : Value} {gs : List Nat} {Dm : DataW Value} (h : DevX w db st S k N gl bm q pv gs Dm) : bm ≠ db := fun e => by
  obtain ⟨es, cl, hb, _⟩ := h.map
  rw [e, h.blk] at hb; cases hb
theorem DevX.mgl {w : World} {db : Nat} {st : Int} {S : DevS} {k N gl bm : Nat} {q : Int} {pv : Value} {gs : List Nat} {Dm : DataW Value} (h : DevX w db st S k N gl bm q pv gs Dm) : bm ≠ gl := fun e => by
  obtain ⟨es, cl, hb, _⟩ := h.map
  rw [e, h.lst] at hb; cases hb
theorem DevX.mgs {w : World} {db : Nat} {st : Int} {S : DevS} {k N gl bm : Nat} {q : Int} {pv : Value} {gs : List Nat} {Dm : DataW Value} (h : DevX w db st S k N gl bm q pv gs Dm) : bm ∉ gs := fun e => by
  obtain ⟨i, hi⟩ := List.mem_iff_getElem?.1 e
  have hlt : i < S.pend.length := by rw [← h.gsl]; exact (List.getElem?_eq_some_iff.1 hi).1
  obtain ⟨es, cl, hb, _⟩ := h.map
  rw [h.dat i _ _ (List.getElem?_eq_getElem hlt) hi] at hb; cases hb
theorem DevX.mpv {w : World} {db : Nat} {st : Int} {S : DevS} {k N gl bm : Nat} {q : Int} {pv : Value} {gs : List Nat} {Dm : DataW Value} (h : DevX w db st S k N gl bm q pv gs Dm) : pv.ownBlock ≠ some bm := fun e => by
  obtain ⟨es, cl, hb, _⟩ := h.map
  rcases h.row.2 with ⟨hv, _⟩ | ⟨g, cap, cur, hv, _, hg, _⟩
  · subst hv; cases e
  · subst hv
    obtain rfl : g = bm := by simpa [Value.ownBlock] using e
    rw [hg] at hb; cases hb

/-- One cell of the device's own block is written. -/
theorem DevX.db {w : World} {db : Nat} {st st' : Int} {S S' : DevS} {k N gl bm : Nat} {q : Int} {pv : Value} {gs : List Nat} {Dm : DataW Value} (h : DevX w db st S k N gl bm q pv gs Dm) (j : Nat) (v : Value)
    (hS : S'.last = S.last ∧ S'.pend = S.pend ∧ S'.fuse ≤ 9223372036854775807)
    (hb : (#[.int .i32 st, .int .u32 q, .slice (some ⟨gl, 0, none⟩) (512 * k) (512 * k), pv, .map (some bm), .int .i64 S.fuse, .bool S.off] : Array Value).setIfInBounds j v = #[.int .i32 st', .int .u32 q, .slice (some ⟨gl, 0, none⟩) (512 * k) (512 * k), pv, .map (some bm), .int .i64 S'.fuse, .bool S'.off]) :
    DevX (w.setCell ⟨db, j, none⟩ v) db st' S' k N gl bm q pv gs Dm := by
  have ht : Turns (fun i => i = db) w (w.setCell ⟨db, j, none⟩ v) := Turns.setCell w j v rfl
  have hx := h.turns (G := fun i => i = db) (w' := w.setCell ⟨db, j, none⟩ v)
  obtain ⟨e1, e2, e3⟩ := hS
  refine ⟨⟨by rw [e1]; exact h.good.len, h.good.pos, h.good.top, by rw [e1]; exact h.good.by_, by rw [e2]; exact h.good.pend, e3⟩, ?_, ?_, ?_, by rw [e2]; exact h.gsl, by rw [e2]; exact h.pn, ?_, ?_, by rw [e2]; exact h.at_, h.a1, h.a2, h.a3, h.a4, h.a5, h.a6⟩
  · rw [heap_setCell_same _ _ _ _ _ _ h.blk, hb]
  · rw [e1]; exact (ht.block gl (heap_lt h.lst) (fun e => h.a1 e.symm)).trans h.lst
  · rw [e2]; exact own_turns h.row ht (fun b hb e => h.a4 (by rw [hb, e]))
  · rw [e2]; exact dat_turns h.dat ht (fun g hg e => h.a2 (by rw [← e]; exact hg))
  · exact map_turns h.map ht h.mdb
/-- The cells of the device's own block. -/
theorem DevX.cells {w : World} {db : Nat} {st : Int} {S : DevS} {k N gl bm : Nat} {q : Int} {pv : Value} {gs : List Nat} {Dm : DataW Value} (h : DevX w db st S k N gl bm q pv gs Dm) :
    w.cell? ⟨db, 0, none⟩ = some (.int .i32 st) ∧ w.cell? ⟨db, 2, none⟩ = some (.slice (some ⟨gl, 0, none⟩) (512 * k) (512 * k)) ∧ w.cell? ⟨db, 3, none⟩ = some pv ∧ w.cell? ⟨db, 4, none⟩ = some (.map (some bm)) ∧ w.cell? ⟨db, 5, none⟩ = some (.int .i64 S.fuse) ∧ w.cell? ⟨db, 6, none⟩ = some (.bool S.off) ∧ ∀ j, w.frozen? ⟨db, j, none⟩ = false := by
  refine ⟨?_, ?_, ?_, ?_, ?_, ?_, fun j => ?_⟩ <;> simp [World.cell?, World.frozen?, h.blk]
end Go.Proofs.Ytejfbjjhnhlagaa
