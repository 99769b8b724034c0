/- The book's lists grow. -/
import Derived.Test.YtlcjkbhcbiggcaaGreatDoorB6
namespace Go.Proofs.YtlcjkbhcbiggcaaGreatDoor
open Go.RowKit Go.Maps
set_option maxRecDepth 100000

theorem own_apart {w : World} {b1 b2 e1 e2 s1 s2 n1 n2 : Nat} {u v : Value} {xs ys : List Value} (h1 : w.ownsRow b1 e1 s1 u n1 xs) (h2 : w.ownsRow b2 e2 s2 v n2 ys) (he : e1 ≠ e2) {b : Nat} (hb : u.ownBlock = some b) : v.ownBlock ≠ some b := by
  rcases h1.2 with ⟨q, _⟩ | ⟨g, cap, cur, q, _, hh, _⟩
  · rw [q] at hb; cases hb
  · rw [q] at hb
    cases hb
    exact own_typeJ h2 hh he
/-- The book's first list is another. -/
theorem Bo.setL {w w5 : World} {base kb : Nat} {lv gv lv5 : Value} {L L5 : List Ino} {G : List Int} (h : Bo w base kb lv gv L G) {X : Nat → Prop} (t : Turns X w w5) (hX : ∀ b, X b → lv.ownBlock = some b) (o5 : w5.ownsRow base 38 13 lv5 L5.length (inLs L5)) :
    Bo (w5.setCell ⟨kb, 0, none⟩ lv5) base kb lv5 gv L5 G := by
  have k5 : w5.heap[kb]? = some (.cells #[lv, gv] 30 (0, 0)) := (t.block kb (heap_lt h.box) (fun q => own_typeJ h.lo h.box (by decide) (hX _ q))).trans h.box
  have g5 := own_turns h.go t (fun b hb q => own_apart h.go h.lo (by decide) hb (hX b q))
  have tc := Turns.cell w5 kb 0 lv5
  exact ⟨heap_setCell_same _ _ _ _ _ _ k5, own_turns o5 tc (fun b hb e => own_typeJ o5 k5 (by decide) (by rw [← e]; exact hb)), own_turns g5 tc (fun b hb e => own_typeJ g5 k5 (by decide) (by rw [← e]; exact hb)), h.kn⟩
/-- The book's second list is another. -/
theorem Bo.setG {w w5 : World} {base kb : Nat} {lv gv gv5 : Value} {L : List Ino} {G G5 : List Int} (h : Bo w base kb lv gv L G) {X : Nat → Prop} (t : Turns X w w5) (hX : ∀ b, X b → gv.ownBlock = some b) (o5 : w5.ownsRow base 3 1 gv5 G5.length (G5.map (Value.int .i64))) :
    Bo (w5.setCell ⟨kb, 1, none⟩ gv5) base kb lv gv5 L G5 := by
  have k5 : w5.heap[kb]? = some (.cells #[lv, gv] 30 (0, 0)) := (t.block kb (heap_lt h.box) (fun q => own_typeJ h.go h.box (by decide) (hX _ q))).trans h.box
  have g5 := own_turns h.lo t (fun b hb q => own_apart h.lo h.go (by decide) hb (hX b q))
  have tc := Turns.cell w5 kb 1 gv5
  exact ⟨heap_setCell_same _ _ _ _ _ _ k5, own_turns g5 tc (fun b hb e => own_typeJ g5 k5 (by decide) (by rw [← e]; exact hb)), own_turns o5 tc (fun b hb e => own_typeJ o5 k5 (by decide) (by rw [← e]; exact hb)), h.kn⟩
theorem Bo.turnsL {w w5 : World} {base kb : Nat} {lv gv lv5 : Value} {L : List Ino} {G : List Int} (_ : Bo w base kb lv gv L G) (t : Turns (fun b => lv.ownBlock = some b) w w5) (o : Nat) : Turns (boS kb lv gv) w (w5.setCell ⟨kb, o, none⟩ lv5) :=
  (t.mono (fun _ _ q => Or.inr (Or.inl q))).trans (Turns.cell w5 kb o lv5) (fun _ _ q => Or.inl q)
theorem Bo.turnsG {w w5 : World} {base kb : Nat} {lv gv gv5 : Value} {L : List Ino} {G : List Int} (_ : Bo w base kb lv gv L G) (t : Turns (fun b => gv.ownBlock = some b) w w5) (o : Nat) : Turns (boS kb lv gv) w (w5.setCell ⟨kb, o, none⟩ gv5) :=
  (t.mono (fun _ _ q => Or.inr (Or.inr q))).trans (Turns.cell w5 kb o gv5) (fun _ _ q => Or.inl q)
theorem eq_d8 (w : World) : (Op.equalIn 10000 36 (.agg #[.int .i64 0, .int .i64 0, .int .i64 0, .int .i64 0, .int .i64 0, .int .i64 0, .int .i64 0, .int .i64 0]) (.agg #[.int .i64 0, .int .i64 0, .int .i64 0, .int .i64 0, .int .i64 0, .int .i64 0, .int .i64 0, .int .i64 0])).run Tryz.prog w = .ok true w := by kernel_rfl
end Go.Proofs.YtlcjkbhcbiggcaaGreatDoor
