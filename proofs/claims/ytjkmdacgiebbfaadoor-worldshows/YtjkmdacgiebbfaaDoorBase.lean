/- Plain words on worlds, bytes and numbers, which the contracts below use. -/
import Derived.Test.YtjkmdacgiebbfaaDoorChecked
import Derived.WalkKit
import Derived.WalkSpells
import Derived.WalkLawsBesides
namespace Go.Proofs.YtjkmdacgiebbfaaDoor
open Go.RowKit
set_option maxRecDepth 100000

theorem Tryd.info5 : (Tryd.prog.info? 5).map (fun i => (i.zero, i.size, i.bytes)) = some (some (.int .u8 0), 1, 1) := by kernel_rfl

/-- A number's digits to the base 256, the greatest first. -/
def be (X : Int) : Nat → List Int
  | 0 => []
  | k + 1 => (X / 2 ^ (8 * k) % 256) :: be X k
theorem be_length (X : Int) (k : Nat) : (be X k).length = k := by
  induction k with
  | zero => rfl
  | succ k ih => simp [be, ih]

theorem grown_trans {a b c : World} {row : Option Nat} (h : a.grownBy b row) (k : b.grownBy c row) : a.grownBy c row :=
  ⟨k.os.trans h.os, k.tape.trans h.tape, k.output.trans h.output, Nat.le_trans h.size k.size, fun i hi hr => (k.block i (Nat.lt_of_lt_of_le hi h.size) hr).trans (h.block i hi hr)⟩

/-- The slice value '.slice ao len cap' reads as the bytes bs. -/
structure Lies (w : World) (ao : Option Addr) (len cap : Nat) (bs : List Int) : Prop where
  hlen : bs.length = len
  hle : len ≤ cap
  hnone : ao = none → len = 0 ∧ cap = 0
  hcells : ∀ ad, ao = some ad → ∀ t u, (bs.map (Value.int .u8))[t]? = some u → w.cell? (ad.add t) = some u

theorem Lies.below {B : Nat} {w w' : World} {ao : Option Addr} {len cap : Nat} {bs : List Int} (h : Lies w ao len cap bs) (hb : Below B w w') (hB : w.heap.size ≤ B) : Lies w' ao len cap bs :=
  ⟨h.hlen, h.hle, h.hnone, fun ad had t u hu => by
    have hc := h.hcells ad had t u hu
    exact (hb.cell (Nat.lt_of_lt_of_le (World.block_lt_of_cell? w _ hc) hB)).trans hc⟩

theorem add_block (a : Addr) (t : Nat) : (a.add t).block = a.block := by cases a; simp [Addr.add]; try (split <;> rfl)

theorem Lies.grown {w w' : World} {row : Option Nat} {ao : Option Addr} {len cap : Nat} {bs : List Int} (h : Lies w ao len cap bs) (hg : w.grownBy w' row) (hne : ∀ ad, ao = some ad → some ad.block ≠ row) : Lies w' ao len cap bs :=
  ⟨h.hlen, h.hle, h.hnone, fun ad had t u hu => hg.cell (h.hcells ad had t u hu) (by rw [add_block]; exact hne ad had)⟩

/-- A row of the call's own reads as its bytes. -/
theorem Lies.own {w : World} {base g n cap : Nat} {bs : List Int} (h : w.ownsRow base 5 1 (.slice (some ⟨g, 0, Option.none⟩) n cap) n (bs.map (Value.int .u8))) : Lies w (some ⟨g, 0, Option.none⟩) n cap bs := by
  have hl : bs.length = n := by simpa using h.1
  refine ⟨hl, ?_, (fun h => by cases h), fun ad had t u hu => ?_⟩
  · rcases h.2 with ⟨hv, _⟩ | ⟨g', cap', cur, hv, _, _, hnc, _⟩
    · cases hv
    · cases hv; exact hnc
  · obtain rfl := Option.some.inj had
    have ht : t < n := by
      have := (List.getElem?_eq_some_iff.1 hu).1
      simpa [hl] using this
    rw [Addr.add_lit, Nat.zero_add, h.cellAt t (by omega)]
    exact hu
theorem Lies.nil (w : World) : Lies w Option.none 0 0 [] := ⟨rfl, Nat.le_refl _, fun _ => ⟨rfl, rfl⟩, fun _ h => by cases h⟩

theorem ownsRow_mono {w : World} {base base' : Nat} {e : TypeId} {size : Nat} {v : Value} {n : Nat} {xs : List Value} (h : w.ownsRow base e size v n xs) (hb : base' ≤ base) : w.ownsRow base' e size v n xs := by
  obtain ⟨h1, h2⟩ := h
  refine ⟨h1, ?_⟩
  rcases h2 with h2 | ⟨g, cap, cur, hv, hg, r⟩
  · exact Or.inl h2
  · exact Or.inr ⟨g, cap, cur, hv, Nat.le_trans hb hg, r⟩

/-- The n of Go's padding. -/
def padN (n : Nat) : Nat := (4 - n % 4) % 4
end Go.Proofs.YtjkmdacgiebbfaaDoor
