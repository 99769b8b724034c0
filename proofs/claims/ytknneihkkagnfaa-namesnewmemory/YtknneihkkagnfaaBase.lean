/- A list of texts in memory, and plain words on worlds. -/
import Derived.Test.YtknneihkkagnfaaMath
import Derived.WalkKit
import Derived.WalkSpells
import Derived.WalkLawsBesides
import Derived.BigQuiet
import Derived.Deep.QuietTactic
import Derived.OpenShut
import Derived.Laws.BitsAllLaws
namespace Go.Proofs.Ytknneihkkagnfaa
open Go.RowKit
set_option maxRecDepth 100000

theorem Try.info9 : (Try.prog.info? 9).map (fun i => (i.zero, i.size, i.bytes)) = some (some (.string ⟨#[]⟩), 1, 16) := by kernel_rfl

/-- A fact kept from the walk's simplifier. -/
structure Hid (p : Prop) : Prop where
  out : p

/-- The slice value '.slice ao len cap' reads as the texts xs. -/
structure Lies (w : World) (ao : Option Addr) (len cap : Nat) (xs : List ByteArray) : Prop where
  hlen : xs.length = len
  hle : len ≤ cap
  hnone : ao = none → len = 0 ∧ cap = 0
  hcells : ∀ ad, ao = some ad → ∀ t u, (xs.map Value.string)[t]? = some u → w.cell? (ad.add t) = some u

theorem add_block (a : Addr) (t : Nat) : (a.add t).block = a.block := by cases a; simp [Addr.add]; try (split <;> rfl)
theorem Lies.below {B : Nat} {w w' : World} {ao : Option Addr} {len cap : Nat} {xs : List ByteArray} (h : Lies w ao len cap xs) (hb : Below B w w') (hB : w.heap.size ≤ B) : Lies w' ao len cap xs :=
  ⟨h.hlen, h.hle, h.hnone, fun ad had t u hu => by
    have hc := h.hcells ad had t u hu
    exact (hb.cell (Nat.lt_of_lt_of_le (World.block_lt_of_cell? w _ hc) hB)).trans hc⟩
theorem Lies.grown {w w' : World} {row : Option Nat} {ao : Option Addr} {len cap : Nat} {xs : List ByteArray} (h : Lies w ao len cap xs) (hg : w.grownBy w' row) (hne : ∀ ad, ao = some ad → some ad.block ≠ row) : Lies w' ao len cap xs :=
  ⟨h.hlen, h.hle, h.hnone, fun ad had t u hu => hg.cell (h.hcells ad had t u hu) (by rw [add_block]; exact hne ad had)⟩
theorem Lies.nil (w : World) : Lies w Option.none 0 0 [] := ⟨rfl, Nat.le_refl _, fun _ => ⟨rfl, rfl⟩, fun _ h => by cases h⟩

/-- A row of the call's own reads as its texts. -/
theorem Lies.owned {w : World} {base n cap : Nat} {ao : Option Addr} {xs : List ByteArray} (h : w.ownsRow base 9 1 (.slice ao n cap) n (xs.map Value.string)) : Lies w ao n cap xs := by
  have hl : xs.length = n := by simpa using h.1
  rcases h.2 with ⟨hv, hn⟩ | ⟨g', cap', cur, hv, _, _, hnc, _⟩
  · cases hv
    obtain rfl := List.eq_nil_of_length_eq_zero (by omega : xs.length = 0)
    exact Lies.nil w
  · cases hv
    refine ⟨hl, hnc, (fun h => by cases h), fun ad had t u hu => ?_⟩
    obtain rfl := Option.some.inj had
    have ht : t < n := by
      have := (List.getElem?_eq_some_iff.1 hu).1
      simpa [hl] using this
    rw [Addr.add_lit, Nat.zero_add, h.cellAt t (by omega)]
    exact hu
theorem own_len {w : World} {base n : Nat} {v : Value} {xs : List ByteArray} (h : w.ownsRow base 9 1 v n (xs.map Value.string)) : ∃ ao c, v = .slice ao n c := by
  rcases h.2 with ⟨hv, rfl⟩ | ⟨g', cap', cur, hv, _⟩
  · exact ⟨none, 0, hv⟩
  · exact ⟨_, _, hv⟩
theorem ownsRow_mono {w : World} {base base' : Nat} {e : TypeId} {size : Nat} {v : Value} {n : Nat} {xs : List Value} (h : w.ownsRow base e size v n xs) (hb : base' ≤ base) : w.ownsRow base' e size v n xs := by
  obtain ⟨h1, h2⟩ := h
  refine ⟨h1, ?_⟩
  rcases h2 with h2 | ⟨g, cap, cur, hv, hg, r⟩
  · exact Or.inl h2
  · exact Or.inr ⟨g, cap, cur, hv, Nat.le_trans hb hg, r⟩

/-- The address of a list that is not empty, written out. -/
theorem Lies.at {w : World} {ao : Option Addr} {len cap : Nat} {xs : List ByteArray} (h : Lies w ao len cap xs) (hp : 0 < len) :
    ∃ b o, ao = some ⟨b, o, none⟩ ∧ b < w.heap.size ∧ ∀ t (ht : t < xs.length), w.cell? ⟨b, o + t, none⟩ = some (.string xs[t]) := by
  cases ao with
  | none => have := (h.hnone rfl).1; omega
  | some ad =>
    have hc : ∀ i (hi : i < xs.length), w.cell? (ad.add i) = some (.string xs[i]) := fun i hi => h.hcells ad rfl i _ (by simp [hi])
    obtain ⟨b, off, spot⟩ := ad
    have h0 := hc 0 (by rw [h.hlen]; exact hp)
    have hspot : spot = none := by simpa [Addr.add] using World.cell?_spot h0
    subst hspot
    refine ⟨b, off, rfl, ?_, fun t ht => by rw [← Go.WideShapes.add_plain]; exact hc t ht⟩
    have := World.block_lt_of_cell? w _ h0
    simpa [add_block] using this
end Go.Proofs.Ytknneihkkagnfaa
