/- A book of lists in memory; annexlaw1.mark by its contract. -/
import Derived.Test.YtjpaooejkbkliabDoorSplit
import Derived.Test.YtjpaooejkbkliabDoorWant
namespace Go.Proofs.YtjpaooejkbkliabDoor
open Go.RowKit
set_option maxRecDepth 100000

/-- What stands at the place j of the i-th list. -/
def markI (i j : Nat) : Int := ((i * 167 + i / 256 * 91 + j * 29 : Nat) : Int) % 256
def marks (i n : Nat) : List Int := (List.range n).map (markI i)
theorem markI_small (i j : Nat) : 0 ≤ markI i j ∧ markI i j ≤ 255 := by unfold markI; omega
theorem marks_length (i n : Nat) : (marks i n).length = n := by simp [marks]
theorem marks_snoc (i n : Nat) : marks i (n + 1) = marks i n ++ [markI i n] := by simp [marks, List.range_succ]

set_option maxHeartbeats 400000 in
theorem mark56 (i j : Nat) (w : World) (hi : i ≤ 1000000000000) (hj : j ≤ 1000000000000) :
    Calls Tryd.prog 32 #[.int .i64 i, .int .i64 j] w fun e w' => e = .returned (.int .u8 (markI i j)) ∧ w' = w := by
  have h1 : (i : Int) ≤ 1000000000000 := by omega
  have h2 : (j : Int) ≤ 1000000000000 := by omega
  have h3 : (0 : Int) ≤ i := by omega
  have h4 : (0 : Int) ≤ j := by omega
  go_enter Tryd.func32, Tryd.ntmps32
  go_wp2
  go_ret
  refine ⟨?_, rfl⟩
  unfold markI
  have e : ((i * 167 + i / 256 * 91 + j * 29 : Nat) : Int) = (i : Int) * 167 + (i : Int) / 256 * 91 + (j : Int) * 29 := by omega
  rw [e]
  rfl

/-- A list of the book: where it lies, how long it is. -/
structure Ent where
  ao : Option Addr
  len : Nat
  cap : Nat
def Ent.val (e : Ent) : Value := .slice e.ao e.len e.cap

/-- A book in memory: its box, its two rows, its lists, each with its marks; 'B' holds of every block that is the book's. -/
structure Bk (w : World) (base bk : Nat) (B : Nat → Prop) (es : List Ent) : Prop where
  rows : ∃ vL vN, w.heap[bk]? = some (.cells #[vL, vN] 35) ∧ w.ownsRow base 22 1 vL es.length (es.map Ent.val) ∧ w.ownsRow base 3 1 vN es.length (es.map fun e => Value.int .i64 (e.len : Int)) ∧
    (∀ k, vL.ownBlock = some k → B k) ∧ (∀ k, vN.ownBlock = some k → B k)
  hbk : base ≤ bk ∧ B bk
  lies : ∀ i (h : i < es.length), Lies w (es[i]).ao (es[i]).len (es[i]).cap (marks (i / 3) (es[i]).len)
  mine : ∀ e ∈ es, ∀ ad, e.ao = some ad → B ad.block ∧ base ≤ ad.block ∧ ∃ cs, w.heap[ad.block]? = some (.cells cs 5)
/-- What leaves the book's blocks alone leaves the book. -/
theorem Bk.keep {w w' : World} {base bk : Nat} {B : Nat → Prop} {es : List Ent} (h : Bk w base bk B es) (hk : ∀ k, k < w.heap.size → B k → w'.heap[k]? = w.heap[k]?) : Bk w' base bk B es := by
  obtain ⟨⟨vL, vN, hb, hL, hN, hBL, hBN⟩, hbk, hl, hm⟩ := h
  have own : ∀ {e n : Nat} {v : Value} {xs : List Value}, w.ownsRow base e 1 v n xs → (∀ k, v.ownBlock = some k → B k) → w'.ownsRow base e 1 v n xs := by
    intro e n v xs ho hB
    obtain ⟨h1, h2⟩ := ho
    refine ⟨h1, ?_⟩
    rcases h2 with h2 | ⟨g, cap, cur, hv, hg, hh, r⟩
    · exact Or.inl h2
    · refine Or.inr ⟨g, cap, cur, hv, hg, (hk g (lt_of_block hh) (hB g ?_)).trans hh, r⟩
      subst hv; rfl
  refine ⟨⟨vL, vN, (hk bk (lt_of_block hb) hbk.2).trans hb, own hL hBL, own hN hBN, hBL, hBN⟩, hbk, fun i hi => ?_, fun e he ad had => ?_⟩
  · have hli := hl i hi
    refine ⟨hli.hlen, hli.hle, hli.hnone, fun ad had t u hu => ?_⟩
    obtain ⟨hB, _, cs, hcs⟩ := hm _ (List.getElem_mem hi) ad had
    have hc := hli.hcells ad had t u hu
    rw [← hc]
    exact World.cell?_of_block (w := w) (by rw [add_block]; exact hk _ (lt_of_block hcs) hB)
  · obtain ⟨hB, hbs, cs, hcs⟩ := hm e he ad had
    exact ⟨hB, hbs, cs, (hk _ (lt_of_block hcs) hB).trans hcs⟩
theorem Bk.below {w w' : World} {base bk : Nat} {B : Nat → Prop} {es : List Ent} (h : Bk w base bk B es) (hb : Below w.heap.size w w') : Bk w' base bk B es := h.keep fun k hk _ => hb.block k hk
end Go.Proofs.YtjpaooejkbkliabDoor
