/- What the bound of the second form gives: a list's length. -/
import Derived.Test.YtnnebmgiifnckabView
import Derived.JoinedCond
namespace Go.Proofs.Ytnnebmgiifnckab
open Go.ChangeShapes Go.WideShapes Go.ChangeAt Go.RowKit

theorem bulk_one {H : Type} (d : DataW H) : 1 ≤ Rows.uptoBulk d := by
  cases d with
  | lit l => cases l <;> simp [Rows.uptoBulk]
  | nil => simp [Rows.uptoBulk]
  | ptr d => simp [Rows.uptoBulk]
  | slice elems spare => simp [Rows.uptoBulk]
  | agg parts => simp [Rows.uptoBulk]
  | iface t d => simp [Rows.uptoBulk]
  | map entries => simp [Rows.uptoBulk]
  | held h => simp [Rows.uptoBulk]
theorem bulk_part {H : Type} {d : DataW H} {l : List (DataW H)} (h : d ∈ l) : Rows.uptoBulk d ≤ Rows.uptoBulkAll l := by
  induction l with
  | nil => cases h
  | cons x r ih =>
    simp only [Rows.uptoBulkAll]
    cases List.mem_cons.1 h with
    | inl e => subst e; omega
    | inr e => have := ih e; omega
theorem bulk_len {H : Type} (l : List (DataW H)) : l.length ≤ Rows.uptoBulkAll l := by
  induction l with
  | nil => simp [Rows.uptoBulkAll]
  | cons x r ih => have := bulk_one x; simp only [Rows.uptoBulkAll, List.length_cons]; omega
theorem bulk_said {H : Type} {l : List (DataW H)} (hk : Rows.uptoSmall H l = true) : Rows.uptoBulkAll l ≤ 1048576 := of_decide_eq_true hk

theorem upto_bytes {H : Type} {ds : List (DataW H)} {len : Nat} {Z : List Int} {d : DataW H} (hk : Rows.uptoSmall H ds = true) (hd : d ∈ ds) (hZ : Z.length = len) (h : len = 0 ∨ ∃ sp, d = .slice (lits .u8 Z) sp) : len ≤ 1048576 := by
  rcases h with h | ⟨sa, h⟩
  · omega
  · have h1 := bulk_said hk
    have h2 := bulk_part hd
    rw [h] at h2
    have h3 := bulk_len (lits (H := H) .u8 Z)
    simp only [Rows.uptoBulk] at h2
    simp only [lits, List.length_map, hZ] at h3 h2
    omega
end Go.Proofs.Ytnnebmgiifnckab
