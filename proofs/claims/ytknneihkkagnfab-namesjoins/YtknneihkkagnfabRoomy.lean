/- annexlaw3.roomy: the texts, and two more behind them, in new memory. -/
import Derived.Test.YtknneihkkagnfabRJoin
namespace Go.Proofs.Ytknneihkkagnfab
open Go.RowKit
set_option maxRecDepth 100000

/-- The two texts of the spare room. -/
def two : List ByteArray := [⟨#[109, 97, 114, 107]⟩, ⟨#[109, 111, 114, 101]⟩]

theorem oneCells (xs : List ByteArray) : ∀ u, u ∈ xs.map Value.string → u.oneCell' = true := by
  intro u hu
  obtain ⟨x, _, rfl⟩ := List.mem_map.1 hu
  rfl

set_option maxHeartbeats 1000000 in
theorem roomy_any (ao : Option Addr) (n c : Nat) (xs : List ByteArray) (w : World) (hn : n ≤ 8796093021952) (hL : Lies w ao n c xs) :
    Calls Try.prog 11 #[.slice ao n c] w fun e w' => ∃ g cap, e = .returned (.slice (some ⟨g, 0, none⟩) (n + 2) cap) ∧ w'.ownsRow w.heap.size 9 1 (.slice (some ⟨g, 0, none⟩) (n + 2) cap) (n + 2) ((xs ++ two).map Value.string) ∧ Below w.heap.size w w' := by
  obtain ⟨i0, hi, hz0, hz1, hz2⟩ := info_parts Try.info9
  have hlx := hL.hlen
  have hown0 : w.ownsRow w.heap.size 9 1 (.slice none 0 0) 0 ([] : List Value) := ⟨rfl, Or.inl ⟨rfl, rfl⟩⟩
  cases ao with
  | none =>
    obtain ⟨rfl, rfl⟩ := hL.hnone rfl
    obtain rfl := List.eq_nil_of_length_eq_zero hlx
    go_enter Try.func11, Try.ntmps11
    go_wp2_with (at_builtin; refine wpList_append_own _ rfl (.tmp 7) (.tmp 8) 22 rfl w.heap.size 9 i0 (.string ⟨#[]⟩) 1 16 Try.underlying22 hi hz0 hz1 hz2 rfl (by decide) _ _ _ rfl (hown0.alloc _) ⟨w.heap.size, 0, none⟩ 2 2 (two.map Value.string) rfl rfl (fun j u hu => (lies_two _ _ _).hcells _ rfl j u hu) (oneCells two) (by unfold maxLen; omega) (by omega) (by simp) ?_; intro v2 w2 hown2 hgrow2 _)
    go_ret
    rcases hown2.2 with ⟨_, h⟩ | ⟨g, cap, cur, rfl, r⟩
    · omega
    · exact ⟨g, cap, rfl, by simpa using hown2, ((Below.refl _ w).alloc (Nat.le_refl _) _).grown hgrow2 (by simp) (fun k hk => by cases hk)⟩
  | some ad =>
    go_enter Try.func11, Try.ntmps11
    go_wp2_with (first | (at_builtin; refine wpList_append_own _ rfl (.tmp 4) (.tmp 5) 22 rfl w.heap.size 9 i0 (.string ⟨#[]⟩) 1 16 Try.underlying22 hi hz0 hz1 hz2 rfl (by decide) _ _ _ rfl hown0 ad n c (xs.map Value.string) rfl (by simp [hlx]) (fun j u hu => hL.hcells ad rfl j u hu) (oneCells xs) (by unfold maxLen; omega) (by omega) (Nat.le_refl _) ?_; intro v1 w1 hown1 hgrow1 _; have hsz1 := hgrow1.size) | (at_builtin; refine wpList_append_own _ rfl (.tmp 7) (.tmp 8) 22 rfl w.heap.size 9 i0 (.string ⟨#[]⟩) 1 16 Try.underlying22 hi hz0 hz1 hz2 rfl (by decide) _ _ _ rfl (hown1.alloc _) ⟨w1.heap.size, 0, none⟩ 2 2 (two.map Value.string) rfl rfl (fun j u hu => (lies_two _ _ _).hcells _ rfl j u hu) (oneCells two) (by unfold maxLen; omega) (by omega) (by simp; omega) ?_; intro v2 w2 hown2 hgrow2 _))
    go_ret
    have hb1 : Below w.heap.size w w1 := (Below.refl _ w).grown hgrow1 (Nat.le_refl _) (fun k hk => by cases hk)
    have hb2 : Below w.heap.size w w2 := (hb1.alloc hb1.size _).grown hgrow2 (by have := hb1.size; simp; omega) (fun k hk => (hown1.lt k hk).1)
    rcases hown2.2 with ⟨_, h⟩ | ⟨g, cap, cur, rfl, r⟩
    · omega
    · exact ⟨g, cap, by simp, by simpa using hown2, hb2⟩
end Go.Proofs.Ytknneihkkagnfab
