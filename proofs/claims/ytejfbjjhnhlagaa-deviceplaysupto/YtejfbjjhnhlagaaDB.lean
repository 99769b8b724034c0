/- holding, New, Image, pend by their contracts. -/
import Derived.Test.YtejfbjjhnhlagaaDA
namespace Go.Proofs.Ytejfbjjhnhlagaa
open Go.RowKit Go.Maps
open Go.MuLone
set_option maxRecDepth 100000

theorem law3 : Keyed Try.prog 3 := int_keyed Try.underlying3
theorem Try.info69 : (Try.prog.info? 69).map (fun i => (i.zero, i.size, i.bytes)) = some (some (.agg #[.int .i64 0, .slice none 0 0]), 2, 32) := by kernel_rfl

set_option maxHeartbeats 1000000 in
theorem holding_any (g k : Nat) (bs : List Int) (w : World) (hb : w.heap[g]? = some (bl bs)) (hG : Good (fresh bs) k) :
    Calls Try.prog 41 #[.slice (some ⟨g, 0, none⟩) (512 * k) (512 * k)] w fun e w' => ∃ db, e = .returned (.pointer (some ⟨db, 0, none⟩)) ∧ Dev w' db 0 (fresh bs) k 0 (grow (fun i => i = g) w w') ∧ Below w.heap.size w w' ∧ w.heap.size ≤ db := by
  have hglt := heap_lt hb
  have hM := World.ownsMap_made w Try.prog 3 RV
  have hb1 : Below w.heap.size w (w.alloc (.map #[] 0)) := (Below.refl _ w).alloc (Nat.le_refl _) _
  have hb2 : ∀ o, Below w.heap.size w ((w.alloc (.map #[] 0)).alloc o) := fun o => hb1.alloc hb1.size o
  have hh := fun o => (MapKept.heap_alloc (w.alloc (.map #[] 0)) o).1
  have hs1 : (w.alloc (.map #[] 0)).heap.size = w.heap.size + 1 := by simp
  have hmm := fun (w : World) => run_makeMap (P := Try.prog) 84 w
  go_enter Try.func41, Try.ntmps41
  go_wp2
  go_ret
  refine ⟨w.heap.size + 1, rfl, ⟨g, w.heap.size, 0, .slice none 0 0, [], .map [], ⟨hG, ?_, ?_, World.ownsRow_nil _ _ _ _, rfl, Nat.le_refl _, (fun i p g h => by simp [fresh] at h), ?_, ?_, by omega, by simp, by simp, by simp [Value.ownBlock], by simp [Value.ownBlock], by simp⟩, ⟨by simp [grow], by simp [grow], by simp [grow]; omega, (fun b h => by simp [Value.ownBlock] at h), by simp⟩, ?_⟩, hb2 _, by omega⟩
  · rw [← hs1, hh]; rfl
  · exact ((hb2 _).block g hglt).trans hb
  · exact hM.alloc _
  · intro b hb
    exact ⟨rfl, fun zd => rfl⟩
  · intro i hi
    rcases hi with rfl | h
    · simp; omega
    · exact h.2

theorem zeros_bl (w : World) (n : Nat) : (w.alloc (.cells (madeCells #[.int .u8 0] n) 5)).heap[w.heap.size]? = some (bl (List.replicate n 0)) := by
  rw [made_row]; simp

set_option maxHeartbeats 1000000 in
theorem new_good (k : Nat) (w : World) (h1 : 1 ≤ k) (h2 : k ≤ 4096) :
    Calls Try.prog 10 #[.int .i64 k] w fun e w' => ∃ db, e = .returned (.pointer (some ⟨db, 0, none⟩)) ∧ Dev w' db 0 (fresh (List.replicate (512 * k) 0)) k 0 (grow (fun _ => False) w w') ∧ Below w.heap.size w w' := by
  obtain ⟨i0, hi, hz0, hz1, hz2⟩ := info_parts Try.info5
  have h1i : (1 : Int) ≤ k := by omega
  have h2i : (k : Int) ≤ 4096 := by omega
  have hk := decide_eq_true (show (1 : Int) ≤ k ∧ (k : Int) ≤ 4096 from ⟨h1i, h2i⟩)
  have hG : Good (fresh (List.replicate (512 * k) 0)) k := Good.fresh (by simp) h1 h2 (fun x hx => by have := List.eq_of_mem_replicate hx; omega)
  have hz := zeros_bl w (512 * k)
  have hb1 : Below w.heap.size w (w.alloc (.cells (madeCells #[.int .u8 0] (512 * k)) 5)) := (Below.refl _ w).alloc (Nat.le_refl _) _
  go_enter Try.func10, Try.ntmps10
  go_wp2_with (first
    | (go_at_call 40; refine (canBe_any _ _).mono ?_; rintro e wn ⟨rfl, hwn⟩; subst wn; rw [hk])
    | (at_make; refine wpList_make_row _ rfl _ _ 33 rfl 5 i0 (.int .u8 0) Try.underlying33 hi hz0 hz1 rfl .i64 .i64 (512 * k) (by show Value.int .i64 ((k : Int) * 512) = _; congr 1; omega) (by show Value.int .i64 ((k : Int) * 512) = _; congr 1; omega) (by rw [hz2]; omega) (by omega) ?_))
  refine (holding_any w.heap.size k _ _ hz hG).mono ?_
  rintro e w2 ⟨db, rfl, hD, hb2, _⟩
  go_wp2
  go_ret
  have hs2 := hb2.size
  have hs1 := heap_lt hz
  refine ⟨db, rfl, hD.foot ?_ (fun i hi => (hi.elim False.elim id).2), hb1.trans (hb2.mono hb1.size)⟩
  rintro i (rfl | h)
  · exact Or.inr ⟨Nat.le_refl _, by omega⟩
  · exact Or.inr ⟨Nat.le_trans hb1.size h.1, h.2⟩

set_option maxHeartbeats 1000000 in
theorem new_bad (n : Int) (w : World) (h : ¬ (1 ≤ n ∧ n ≤ 4096)) :
    Calls Try.prog 10 #[.int .i64 n] w fun e w' => e = .returned (.pointer none) ∧ w' = w := by
  have hk := decide_eq_false h
  go_enter Try.func10, Try.ntmps10
  go_wp2_with (go_at_call 40; refine (canBe_any _ _).mono ?_; rintro e wn ⟨rfl, hwn⟩; subst wn; rw [hk])
  go_ret
  exact ⟨rfl, rfl⟩

set_option maxHeartbeats 1000000 in
theorem image_good (ao : Option Addr) (k c : Nat) (bs : List Int) (w : World) (h1 : 1 ≤ k) (h2 : k ≤ 4096) (hL : Lies w ao (512 * k) c bs) (hby : ∀ x ∈ bs, 0 ≤ x ∧ x ≤ 255) :
    Calls Try.prog 22 #[.slice ao (512 * k) c] w fun e w' => ∃ db, e = .returned (.tuple #[.pointer (some ⟨db, 0, none⟩), .int .i64 0]) ∧ Dev w' db 0 (fresh bs) k 0 (grow (fun _ => False) w w') ∧ Below w.heap.size w w' := by
  have h1i : (1 : Int) ≤ k := by omega
  have h2i : (k : Int) ≤ 4096 := by omega
  have hk := decide_eq_true (show (1 : Int) ≤ k ∧ (k : Int) ≤ 4096 from ⟨h1i, h2i⟩)
  have hG : Good (fresh bs) k := Good.fresh hL.hlen h1 h2 hby
  go_enter Try.func22, Try.ntmps22
  go_wp2_with (first
    | (go_at_call 40; refine (canBe_any _ _).mono ?_; rintro e wn ⟨rfl, hwn⟩; subst wn; rw [hk]))
  refine (copied_any ao _ c bs _ (by omega) hL).mono ?_
  rintro e w1 ⟨g, rfl, hg, hgb, hb1⟩
  go_wp2_with fail
  refine (holding_any g k _ _ hgb hG).mono ?_
  rintro e w2 ⟨db, rfl, hD, hb2, _⟩
  go_wp2
  go_ret2
  have hs2 := hb2.size
  have hs1 := heap_lt hgb
  refine ⟨db, rfl, hD.foot ?_ (fun i hi => (hi.elim False.elim id).2), hb1.trans (hb2.mono hb1.size)⟩
  rintro i (rfl | h)
  · exact Or.inr ⟨hg, by omega⟩
  · exact Or.inr ⟨Nat.le_trans hb1.size h.1, h.2⟩
end Go.Proofs.Ytejfbjjhnhlagaa
