/- The device's small functions by their contracts: copied, canBe, blocks, has, block, burn; the lock. -/
import Derived.Test.YtejfbjjhnhlagaaDev
import Derived.Test.YtejfbjjhnhlagaaLocks
import Derived.Test.YtejfbjjhnhlagaaSame
import Derived.Deep.OwnRows
namespace Go.Proofs.Ytejfbjjhnhlagaa
open Go.RowKit
open Go.MuLone
set_option maxRecDepth 100000

theorem made_row (w : World) (n : Nat) : (w.alloc (.cells (madeCells #[.int .u8 0] n) 5)).heap[w.heap.size]? = some (.cells (List.replicate n (Value.int .u8 0)).toArray 5 (0, 0)) := by
  have e : madeCells #[Value.int .u8 0] n = (List.replicate n (Value.int .u8 0)).toArray := by
    rw [← toList_madeCells_one]
  rw [e]
  exact (MapKept.heap_alloc w _).1
theorem splice_whole {α : Type} (L cs : List α) (h : cs.length = L.length) : splice L 0 cs = cs := by
  simp [splice, h]

set_option maxHeartbeats 1000000 in
theorem copied_any (ao : Option Addr) (n c : Nat) (bs : List Int) (w : World) (hn : n ≤ 140737488355328) (hL : Lies w ao n c bs) :
    Calls Try.prog 47 #[.slice ao n c] w fun e w' => ∃ g, e = .returned (.slice (some ⟨g, 0, none⟩) n n) ∧ w.heap.size ≤ g ∧ w'.heap[g]? = some (bl bs) ∧ Below w.heap.size w w' := by
  obtain ⟨i0, hi, hz0, hz1, hz2⟩ := info_parts Try.info5
  have hni : (n : Int) ≤ 140737488355328 := by omega
  have hlen := hL.hlen
  have hsz : (Try.prog.info? 5).map (·.size) = some 1 := by rw [hi]; simp [hz1]
  have hL1 : Lies (w.alloc (.cells (madeCells #[.int .u8 0] n) 5)) ao n c bs := hL.below ((Below.refl _ w).alloc (Nat.le_refl _) _) (Nat.le_refl _)
  have hpos : 0 < (bs.map (Value.int .u8)).length → (some ⟨w.heap.size, 0, none⟩ : Option Addr) = some ⟨w.heap.size, 0, none⟩ ∧ ∃ ad, ao = some ad ∧ ∀ j v, (bs.map (Value.int .u8))[j]? = some v → (w.alloc (.cells (madeCells #[.int .u8 0] n) 5)).cell? (ad.add j) = some v := fun hp => by
    cases hao : ao with
    | none => have := (hL.hnone hao).1; simp at hp; omega
    | some ad => exact ⟨rfl, ad, rfl, hL1.hcells ad hao⟩
  have hrow := made_row w n
  have hbel : Below w.heap.size w (w.alloc (.cells (madeCells #[.int .u8 0] n) 5)) := (Below.refl _ w).alloc (Nat.le_refl _) _
  go_enter Try.func47, Try.ntmps47
  go_wp2_with (first
    | (at_make; (refine wpList_make_row _ rfl _ _ 33 rfl 5 i0 (.int .u8 0) Try.underlying33 hi hz0 hz1 rfl _ _ n rfl rfl (by rw [hz2]; omega) (by omega) ?_))
    | (refine wpList_copy_splice rfl _ _ 33 33 rfl 5 Try.underlying33 hsz _ _ _ _ _ _ rfl rfl w.heap.size 0 (List.replicate n (Value.int .u8 0)) 5 hrow (bs.map (Value.int .u8)) (by simp [hlen]) hpos (by simp [hlen]) (ints_oneCell _ _) w.heap.size w hbel (Nat.le_refl _) ?_; intro w2 HG2 hB2))
  go_ret
  refine ⟨_, rfl, Nat.le_refl _, ?_, hB2⟩
  rw [HG2.out, splice_whole _ _ (by simp [hlen])]

theorem canBe_any (n : Int) (w : World) : Calls Try.prog 40 #[.int .i64 n] w fun e w' => e = .returned (.bool (decide (1 ≤ n ∧ n ≤ 4096))) ∧ w' = w := by
  go_enter Try.func40, Try.ntmps40
  go_wp2
  all_goals go_ret
  all_goals refine ⟨?_, rfl⟩
  all_goals (try simp)
  all_goals (try omega)

theorem blocks_any (db : Nat) (k : Nat) (gl : Option Addr) (w : World) (hk : k ≤ 4096) (c2 : w.cell? ⟨db, 2, none⟩ = some (.slice gl (512 * k) (512 * k))) :
    Calls Try.prog 52 #[.pointer (some ⟨db, 0, none⟩)] w fun e w' => e = .returned (.int .i64 k) ∧ w' = w := by
  go_enter Try.func52, Try.ntmps52
  go_wp2
  go_ret
  refine ⟨?_, rfl⟩
  congr 2

theorem has_any (db : Nat) (k : Nat) (gl : Option Addr) (b : Int) (w : World) (hk : k ≤ 4096) (c2 : w.cell? ⟨db, 2, none⟩ = some (.slice gl (512 * k) (512 * k))) :
    Calls Try.prog 44 #[.pointer (some ⟨db, 0, none⟩), .int .i64 b] w fun e w' => e = .returned (.bool (decide (0 ≤ b ∧ b < k))) ∧ w' = w := by
  go_enter Try.func44, Try.ntmps44
  go_wp2_with (go_at_call 52; refine (blocks_any db k gl _ hk c2).mono ?_; rintro e wn ⟨rfl, hwn⟩; subst wn)
  all_goals go_ret
  all_goals refine ⟨?_, rfl⟩
  all_goals (try simp)
  all_goals (try omega)

theorem block_any (db : Nat) (k gl : Nat) (b : Nat) (w : World) (hb : b < k) (hk : k ≤ 4096) (c2 : w.cell? ⟨db, 2, none⟩ = some (.slice (some ⟨gl, 0, none⟩) (512 * k) (512 * k))) :
    Calls Try.prog 48 #[.pointer (some ⟨db, 0, none⟩), .int .i64 b] w fun e w' => e = .returned (.slice (some ⟨gl, 512 * b, none⟩) 512 (512 * k - 512 * b)) ∧ w' = w := by
  have h1 : (b : Int) < k := by omega
  have h2 : (k : Int) ≤ 4096 := by omega
  go_enter Try.func48, Try.ntmps48
  go_wp2
  go_ret
  refine ⟨?_, rfl⟩
  have e1 : b * 512 = 512 * b := by omega
  have e2 : (b + 1) * 512 - b * 512 = 512 := by omega
  show Ending.returned (.slice (some ⟨gl, b * 512, none⟩) ((b + 1) * 512 - b * 512) (512 * k - b * 512)) = _
  rw [e2, e1]

/-- The lock is taken. -/
theorem lock_dev {w : World} {db : Nat} {S : DevS} {k N gl bm : Nat} {q : Int} {pv : Value} {gs : List Nat} {Dm : DataW Value} (h : DevX w db 0 S k N gl bm q pv gs Dm) :
    Calls Try.prog 42 #[.pointer (some ⟨db, 0, none⟩)] w fun e w' => e = .returned (.tuple #[]) ∧ DevX w' db 1 S k N gl bm q pv gs Dm ∧ Turns (fun i => i = db) w w' := by
  refine (lock_free muLib ⟨db, 0, none⟩ w h.cells.1 (h.cells.2.2.2.2.2.2 0)).mono ?_
  rintro e w' ⟨rfl, rfl⟩
  exact ⟨rfl, h.db 0 _ ⟨rfl, rfl, h.good.fuse⟩ rfl, Turns.cell w db 0 _⟩
/-- The lock is let go, by a deferred call. -/
theorem unlock_dev {w : World} {db : Nat} {S : DevS} {k N gl bm : Nat} {q : Int} {pv : Value} {gs : List Nat} {Dm : DataW Value} (u : FrameMode) (h : DevX w db 1 S k N gl bm q pv gs Dm) :
    CallsD Try.prog 43 #[.pointer (some ⟨db, 0, none⟩)] u w fun e u' w' => u' = u ∧ e = .returned (.tuple #[]) ∧ DevX w' db 0 S k N gl bm q pv gs Dm ∧ Turns (fun i => i = db) w w' := by
  refine (unlock_deferred muLib ⟨db, 0, none⟩ u w h.cells.1 (h.cells.2.2.2.2.2.2 0)).mono ?_
  rintro e u' w' ⟨rfl, rfl, rfl⟩
  exact ⟨rfl, rfl, h.db 0 _ ⟨rfl, rfl, h.good.fuse⟩ rfl, Turns.cell w db 0 _⟩

set_option maxHeartbeats 1000000 in
theorem burn_any {w : World} {db : Nat} {st : Int} {S : DevS} {k N gl bm : Nat} {q : Int} {pv : Value} {gs : List Nat} {Dm : DataW Value} (h : DevX w db st S k N gl bm q pv gs Dm) :
    Calls Try.prog 45 #[.pointer (some ⟨db, 0, none⟩)] w fun e w' => e = .returned (.tuple #[]) ∧ DevX w' db st (burnt S) k N gl bm q pv gs Dm ∧ Turns (fun i => i = db) w w' := by
  obtain ⟨c0, c2, c3, c4, c5, c6, fz⟩ := h.cells
  have f5 := fz 5
  have f6 := fz 6
  have hfu := h.good.fuse
  by_cases h0 : S.fuse = 0
  · have e0 : burnt S = S := by unfold burnt; rw [if_pos h0]
    rw [e0]
    rw [h0] at c5
    have HX : Hid (DevX w db st S k N gl bm q pv gs Dm) := h
    clear h fz
    go_enter Try.func45, Try.ntmps45
    go_wp2
    (first | go_end0 | refine bodyPost_ret (results_none rfl _ _ _) rfl ?_)
    exact ⟨rfl, HX.out, Turns.refl _ _⟩
  · obtain ⟨f, hf⟩ : ∃ f, S.fuse = f + 1 := ⟨S.fuse - 1, by omega⟩
    have hs := h.db (S' := { S with fuse := f }) (st' := st) 5 (.int .i64 f) ⟨rfl, rfl, by simp; omega⟩ rfl
    have HX : Hid _ := hs
    by_cases h1 : f = 0
    · have e0 : burnt S = { S with fuse := f, off := true } := by unfold burnt; rw [if_neg h0, hf, h1]; simp
      have hs2 := hs.db (S' := { S with fuse := f, off := true }) (st' := st) 6 (.bool true) ⟨rfl, rfl, by simp; omega⟩ rfl
      have HX2 : Hid _ := hs2
      rw [e0]
      have hfi : (S.fuse : Int) = 1 := by omega
      subst h1
      rw [hfi] at c5
      clear h fz hs hs2
      go_enter Try.func45, Try.ntmps45
      go_wp2
      (first | go_end0 | refine bodyPost_ret (results_none rfl _ _ _) rfl ?_)
      exact ⟨rfl, HX2.out, (Turns.cell w db 5 _).trans (Turns.cell _ db 6 _) (fun _ _ h => h)⟩
    · have e0 : burnt S = { S with fuse := f } := by unfold burnt; rw [if_neg h0, hf, decide_eq_false (by omega)]; simp
      rw [e0]
      have hfi : (S.fuse : Int) = f + 1 := by omega
      have hne : ((f : Int) == 0) = false := by simp; omega
      have hfb : (f : Int) ≤ 9223372036854775806 := by omega
      rw [hfi] at c5
      clear h fz hs
      go_enter Try.func45, Try.ntmps45
      go_wp2
      (first | go_end0 | refine bodyPost_ret (results_none rfl _ _ _) rfl ?_)
      exact ⟨rfl, HX.out, Turns.cell w db 5 _⟩
end Go.Proofs.Ytejfbjjhnhlagaa
