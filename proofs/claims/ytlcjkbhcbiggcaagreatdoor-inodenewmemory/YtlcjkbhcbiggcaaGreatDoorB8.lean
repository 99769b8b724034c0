/- all. -/
import Derived.Test.YtlcjkbhcbiggcaaGreatDoorBM
namespace Go.Proofs.YtlcjkbhcbiggcaaGreatDoor
open Go.RowKit Go.Maps
set_option maxRecDepth 100000

attribute [local go_sem ↓ 100000] ly_ex
set_option maxHeartbeats 4000000 in
theorem all9_any {w0 w : World} {wb N : Nat} {c : Kc} {i : Nat} {F : Nat → Prop} {v : Nat → List Int} {ks : List Nat} {m : Nat} {T : Nat → Rec} (h : St w0 w wb N c i F v ks m T) :
    Calls Tryz.prog 11 #[.pointer (some ⟨wb, 0, none⟩)] w fun e w' => ∃ lv, e = .returned (.tuple #[lv, .int .i64 0]) ∧ w'.ownsRow w.heap.size 38 13 lv (used T N).length (inLs (used T N)) ∧ Rz w w' w.heap.size c i F v ks m 34 none := by
  obtain ⟨k1, x1⟩ := h.cells
  obtain ⟨k1d, x1d⟩ := h.drew.cells
  have hF := h.tv.lt
  go_enter Tryz.func11, Tryz.ntmps11
  go_wp2_with fail
  go_region_held3 (fun w' => w'.cell? ⟨wb, 23, none⟩ = some (.pointer (some ⟨c.tb, 0, none⟩)) ∧ (LyEx (.pointer (some ⟨wb, 0, none⟩))).run Tryz.prog w' = .ok (.value (lyV (lay9 N))) w')
    (first | exact ⟨k1, x1⟩ | exact ⟨k1d, x1d⟩ | exact ⟨k2, x2⟩)
    (first
      | (go_at_call 40; refine (all_any h.drew.tv h.geo h.R).mono ?_; rintro e w2 r2; obtain ⟨lv, rfl, o2, T2, t2⟩ := r2; have B2 := h.drew.B.turns t2 h.nF; have k2 := B2.cells.c23; have x2 := LyEx.mid B2.cells.ly rfl))
  clear k1 x1 k1d x1d k2 x2
  go_wp2_with fail
  refine (num9_any _ _).mono ?_
  rintro e wq ⟨rfl, hq⟩
  subst wq
  go_wp2_with fail
  refine bodyPost_ret (results_tmp2 rfl _ _ _) rfl ?_
  exact ⟨_, rfl, o2, T2, (Turns.drewN F w 1).trans t2 (fun _ _ q => q)⟩
/-- All tells its inodes by slots. -/
theorem used_slot {T : Nat → Rec} {N : Nat} {x : Ino} (hx : x ∈ used T N) (hN : N ≤ 256) : 0 ≤ x.id % 256 ∧ x.id % 256 < (N : Int) := by
  obtain ⟨n, h1, _, rfl⟩ := (used_mem T x N).1 hx
  show 0 ≤ ((T n).gen * 256 + (n : Int)) % 256 ∧ ((T n).gen * 256 + (n : Int)) % 256 < (N : Int)
  omega
theorem used_pair (T : Nat → Rec) : ∀ N, N ≤ 256 → (used T N).Pairwise (fun x y => x.id % 256 < y.id % 256)
  | 0, _ => List.Pairwise.nil
  | N + 1, h => by
    unfold used
    rw [List.pairwise_append]
    refine ⟨used_pair T N (by omega), ?_, fun x hx y hy => ?_⟩
    · split <;> simp
    · have hs := used_slot hx (by omega)
      split at hy
      · simp at hy
      · obtain rfl : y = _ := by simpa using hy
        show x.id % 256 < ((T N).gen * 256 + (N : Int)) % 256
        omega
theorem used_lt {T : Nat → Rec} {N j : Nat} {x y : Ino} (hN : N ≤ 256) (h1 : (used T N)[j]? = some x) (h2 : (used T N)[j + 1]? = some y) : x.id % 256 < y.id % 256 := by
  obtain ⟨a1, a2⟩ := List.getElem?_eq_some_iff.1 h1
  obtain ⟨b1, b2⟩ := List.getElem?_eq_some_iff.1 h2
  have := List.pairwise_iff_getElem.1 (used_pair T N hN) j (j + 1) a1 b1 (by omega)
  rwa [a2, b2] at this
end Go.Proofs.YtlcjkbhcbiggcaaGreatDoor
