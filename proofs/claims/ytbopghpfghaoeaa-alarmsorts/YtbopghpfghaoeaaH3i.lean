/- lay of a heap whose keys are ints, by its contract. -/
import Derived.Test.YtbopghpfghaoeaaH2i
import Derived.Deep.RegionLaw
import Derived.Deep.RegionHeldLaw
import Derived.Deep.RegionHeld3
import Derived.Deep.DrawnRows
namespace Go.Proofs.Ytbopghpfghaoeaa
open Go.RowKit Go.Maps
set_option maxRecDepth 100000
attribute [local go_sem ↓] Go.wp_at_zero Go.wp_at_succ
set_option maxHeartbeats 1000000 in
theorem lay_I {w : World} {lab : Nat → Nat} {k hb bm g : Nat} {rv : Value} {D : DataW Value} {f : Int → Option Nat} {l : List (Int × Int)} (h : Hx KI w lab k hb bm rv D f l g) (i : Nat) (hi : i < l.length) (x : Int × Int) (hx : KI.ok x.1) (ks : List Int) (hks : ks.length ≤ l.length) (hd : ∀ a, (upd f x.1 i a).isSome = true → a ∈ ks) :
    Calls Try.prog 65 #[.pointer (some ⟨hb, 0, none⟩), .int .i64 i, .agg #[.int .i64 x.1, .int .i64 x.2]] w fun e w' => e = .returned (.tuple #[]) ∧ (∃ D', Hx KI w' lab k hb bm rv D' (upd f x.1 i) (l.set i x) g) ∧ Turns (Fb bm rv) w w' := by
  obtain ⟨gr, cap, hrv, hcap, x0, x1, hfz⟩ := h.at (List.getElem?_eq_getElem hi)
  obtain ⟨c0, c1, c2, c3, fz⟩ := h.cells
  have hl := h.hl
  have a1 : (i : Int) < l.length := by omega
  have a2 : (0 : Int) ≤ i := by omega
  subst hrv
  go_enter Try.func65, Try.ntmps65
  obtain ⟨W, hW⟩ : ∃ W, w.alloc (.cells #[.int .i64 x.1, .int .i64 x.2] 88) = W := ⟨_, rfl⟩
  have hC : HxC KI W hb bm g (.slice (some ⟨gr, 0, none⟩) l.length cap) := by rw [← hW]; exact HxC.alloc ⟨c0, c1, c2, c3, fz⟩ _
  obtain ⟨d0, d1, d2, d3, dz⟩ := hC
  have y0 : W.cell? ⟨gr, i * 2, none⟩ = some (KI.val l[i].1) := by
    rw [← hW]; exact (World.cell?_of_block (a := ⟨gr, i * 2, none⟩) (Below.heap_alloc w _ gr (World.block_lt_of_cell? w _ x0))).trans x0
  have y1 : W.cell? ⟨gr, i * 2 + 1, none⟩ = some (.int .i64 l[i].2) := by
    rw [← hW]; exact (World.cell?_of_block (a := ⟨gr, i * 2 + 1, none⟩) (Below.heap_alloc w _ gr (World.block_lt_of_cell? w _ x0))).trans x1
  have yz : ∀ j, W.frozen? ⟨gr, j, none⟩ = false := fun j => by
    rw [← hW]
    have := hfz j
    unfold World.frozen? at this ⊢
    simp only at this ⊢
    rw [Below.heap_alloc w _ gr (World.block_lt_of_cell? w _ x0)]; exact this
  have z0 : W.cell? ⟨w.heap.size, 0, none⟩ = some (.int .i64 x.1) := by rw [← hW]; simp only [World.cell?]; rw [heap_alloc_new]; rfl
  have z1 : W.cell? ⟨w.heap.size, 1, none⟩ = some (.int .i64 x.2) := by rw [← hW]; simp only [World.cell?]; rw [heap_alloc_new]; rfl
  have hkey : keyOf Try.prog 3 (.int .i64 x.1) = some (.int .i64 x.1) := KI.key x.1 hx
  have mW : W.ownsMap Try.prog 3 RV bm l.length D := by rw [← hW]; exact h.map.alloc _
  have bW : Below w.heap.size w W := by rw [← hW]; exact (Below.refl _ w).alloc (Nat.le_refl _) _
  have hbg : ¬ hb = gr := fun e => h.rvh (by rw [e]; rfl)
  have hmg : bm ≠ gr := fun e => h.bmr (by rw [e]; rfl)
  have hsg : ¬ w.heap.size = gr := fun e => by have := World.block_lt_of_cell? w _ x0; simp at this; omega
  have HH : Hid (Hx KI w lab k hb bm (.slice (some ⟨gr, 0, none⟩) l.length cap) D f l g) := h
  have HB : Hid (Below w.heap.size w W) := bW
  go_wp2_with fail
  go_region
  obtain ⟨W2, hW2⟩ : ∃ W2, ((W.setCell ⟨gr, i * 2, none⟩ (.int .i64 x.1)).setCell ⟨gr, i * 2 + 1, none⟩ (.int .i64 x.2)).drew = W2 := ⟨_, rfl⟩
  have e1 : W2.cell? ⟨hb, 1, none⟩ = some (.map (some bm)) := by
    rw [← hW2]
    exact (World.cell?_of_block (w := W) (a := ⟨hb, 1, none⟩) ((turns_set2 (w := W) gr (i * 2) 1 _ _).block hb (World.block_lt_of_cell? W _ d1) hbg)).trans d1
  have e2 : W2.cell? ⟨w.heap.size, 0, none⟩ = some (.int .i64 x.1) := by
    rw [← hW2]
    exact (World.cell?_of_block (w := W) (a := ⟨w.heap.size, 0, none⟩) ((turns_set2 (w := W) gr (i * 2) 1 _ _).block _ (World.block_lt_of_cell? W _ z0) hsg)).trans z0
  have m2 : W2.drew.ownsMap Try.prog 3 RV bm l.length D := by
    rw [← hW2]
    exact map_turns (F := fun i => i = gr) mW (turns_set2 (w := W) gr (i * 2) 2 _ _) hmg
  obtain ⟨w3, hrun, hown3, ht3⟩ := m2.store KI.law Try.underlying80 (by unfold maxLen; omega) hkey (val := .int .i64 i) (d := .held (.int .i64 i)) (ps := []) rfl
  clear h hW c0 c1 c2 c3 fz d0 d1 d2 d3 dz y0 y1 yz z0 z1 x0 x1 hfz bW mW
  go_wp2_with fail
  go_region
  go_wp2_with fail
  first | go_end0 | refine bodyPost_ret (results_none rfl _ _ _) rfl ?_
  have hR := HH.out.laid hi hx hks hd HB.out (m := 2) hown3 (by rw [← hW2] at ht3; exact ht3)
  exact ⟨rfl, hR.1, hR.2⟩
end Go.Proofs.Ytbopghpfghaoeaa
