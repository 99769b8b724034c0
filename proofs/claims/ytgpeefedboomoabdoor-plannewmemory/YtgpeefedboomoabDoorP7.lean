/- Super by its contract; shapeOf, begins, zeros by theirs. -/
import Derived.Test.YtgpeefedboomoabDoorP6
namespace Go.Proofs.YtgpeefedboomoabDoor
open Go.RowKit
set_option maxRecDepth 100000

attribute [local go_sem ↓ 100000] ly_store ly_load
attribute [local go_sem] LyStore.new LyStore.drew LyLoad.new LyLoad.drew

theorem planE_in {s : Shp} (h : planE s = 0) : InB s := by
  unfold planE at h
  by_cases hi : InB s
  · exact hi
  · rw [if_pos hi] at h; omega

set_option maxHeartbeats 2000000 in
theorem super_any (s : Shp) (w : World) (hB : Bds w) :
    Calls Tryd.prog 8 #[shV s] w fun e w' => ∃ ao n c, e = .returned (.tuple #[.slice ao n c, .int .i64 (planE s)]) ∧ Below w.heap.size w w' ∧
      (planE s ≠ 0 → ao = none ∧ n = 0 ∧ c = 0) ∧ (planE s = 0 → n = 512 ∧ c = 512 ∧ ∃ g, ao = some ⟨g, 0, none⟩ ∧ w.heap.size ≤ g ∧ w'.heap[g]? = some (bl (superB s))) := by
  have hB0 := ShBox.new w s
  have hb0 := newBox w (.cells #[.int .i64 s.cl, .int .i64 s.wi, .int .i64 s.pl, .int .i64 s.ca, .int .i64 s.ino, .int .i64 s.qu, .int .i64 s.da, .int .i64 s.jo] 33)
  have hs0 : w.heap.size < (w.alloc (.cells #[.int .i64 s.cl, .int .i64 s.wi, .int .i64 s.pl, .int .i64 s.ca, .int .i64 s.ino, .int .i64 s.qu, .int .i64 s.da, .int .i64 s.jo] 33)).heap.size := by simp
  have hD0 := hB.later hb0 (Nat.le_refl _)
  go_enter Tryd.func8, Tryd.ntmps8
  go_wp2_with fail
  generalize w.alloc (.cells #[.int .i64 s.cl, .int .i64 s.wi, .int .i64 s.pl, .int .i64 s.ca, .int .i64 s.ino, .int .i64 s.qu, .int .i64 s.da, .int .i64 s.jo] 33) = w0 at *
  refine (plan_any s _ hD0).mono ?_
  rintro e w1 ⟨rfl, hb1⟩
  have hn := newBox w1 (.cells #[.int .i64 (planL s).bo, .int .i64 (planL s).jr, .int .i64 (planL s).jl, .int .i64 (planL s).le, .int .i64 (planL s).ll, .int .i64 (planL s).bi, .int .i64 (planL s).bl, .int .i64 (planL s).ta, .int .i64 (planL s).tl, .int .i64 (planL s).dt, .int .i64 (planL s).dl, .int .i64 (planL s).to, .int .i64 (planL s).sh.cl, .int .i64 (planL s).sh.wi, .int .i64 (planL s).sh.pl, .int .i64 (planL s).sh.ca, .int .i64 (planL s).sh.ino, .int .i64 (planL s).sh.qu, .int .i64 (planL s).sh.da, .int .i64 (planL s).sh.jo] 40)
  have hB2 := (hB0.later hb1 hs0).later hn (Nat.lt_of_lt_of_le hs0 hb1.size)
  have hq1 := hb0.trans (hb1.mono hb0.size)
  have hq2 := hq1.trans (hn.mono hq1.size)
  clear hB0 hb0 hs0 hD0 hB hb1 hq1 hn
  by_cases hp : planE s = 0
  · have hin := planE_in hp
    have hx : (planE s != 0) = false := by simp [hp]
    obtain ⟨a0, a1, a2, a3, a4, a5, a6, a7⟩ := hB2
    have HP : Hid (planE s = 0) := hp
    clear hp
    go_wp2_with fail
    refine (block_any s hin _).mono ?_
    rintro e w3 ⟨g, rfl, hg, hr, hb3⟩
    have hq3 := hq2.trans (hb3.mono hq2.size)
    have hg3 := Nat.le_trans hq2.size hg
    clear a0 a1 a2 a3 a4 a5 a6 a7
    go_wp2_with fail
    go_ret2
    refine ⟨_, _, _, by rw [HP.out]; rfl, hq3, fun h => absurd HP.out h, fun _ => ⟨rfl, rfl, g, rfl, hg3, hr⟩⟩
  · have hx : (planE s != 0) = true := by simpa using hp
    have HP : Hid (¬ planE s = 0) := hp
    clear hB2 hp
    go_wp2_with fail
    go_ret2
    exact ⟨_, _, _, rfl, hq2, fun _ => ⟨rfl, rfl, rfl⟩, fun h => absurd h HP.out⟩

set_option maxHeartbeats 1000000 in
theorem shapeOf_any (s : Shp) (w : World) :
    Calls Tryd.prog 52 #[.agg #[.int .i64 s.cl, .int .i64 s.wi, .int .i64 s.pl, .int .i64 s.ca, .int .i64 s.ino, .int .i64 s.qu, .int .i64 s.da, .int .i64 s.jo]] w fun e w' => e = .returned (shV s) ∧ Below w.heap.size w w' := by
  go_enter Tryd.func52, Tryd.ntmps52
  go_wp2
  refine bodyPost_ret (results_cell_row rfl _ _ (w.heap.size + 1) 33 _ (0, 0) _ rfl (heap_new2 w _ _) Tryd.underlying33 rfl (by kernel_rfl)) rfl ?_
  exact ⟨rfl, (newBox w _).trans ((newBox _ _).mono (by simp))⟩

theorem Lies.addr {w : World} {ao : Option Addr} {n c : Nat} {bs : List Int} (h : Lies w ao n c bs) (hn : 0 < n) : ∃ b o, ao = some ⟨b, o, none⟩ := by
  obtain ⟨b, o, e, _⟩ := h.at hn
  exact ⟨b, o, e⟩
/-- A piece of a list that came in. -/
theorem Lies.piece {w : World} {b o n cap : Nat} {bs : List Int} (h : Lies w (some ⟨b, o, none⟩) n cap bs) (p k c : Nat) (hk : p + k ≤ n) (hkc : k ≤ c) : Lies w (some ⟨b, o + p, none⟩) k c ((bs.drop p).take k) := by
  have hl : ((bs.drop p).take k).length = k := by simp [h.hlen]; omega
  refine ⟨hl, hkc, (fun h => by cases h), fun ad had t u hu => ?_⟩
  obtain rfl := Option.some.inj had
  have ht : t < k := by
    have := (List.getElem?_eq_some_iff.1 hu).1
    simp only [List.length_map, hl] at this
    exact this
  have := h.hcells _ rfl (p + t) u (by rw [← hu]; simp [ht])
  rw [Addr.add_lit] at this ⊢
  rw [← this]
  congr 2
  omega

set_option maxHeartbeats 1000000 in
theorem zeros_any (ao : Option Addr) (n c : Nat) (bs : List Int) (w : World) (hn : n ≤ 200000000000000) (hL : Lies w ao n c bs) :
    Calls Tryd.prog 35 #[.slice ao n c] w fun e w' => e = .returned (.bool (decide (∀ x ∈ bs, x = 0))) ∧ w' = w := by
  have hni : (n : Int) ≤ 200000000000000 := by omega
  have hlen := hL.hlen
  have hle := hL.hle
  go_enter Tryd.func35, Tryd.ntmps35
  go_wp2
  go_loopw [7] (fun i wr => ∃ k : Nat, k ≤ n ∧ i = .int .i64 k ∧ wr = w ∧ ∀ j, j < k → bs.getD j 0 = 0) (fun i _ => n - (intOf i).toNat)
  case atStart => exact ⟨0, Nat.zero_le _, rfl, rfl, fun j hj => absurd hj (Nat.not_lt_zero _)⟩
  case round =>
    obtain ⟨k, hk, rfl, rfl, ht⟩ := hrel
    have HT : Hid (∀ j, j < k → bs.getD j 0 = 0) := ht
    clear ht
    by_cases hlt : k < n
    · obtain ⟨b, o, rfl, hc⟩ := hL.at (by omega)
      have ga := hc k hlt
      clear hc
      by_cases hz : bs.getD k 0 = 0
      · rw [hz] at ga
        go_wp2
        go_roundw
        case rel =>
          refine ⟨k + 1, by omega, by go_num, by first | rfl | trivial, fun j hj => ?_⟩
          by_cases e : j = k
          · subst e; exact hz
          · exact HT.out j (by omega)
        case measure => simp [intOf]; omega
      · have no : ¬ ∀ x ∈ bs, x = 0 := fun h => hz (by
          have hl : k < bs.length := by omega
          have := h (bs[k]) (List.getElem_mem hl)
          simpa [List.getD, hl] using this)
        have hx : (bs.getD k 0 != 0) = true := by simpa using hz
        have HZ : Hid (¬ bs.getD k 0 = 0) := hz
        clear hz
        generalize bs.getD k 0 = y at *
        go_wp2
        go_ret
        exact ⟨by rw [decide_eq_false no]; rfl, by first | rfl | trivial⟩
    · have yes : ∀ x ∈ bs, x = 0 := fun x hx => by
        obtain ⟨i, hi, rfl⟩ := List.getElem_of_mem hx
        have := HT.out i (by omega)
        simpa [List.getD, hi] using this
      go_wp2
      go_ret
      exact ⟨by rw [decide_eq_true yes]; rfl, by first | rfl | trivial⟩
end Go.Proofs.YtgpeefedboomoabDoor
