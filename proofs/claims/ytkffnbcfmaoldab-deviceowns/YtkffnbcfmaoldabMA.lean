/- Blocks in a list: zeros, flat, sameAll by their contracts. -/
import Derived.Test.YtkffnbcfmaoldabLJ
import Derived.Test.YtkffnbcfmaoldabMJ
namespace Go.Proofs.Ytkffnbcfmaoldab
open Go.RowKit Go.Maps
set_option maxRecDepth 100000

theorem Try.info29 : (Try.prog.info? 29).map (fun i => (i.zero, i.size, i.bytes)) = some (some (.slice none 0 0), 1, 24) := by kernel_rfl
theorem cell_one_new (w : World) (x : Value) (t : TypeId) : ∀ j u, [x][j]? = some u → (w.alloc (.cells #[x] t)).cell? ((⟨w.heap.size, 0, none⟩ : Addr).add j) = some u := by
  intro j u hj
  match j, hj with
  | 0, hj => simp at hj; subst hj; simp [Addr.add]
/-- A list of blocks, each in a block of its own. -/
structure Now (B : Nat) (w : World) (v : Value) (k : Nat) (gs : List Nat) (f : Nat → List Int) : Prop where
  row : w.ownsRow B 29 1 v k (gs.map hv)
  len : gs.length = k
  dat : ∀ (b g : Nat), gs[b]? = some g → w.heap[g]? = some (bl (f b))
  out : ∀ g ∈ gs, v.ownBlock ≠ some g
theorem Now.lt {B : Nat} {w : World} {v : Value} {k : Nat} {gs : List Nat} {f : Nat → List Int} (h : Now B w v k gs f) : ∀ g ∈ gs, g < w.heap.size := fun g hg => by
  obtain ⟨i, hi⟩ := List.mem_iff_getElem?.1 hg
  exact heap_lt (h.dat i g hi)
theorem Now.turns {F : Nat → Prop} {B : Nat} {w w' : World} {v : Value} {k : Nat} {gs : List Nat} {f : Nat → List Int} (h : Now B w v k gs f) (t : Turns F w w') (h1 : ∀ b, v.ownBlock = some b → ¬ F b) (h2 : ∀ g ∈ gs, ¬ F g) : Now B w' v k gs f :=
  ⟨own_turns h.row t h1, h.len, fun b g hg => (t.block g (heap_lt (h.dat b g hg)) (h2 g (List.mem_of_getElem? hg))).trans (h.dat b g hg), h.out⟩
theorem Now.below {B : Nat} {w w' : World} {v : Value} {k : Nat} {gs : List Nat} {f : Nat → List Int} (h : Now B w v k gs f) (b : Below w.heap.size w w') : Now B w' v k gs f :=
  h.turns (Below.turns b (fun _ => False)) (fun _ _ => id) (fun _ _ => id)
theorem Now.add {B : Nat} {w w' : World} {v v' : Value} {k g : Nat} {gs : List Nat} {f : Nat → List Int} (h : Now B w v k gs f) (hg : w.heap[g]? = some (bl (f k))) (hgv : v.ownBlock ≠ some g) (t : Turns (fun i => v.ownBlock = some i) w w')
    (hr : w'.ownsRow B 29 1 v' (k + 1) (gs.map hv ++ [hv g])) (hat : v'.ownBlock = v.ownBlock ∨ ∃ i, v'.ownBlock = some i ∧ w.heap.size ≤ i) : Now B w' v' (k + 1) (gs ++ [g]) f := by
  have hglt := heap_lt hg
  refine ⟨by simpa using hr, by simp [h.len], fun b x hx => ?_, fun x hx => ?_⟩
  · by_cases hb : b < k
    · rw [List.getElem?_append_left (by rw [h.len]; exact hb)] at hx
      exact (t.block x (heap_lt (h.dat b x hx)) (h.out x (List.mem_of_getElem? hx))).trans (h.dat b x hx)
    · have hbl := (List.getElem?_eq_some_iff.1 hx).1
      rw [List.length_append, h.len] at hbl
      obtain rfl : b = k := by simp at hbl; omega
      rw [List.getElem?_append_right (by rw [h.len]; exact Nat.le_refl _), h.len, Nat.sub_self] at hx
      obtain rfl : g = x := by simpa using hx
      exact (t.block g hglt hgv).trans hg
  · have hx1 : x < w.heap.size ∧ v.ownBlock ≠ some x := by
      rcases List.mem_append.1 hx with q | q
      · exact ⟨h.lt x q, h.out x q⟩
      · obtain rfl := List.mem_singleton.1 q
        exact ⟨hglt, hgv⟩
    rcases hat with q | ⟨i, q, hi⟩
    · rw [q]; exact hx1.2
    · rw [q]; intro e; cases e; omega
theorem Now.at_ {B : Nat} {w : World} {v : Value} {k : Nat} {gs : List Nat} {f : Nat → List Int} (h : Now B w v k gs f) {i : Nat} (hi : i < k) : ∃ g cap x, v = .slice (some ⟨g, 0, none⟩) k cap ∧ gs[i]? = some x ∧ w.cell? ⟨g, i, none⟩ = some (hv x) ∧ w.heap[x]? = some (bl (f i)) := by
  have hx : gs[i]? = some (gs[i]'(by rw [h.len]; exact hi)) := List.getElem?_eq_getElem _
  rcases h.row.2 with ⟨_, e⟩ | ⟨g, cap, cur, hv', hb, hg, h1, h2, h3, h4⟩
  · omega
  · refine ⟨g, cap, _, hv', hx, ?_, h.dat i _ hx⟩
    have e1 : (cur.toList.take (k * 1))[i]? = some (hv (gs[i]'(by rw [h.len]; exact hi))) := by
      rw [h4, List.getElem?_map, hx]; rfl
    rw [List.getElem?_take, if_pos (by omega)] at e1
    simp only [World.cell?, hg]
    simpa using e1
theorem Now.cell {B : Nat} {w : World} {g cap : Nat} {k : Nat} {gs : List Nat} {f : Nat → List Int} (h : Now B w (.slice (some ⟨g, 0, none⟩) k cap) k gs f) {i x : Nat} (hx : gs[i]? = some x) : w.cell? ⟨g, i, none⟩ = some (hv x) := by
  have hi : i < k := by rw [← h.len]; exact (List.getElem?_eq_some_iff.1 hx).1
  obtain ⟨g', cap', x', e, q1, q2, _⟩ := h.at_ hi
  cases e
  rw [hx] at q1; cases q1
  exact q2
set_option maxHeartbeats 1000000 in
theorem zeros_any (k : Nat) (hk : k ≤ 64) (w : World) : Calls Try.prog 9 #[.int .i64 k] w fun e w' => ∃ ao c gs, e = .returned (.slice ao k c) ∧ Now w.heap.size w' (.slice ao k c) k gs (fun _ => List.replicate 512 0) ∧ (∀ g ∈ gs, w.heap.size ≤ g) ∧ Below w.heap.size w w' := by
  obtain ⟨j0, ji, jz0, jz1, jz2⟩ := info_parts Try.info29
  have hki : (k : Int) ≤ 64 := by omega
  go_enter Try.func9, Try.ntmps9
  go_wp2_with fail
  go_loopw [3, 4] (fun l i wr => ∃ (j : Nat) (gs : List Nat), j ≤ k ∧ i = .int .i64 j ∧ Now w.heap.size wr l j gs (fun _ => List.replicate 512 0) ∧ (∀ g ∈ gs, w.heap.size ≤ g) ∧ Below w.heap.size w wr) (fun _ i _ => k - (intOf i).toNat)
  case atStart => exact ⟨0, [], Nat.zero_le _, rfl, ⟨⟨rfl, Or.inl ⟨rfl, rfl⟩⟩, rfl, fun b g h => by simp at h, fun g h => by cases h⟩, (fun g h => by cases h), Below.refl _ _⟩
  case round =>
    obtain ⟨j, gs, hj, rfl, hN, hgs, hB⟩ := hrel
    obtain ⟨la, lc, hlv⟩ := row_slice hN.row
    subst hlv
    by_cases hlt : j < k
    · have hji : (j : Int) < k := by omega
      go_wp2_with fail
      refine (full_any _ _).mono ?_
      rintro e w5 ⟨g5, rfl, hg5, hb5, b5⟩
      have h5 := hN.below b5
      have hB5 := hB.trans (b5.mono hB.size)
      have hs5 := hB5.size
      have hs0 := hB.size
      have hne : (Value.slice la j lc).ownBlock ≠ some g5 := fun e => by have := (hN.row.lt _ e).2; omega
      have hrow := h5.row
      clear hN b5 hB
      go_wp2_with (at_builtin; refine wpList_append_own_at _ rfl (.tmp 10) (.tmp 12) 27 rfl w.heap.size 29 j0 (.slice none 0 0) 1 24 Try.underlying27 ji jz0 jz1 jz2 rfl (by decide) _ j _ rfl (hrow.alloc _) ⟨w5.heap.size, 0, none⟩ 1 1 [hv g5] rfl rfl (cell_one_new _ _ _) (by intro u hu; simp at hu; subst hu; rfl) (by unfold maxLen; omega) (by omega) (by simp; omega) ?_; intro v' w7 hown7 hgrow7 hnil7 hat7)
      have t7 := (Turns.alloc (fun i => (Value.slice la j lc).ownBlock = some i) w5 (.cells #[hv g5] 29)).trans (Turns.grown (F := fun i => (Value.slice la j lc).ownBlock = some i) hgrow7 (fun b hb => hb)) (fun _ _ h => h)
      have h7 := h5.add hb5 hne t7 hown7 (hat7.imp id (fun e => ⟨_, e, by simp⟩))
      have hB7 : Below w.heap.size w w7 := hB5.trans (t7.below (fun i e => (hrow.lt i e).1) hs5)
      go_wp2_with fail
      go_roundw
      case rel => exact ⟨j + 1, gs ++ [g5], by omega, by go_num, h7, fun g hg => (List.mem_append.1 hg).elim (hgs g) (fun q => by have := List.mem_singleton.1 q; omega), hB7⟩
      case measure => simp [intOf]; omega
    · obtain rfl : j = k := by omega
      go_wp2_with fail
      go_ret
      exact ⟨la, lc, gs, rfl, hN, hgs, hB⟩
/-- The blocks one behind the other. -/
def flatL (f : Nat → List Int) (k : Nat) : List Int := (List.range k).flatMap f
theorem flatL_succ (f : Nat → List Int) (k : Nat) : flatL f (k + 1) = flatL f k ++ f k := by
  unfold flatL; rw [List.range_succ, List.flatMap_append]; simp
set_option maxHeartbeats 1000000 in
theorem flat_any {B : Nat} {w : World} {ao : Option Addr} {k c : Nat} {gs : List Nat} {f : Nat → List Int} (h : Now B w (.slice ao k c) k gs f) (hk : k ≤ 64) (hf : ∀ b, b < k → (f b).length = 512) :
    Calls Try.prog 10 #[.slice ao k c] w fun e w' => Fresh w e w' (512 * k) (flatL f k) := by
  have hki : (k : Int) ≤ 64 := by omega
  go_enter Try.func10, Try.ntmps10
  go_wp2_with fail
  go_loopw [3, 4] (fun o i wr => ∃ j : Nat, j ≤ k ∧ i = .int .i64 j ∧ wr.ownsRow w.heap.size 5 1 o (512 * j) ((flatL f j).map (Value.int .u8)) ∧ Below w.heap.size w wr) (fun _ i _ => k - (intOf i).toNat)
  case atStart => exact ⟨0, Nat.zero_le _, rfl, World.ownsRow_nil _ _ _ _, Below.refl _ _⟩
  case round =>
    obtain ⟨j, hj, rfl, hown, hB⟩ := hrel
    obtain ⟨oa, oc, rfl⟩ := own_len hown
    by_cases hlt : j < k
    · have hji : (j : Int) < k := by omega
      obtain ⟨g, cap, x, e, hx, hc, hb⟩ := (h.below hB).at_ hlt
      cases e
      go_wp2_with fail
      refine (join_any oa _ (512 * j) oc 512 512 _ (f j) _ (by omega) (by omega) (Lies.owned hown) (Lies.full hb (hf j hlt))).mono ?_
      rintro e w5 ⟨a5, c5, rfl, o5, b5⟩
      have o5' := ownsRow_mono o5 hB.size
      rw [← flatL_succ] at o5'
      have hB5 := hB.trans (b5.mono hB.size)
      clear hown o5 b5 hB hb hc
      go_wp2_with fail
      go_roundw
      case rel => exact ⟨j + 1, by omega, by go_num, by rw [show 512 * (j + 1) = 512 * j + 512 by omega]; exact o5', hB5⟩
      case measure => simp [intOf]; omega
    · obtain rfl : j = k := by omega
      go_wp2_with fail
      go_ret
      exact ⟨oa, oc, rfl, hown, hB⟩
end Go.Proofs.Ytkffnbcfmaoldab
