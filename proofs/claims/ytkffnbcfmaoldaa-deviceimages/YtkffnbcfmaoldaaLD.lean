/- Image's refusal; the document's own New, Image, Durable by their contracts. -/
import Derived.Test.YtkffnbcfmaoldaaLC
namespace Go.Proofs.Ytkffnbcfmaoldaa
open Go.RowKit Go.Maps
set_option maxRecDepth 100000

/-- How many bytes make an image. -/
def imgB (n : Nat) : Prop := n % 512 = 0 ∧ 1 ≤ n / 512 ∧ n / 512 ≤ 4096
set_option maxHeartbeats 1000000 in
theorem image_bad (ao : Option Addr) (n c : Nat) (w : World) (hn : n ≤ 140737488355328) (h : ¬ imgB n) :
    Calls Try.prog 21 #[.slice ao n c] w fun e w' => e = .returned (.tuple #[.pointer none, .int .i64 51]) ∧ w' = w := by
  have hni : (n : Int) ≤ 140737488355328 := by omega
  by_cases h1 : n % 512 = 0
  · have hk : ¬ (1 ≤ (n : Int) / 512 ∧ (n : Int) / 512 ≤ 4096) := by
      unfold imgB at h
      omega
    have hm : (n : Int) % 512 = 0 := by omega
    have hkd := decide_eq_false hk
    go_enter Try.func21, Try.ntmps21
    go_wp2_with (go_at_call 31; refine (canBe_any _ _).mono ?_; rintro e wn ⟨rfl, hwn⟩; subst wn; rw [hkd])
    go_ret2
    exact ⟨rfl, rfl⟩
  · have hm : ¬ (n : Int) % 512 = 0 := by omega
    go_enter Try.func21, Try.ntmps21
    go_wp2
    go_ret2
    exact ⟨rfl, rfl⟩

set_option maxHeartbeats 1000000 in
theorem refImage_bad (ao : Option Addr) (n c : Nat) (w : World) (hn : n ≤ 140737488355328) (h : ¬ imgB n) :
    Calls Try.prog 26 #[.slice ao n c] w fun e w' => e = .returned (.tuple #[.pointer none, .int .i64 51]) ∧ w' = w := by
  have hni : (n : Int) ≤ 140737488355328 := by omega
  by_cases h1 : n % 512 = 0
  · have hm : (n : Int) % 512 = 0 := by omega
    by_cases h2 : (n : Int) / 512 < 1
    · go_enter Try.func26, Try.ntmps26
      go_wp2
      go_ret2
      exact ⟨rfl, rfl⟩
    · have h3 : (4096 : Int) < (n : Int) / 512 := by
        unfold imgB at h
        omega
      go_enter Try.func26, Try.ntmps26
      go_wp2
      go_ret2
      exact ⟨rfl, rfl⟩
  · have hm : ¬ (n : Int) % 512 = 0 := by omega
    go_enter Try.func26, Try.ntmps26
    go_wp2
    go_ret2
    exact ⟨rfl, rfl⟩

set_option maxHeartbeats 1000000 in
theorem refImage_good (ao : Option Addr) (k c : Nat) (bs : List Int) (w : World) (h1 : 1 ≤ k) (h2 : k ≤ 4096) (hL : Lies w ao (512 * k) c bs) :
    Calls Try.prog 26 #[.slice ao (512 * k) c] w fun e w' => (∃ rb, e = .returned (.tuple #[.pointer (some ⟨rb, 0, none⟩), .int .i64 0])) ∧ Below w.heap.size w w' := by
  obtain ⟨i0, hi, hz0, hz1, hz2⟩ := info_parts Try.info5
  have h1i : (1 : Int) ≤ k := by omega
  have h2i : (k : Int) ≤ 4096 := by omega
  obtain ⟨b, o, rfl, hc⟩ := hL.at (by omega)
  have hlen := hL.hlen
  have hcells : ∀ j u, (bs.map (Value.int .u8))[j]? = some u → w.cell? ((⟨b, o, none⟩ : Addr).add j) = some u := hL.hcells _ rfl
  clear hc hL
  go_enter Try.func26, Try.ntmps26
  go_wp2_with (at_builtin; refine wpList_append_own _ rfl _ _ 32 rfl w.heap.size 5 i0 (.int .u8 0) 1 1 Try.underlying32 hi hz0 hz1 hz2 rfl (by decide) (.slice none 0 0) 0 [] rfl (World.ownsRow_nil _ _ _ _) ⟨b, o, none⟩ (512 * k) c (bs.map (Value.int .u8)) rfl (by simp [hlen]) hcells (ints_oneCell _ _) (by unfold maxLen; omega) (by omega) (Nat.le_refl _) ?_; intro v' w1 hown1 hgrow1 hnil1; obtain ⟨pa2, pc2, hv2⟩ := row_slice hown1; subst hv2)
  go_ret2
  have hb1 : Below w.heap.size w w1 := ⟨hgrow1.os, hgrow1.tape, hgrow1.output, hgrow1.size, fun i hi => hgrow1.block i hi (by simp [Value.ownBlock])⟩
  exact ⟨⟨_, rfl⟩, hb1.alloc hb1.size _⟩

/-- The document's device, as New leaves it. -/
def RefD (w : World) (rb : Nat) (bs : List Int) (lo : Nat) : Prop := ∃ g, lo ≤ rb ∧ lo ≤ g ∧ w.cell? ⟨rb, 0, none⟩ = some (.slice (some ⟨g, 0, none⟩) bs.length bs.length) ∧ w.heap[g]? = some (bl bs)
theorem RefD.turns {F : Nat → Prop} {w w' : World} {rb lo : Nat} {bs : List Int} (h : RefD w rb bs lo) (t : Turns F w w') (hF : ∀ i, F i → i < lo) : RefD w' rb bs lo := by
  obtain ⟨g, l1, l2, h1, h2⟩ := h
  exact ⟨g, l1, l2, (World.cell?_of_block (t.block rb (World.block_lt_of_cell? w _ h1) (fun q => by have := hF rb q; omega))).trans h1, (t.block g (heap_lt h2) (fun q => by have := hF g q; omega)).trans h2⟩
theorem RefD.below {w w' : World} {rb lo : Nat} {bs : List Int} (h : RefD w rb bs lo) (hb : Below w.heap.size w w') : RefD w' rb bs lo := by
  obtain ⟨g, l1, l2, h1, h2⟩ := h
  exact ⟨g, l1, l2, (hb.cell (World.block_lt_of_cell? w _ h1)).trans h1, (hb.block g (heap_lt h2)).trans h2⟩
set_option maxHeartbeats 1000000 in
theorem refNew_good (k : Nat) (w : World) (h1 : 1 ≤ k) (h2 : k ≤ 4096) :
    Calls Try.prog 25 #[.int .i64 k] w fun e w' => (∃ rb, e = .returned (.pointer (some ⟨rb, 0, none⟩)) ∧ RefD w' rb (List.replicate (512 * k) 0) w.heap.size) ∧ Below w.heap.size w w' := by
  obtain ⟨i0, hi, hz0, hz1, hz2⟩ := info_parts Try.info5
  have h1i : (1 : Int) ≤ k := by omega
  have h2i : (k : Int) ≤ 4096 := by omega
  have hz := zeros_bl w (512 * k)
  have hb1 : Below w.heap.size w (w.alloc (.cells (madeCells #[.int .u8 0] (512 * k)) 5)) := (Below.refl _ w).alloc (Nat.le_refl _) _
  go_enter Try.func25, Try.ntmps25
  go_wp2_with (at_make; (refine wpList_make_row _ rfl _ _ 32 rfl 5 i0 (.int .u8 0) Try.underlying32 hi hz0 hz1 rfl .i64 .i64 (512 * k) (by show Value.int .i64 (512 * (k : Int)) = _; congr 1) (by show Value.int .i64 (512 * (k : Int)) = _; congr 1) (by rw [hz2]; omega) (by omega) ?_))
  go_ret
  refine ⟨⟨_, rfl, ⟨w.heap.size, by simp, Nat.le_refl _, ?_, ?_⟩⟩, hb1.alloc hb1.size _⟩
  · simp
  · exact (((Below.refl _ _).alloc (Nat.le_refl _) _).block _ (heap_lt hz)).trans hz
set_option maxHeartbeats 1000000 in
theorem refNew_bad (n : Int) (w : World) (h : ¬ (1 ≤ n ∧ n ≤ 4096)) :
    Calls Try.prog 25 #[.int .i64 n] w fun e w' => e = .returned (.pointer none) ∧ w' = w := by
  by_cases h1 : n < 1
  · go_enter Try.func25, Try.ntmps25
    go_wp2
    go_ret
    exact ⟨rfl, rfl⟩
  · have h2 : (4096 : Int) < n := by omega
    go_enter Try.func25, Try.ntmps25
    go_wp2
    go_ret
    exact ⟨rfl, rfl⟩
set_option maxHeartbeats 1000000 in
theorem refDurable_any (rb lo : Nat) (bs : List Int) (w : World) (h : RefD w rb bs lo) (n : Nat) (hnn : bs.length = n) (hn : n ≤ 4000000) (h0 : 0 < n) :
    Calls Try.prog 27 #[.pointer (some ⟨rb, 0, none⟩)] w fun e w' => (∃ ao c, e = .returned (.slice ao n c) ∧ Lies w' ao n c bs) ∧ Below w.heap.size w w' := by
  obtain ⟨i0, hi, hz0, hz1, hz2⟩ := info_parts Try.info5
  obtain ⟨g, _, _, h1, h2⟩ := h
  have hL := Lies.full (n := bs.length) h2 rfl
  have hcells : ∀ j u, (bs.map (Value.int .u8))[j]? = some u → w.cell? ((⟨g, 0, none⟩ : Addr).add j) = some u := hL.hcells _ rfl
  rw [hnn] at h1
  clear hL h2
  go_enter Try.func27, Try.ntmps27
  go_wp2_with (at_builtin; refine wpList_append_own _ rfl _ _ 32 rfl w.heap.size 5 i0 (.int .u8 0) 1 1 Try.underlying32 hi hz0 hz1 hz2 rfl (by decide) (.slice none 0 0) 0 [] rfl (World.ownsRow_nil _ _ _ _) ⟨g, 0, none⟩ n n (bs.map (Value.int .u8)) rfl (by simp [hnn]) hcells (ints_oneCell _ _) (by unfold maxLen; omega) (by omega) (Nat.le_refl _) ?_; intro v' w1 hown1 hgrow1 hnil1; obtain ⟨pa2, pc2, hv2⟩ := row_slice hown1; subst hv2)
  go_ret
  have hb1 : Below w.heap.size w w1 := ⟨hgrow1.os, hgrow1.tape, hgrow1.output, hgrow1.size, fun i hi => hgrow1.block i hi (by simp [Value.ownBlock])⟩
  simp only [Nat.zero_add, List.nil_append] at hown1
  refine ⟨⟨pa2, pc2, by simp, ?_⟩, hb1⟩
  rcases hown1.2 with ⟨hv, h00⟩ | ⟨g', cap', cur, hv, _⟩
  · omega
  · cases hv
    exact Lies.own hown1
end Go.Proofs.Ytkffnbcfmaoldaa
