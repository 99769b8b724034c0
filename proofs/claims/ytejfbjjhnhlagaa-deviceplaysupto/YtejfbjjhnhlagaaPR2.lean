/- The document's device: Size, Power, Durable, Arm, fails, settle by their contracts. -/
import Derived.Test.YtejfbjjhnhlagaaPR1
namespace Go.Proofs.Ytejfbjjhnhlagaa
open Go.RowKit Go.Maps
set_option maxRecDepth 100000

set_option maxHeartbeats 1000000 in
theorem refSize_any {w : World} {rb : Nat} {S : DevS} {k gl : Nat} {tl : List Value} {pv : Value} {vs : List (Nat × List Value)} (h : RX w rb S k gl tl pv vs) :
    Calls Try.prog 32 #[.pointer (some ⟨rb, 0, none⟩)] w fun e w' => e = .returned (.int .i64 k) ∧ w' = w := by
  have htop := h.good.top
  obtain ⟨c0, c1, c2, c3, fz⟩ := h.cells
  clear h c1 c2 c3 fz
  go_enter Try.func32, Try.ntmps32
  go_wp2
  go_ret
  refine ⟨?_, rfl⟩
  congr 2
set_option maxHeartbeats 1000000 in
theorem refPower_any {w : World} {rb : Nat} {S : DevS} {k : Nat} {R : Nat → Prop} (h : RDev w rb S k R) :
    Calls Try.prog 34 #[.pointer (some ⟨rb, 0, none⟩)] w fun e w' => e = .returned (.bool (!S.off)) ∧ w' = w := by
  obtain ⟨gl, tl, pv, vs, h, f, hl⟩ := h
  obtain ⟨c0, c1, c2, c3, fz⟩ := h.cells
  clear h c0 c1 c3 fz
  go_enter Try.func34, Try.ntmps34
  go_wp2
  go_ret
  exact ⟨rfl, rfl⟩
set_option maxHeartbeats 1000000 in
theorem refDurable_any {w : World} {rb : Nat} {S : DevS} {k : Nat} {R : Nat → Prop} (h : RDev w rb S k R) :
    Calls Try.prog 26 #[.pointer (some ⟨rb, 0, none⟩)] w fun e w' => (∃ g c, e = .returned (.slice (some ⟨g, 0, none⟩) (512 * k) c) ∧ Lies w' (some ⟨g, 0, none⟩) (512 * k) c S.last) ∧ Below w.heap.size w w' := by
  obtain ⟨i0, hi, hz0, hz1, hz2⟩ := info_parts Try.info5
  obtain ⟨gl, tl, pv, vs, h, f, hl⟩ := h
  have htop := h.good.top
  have hpos := h.good.pos
  have hlen := h.good.len
  obtain ⟨c0, c1, c2, c3, fz⟩ := h.cells
  have hL := Lies.bt (n := 512 * k) (c := 512 * k + tl.length) h.lst hlen (by omega)
  have hcells : ∀ j u, (S.last.map (Value.int .u8))[j]? = some u → w.cell? ((⟨gl, 0, none⟩ : Addr).add j) = some u := hL.hcells _ rfl
  clear h c1 c2 c3 fz hL
  go_enter Try.func26, Try.ntmps26
  go_wp2_with (at_builtin; refine wpList_append_own _ rfl _ _ 33 rfl w.heap.size 5 i0 (.int .u8 0) 1 1 Try.underlying33 hi hz0 hz1 hz2 rfl (by decide) (.slice none 0 0) 0 [] rfl (World.ownsRow_nil _ _ _ _) ⟨gl, 0, none⟩ (512 * k) (512 * k + tl.length) (S.last.map (Value.int .u8)) rfl (by simp [hlen]) hcells (ints_oneCell _ _) (by unfold maxLen; omega) (by omega) (Nat.le_refl _) ?_; intro v' w1 hown1 hgrow1 hnil1; simp only [Nat.zero_add, List.nil_append] at hown1; obtain ⟨g1, tl1, rfl, hg1, hb1⟩ := own_bt hown1 (by omega))
  go_ret
  have hB1 : Below w.heap.size w w1 := ⟨hgrow1.os, hgrow1.tape, hgrow1.output, hgrow1.size, fun i hi => hgrow1.block i hi (by simp [Value.ownBlock])⟩
  exact ⟨⟨g1, _, rfl, Lies.bt hb1 hlen (by omega)⟩, hB1⟩
set_option maxHeartbeats 1000000 in
theorem refArm_any {w : World} {rb : Nat} {S : DevS} {k : Nat} {R : Nat → Prop} (h : RDev w rb S k R) (x : Int) (hx : x ≤ 9223372036854775807) :
    Calls Try.prog 38 #[.pointer (some ⟨rb, 0, none⟩), .int .i64 x] w fun e w' => e = .returned (.int .i64 (armE S x)) ∧ RDev w' rb (armed S x) k R ∧ Turns R w w' := by
  obtain ⟨gl, tl, pv, vs, h, f, hl⟩ := h
  obtain ⟨c0, c1, c2, c3, fz⟩ := h.cells
  have f3 := fz 3
  by_cases hx0 : x < 0
  · have e1 : armE S x = 1 := by unfold armE; rw [if_pos hx0]
    have e2 : armed S x = S := by unfold armed; rw [if_pos hx0]
    rw [e1, e2]
    have HX : Hid (RX w rb S k gl tl pv vs) := h
    clear h c0 c1 c2 c3 fz f3
    go_enter Try.func38, Try.ntmps38
    go_wp2
    go_ret
    exact ⟨rfl, ⟨gl, tl, pv, vs, HX.out, f, hl⟩, Turns.refl _ _⟩
  · by_cases ho : S.off = true
    · have e1 : armE S x = 3 := by unfold armE; rw [if_neg hx0, if_pos ho]
      have e2 : armed S x = S := by unfold armed; rw [if_neg hx0, if_pos ho]
      rw [e1, e2]
      rw [ho] at c2
      have HX : Hid (RX w rb S k gl tl pv vs) := h
      clear h c0 c1 c3 fz f3 e1 e2 ho
      go_enter Try.func38, Try.ntmps38
      go_wp2
      go_ret
      exact ⟨rfl, ⟨gl, tl, pv, vs, HX.out, f, hl⟩, Turns.refl _ _⟩
    · have ho' : S.off = false := by simpa using ho
      have e1 : armE S x = 0 := by unfold armE; rw [if_neg hx0, if_neg ho]
      have e2 : armed S x = { S with fuse := x.toNat } := by unfold armed; rw [if_neg hx0, if_neg ho]
      rw [e1, e2]
      obtain ⟨m, hm⟩ : ∃ m : Nat, x = m := ⟨x.toNat, by omega⟩
      subst hm
      have h2 := h.rb (S' := { S with fuse := m }) 3 (.int .i64 m) ⟨rfl, rfl, by simp; omega⟩ (by simp [ho']) rfl
      have HX : Hid (RX (w.setCell ⟨rb, 3, none⟩ (.int .i64 m)) rb { S with fuse := m } k gl tl pv vs) := h2
      have t2 := Turns.cell w rb 3 (.int .i64 (m : Int))
      rw [ho'] at c2
      clear h h2 c0 c1 fz e1 e2 ho ho'
      simp only [Int.toNat_natCast]
      go_enter Try.func38, Try.ntmps38
      go_wp2
      go_ret
      exact ⟨rfl, ⟨gl, tl, pv, vs, HX.out, f, fun i hi => Nat.lt_of_lt_of_le (hl i hi) t2.size⟩, t2.mono (fun i _ e => by subst e; exact f.f1)⟩

set_option maxHeartbeats 1000000 in
theorem fails_any {w : World} {rb : Nat} {S : DevS} {k gl : Nat} {tl : List Value} {pv : Value} {vs : List (Nat × List Value)} (h : RX w rb S k gl tl pv vs) :
    Calls Try.prog 53 #[.pointer (some ⟨rb, 0, none⟩)] w fun e w' => e = .returned (.bool (burnt S).off) ∧ RX w' rb (burnt S) k gl tl pv vs ∧ Turns (fun i => i = rb) w w' := by
  obtain ⟨c0, c1, c2, c3, fz⟩ := h.cells
  have f3 := fz 3
  have f2 := fz 2
  have hfu := h.good.fuse
  by_cases ho : S.off = true
  · have h0 := h.calm ho
    have e0 : burnt S = S := by unfold burnt; rw [if_pos h0]
    rw [e0, ho]
    rw [ho] at c2
    have HX : Hid (RX w rb S k gl tl pv vs) := h
    clear h fz c0 c1 c3 ho h0 e0
    go_enter Try.func53, Try.ntmps53
    go_wp2
    go_ret
    exact ⟨rfl, HX.out, Turns.refl _ _⟩
  have ho' : S.off = false := by simpa using ho
  rw [ho'] at c2
  by_cases h0 : S.fuse = 0
  · have e0 : burnt S = S := by unfold burnt; rw [if_pos h0]
    rw [e0, ho']
    rw [h0] at c3
    have HX : Hid (RX w rb S k gl tl pv vs) := h
    clear h fz c0 c1 ho ho' h0 e0
    go_enter Try.func53, Try.ntmps53
    go_wp2
    go_ret
    exact ⟨rfl, HX.out, Turns.refl _ _⟩
  · obtain ⟨m, hm⟩ : ∃ m, S.fuse = m + 1 := ⟨S.fuse - 1, by omega⟩
    have hs := h.rb (S' := { S with fuse := m }) 3 (.int .i64 m) ⟨rfl, rfl, by simp; omega⟩ (by simp [ho']) rfl
    have t1 := Turns.cell w rb 3 (.int .i64 (m : Int))
    by_cases h1 : m = 0
    · subst h1
      have e0 : burnt S = { S with fuse := 0, off := true } := by unfold burnt; rw [if_neg h0, hm]; simp
      have hs2 := hs.rb (S' := { S with fuse := 0, off := true }) 2 (.bool true) ⟨rfl, rfl, by simp⟩ (by simp) rfl
      have t2 := Turns.cell (w.setCell ⟨rb, 3, none⟩ (.int .i64 ((0 : Nat) : Int))) rb 2 (.bool true)
      have HX : Hid _ := hs2
      rw [e0]
      have hfi : (S.fuse : Int) = 1 := by omega
      rw [hfi] at c3
      clear h hs hs2 fz c0 c1 ho ho' h0 e0
      go_enter Try.func53, Try.ntmps53
      go_wp2
      go_ret
      exact ⟨rfl, HX.out, t1.trans t2 (fun _ _ h => h)⟩
    · have e0 : burnt S = { S with fuse := m } := by unfold burnt; rw [if_neg h0, hm, decide_eq_false (by omega)]; simp
      have hs2 := hs.rb (S' := { S with fuse := m, off := false }) 2 (.bool false) ⟨rfl, rfl, by simp; omega⟩ (by simp) rfl
      have t2 := Turns.cell (w.setCell ⟨rb, 3, none⟩ (.int .i64 (m : Int))) rb 2 (.bool false)
      have HX : Hid _ := hs2
      rw [e0]
      show Calls _ _ _ _ fun e w' => e = .returned (.bool S.off) ∧ _
      rw [ho']
      have hfi : (S.fuse : Int) = m + 1 := by omega
      have hne : ((m : Int) == 0) = false := by simp; omega
      have hfb : (m : Int) ≤ 9223372036854775806 := by omega
      have hpos : (0 : Int) < m + 1 := by omega
      rw [hfi] at c3
      clear h hs hs2 fz c0 c1 ho ho' h0 e0
      go_enter Try.func53, Try.ntmps53
      go_wp2
      go_ret
      exact ⟨rfl, HX.out, t1.trans t2 (fun _ _ h => h)⟩
end Go.Proofs.Ytejfbjjhnhlagaa
