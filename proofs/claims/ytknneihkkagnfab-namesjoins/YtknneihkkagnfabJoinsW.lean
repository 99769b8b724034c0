/- annexlaw3.NamesJoins by its walk. -/
import Derived.Test.YtknneihkkagnfabRoomy
import Derived.Test.YtknneihkkagnfabConv
namespace Go.Proofs.Ytknneihkkagnfab
open Go.RowKit
set_option maxRecDepth 100000

theorem take_two {xs : List ByteArray} {n : Nat} (h : xs.length = n) : (xs ++ two).take n = xs := by
  subst h; simp

set_option maxHeartbeats 2000000 in
theorem joins_any (ao : Option Addr) (n c : Nat) (xs : List ByteArray) (w : World) (hn : n ≤ 8796093021952) (hL : Lies w ao n c xs) (_hs : ∀ x, x ∈ xs → x.size ≤ 140737488351232) :
    Calls Try.prog 4 #[.slice ao n c] w fun e w' => e = .returned (.bool true) ∧ Below w.heap.size w w' := by
  have hni : (n : Int) ≤ 8796093021952 := by omega
  go_enter Try.func4, Try.ntmps4
  go_wp2_with fail
  refine (first_any w).mono ?_
  rintro e w1 ⟨rfl, hb1⟩
  have hL1 := hL.below hb1 (Nat.le_refl _)
  go_wp2_with fail
  refine (roomy_any _ _ _ _ _ hn hL1).mono ?_
  rintro e w2 ⟨g, cap, rfl, hown, hb2⟩
  have hL2 := hL1.below hb2 (Nat.le_refl _)
  have hWall := Lies.owned hown
  have hW := hWall.pre (k := n) (by omega)
  rw [take_two hL.hlen] at hW
  have hcap : (n : Int) ≤ cap := by have := hWall.hle; omega
  go_wp2_with fail
  refine (join_any _ _ _ _ _ (by omega) hW).mono ?_
  rintro e w3 ⟨rfl, hb3⟩
  have hL3 := hL2.below hb3 (Nat.le_refl _)
  have hW3 := hWall.below hb3 (Nat.le_refl _)
  have hown3 := own_below hown hb3 (Nat.le_refl _)
  clear hW hWall hown hL2
  go_wp2_with fail
  refine (rjoin_any _ _ _ _ _ (by omega) hL3).mono ?_
  rintro e w4 ⟨rfl, q, rfl⟩
  generalize joinT (xs.map bs) = T
  generalize judge (xs.map bs) = J
  have hbd : Below w3.heap.size w3 (w3.drewN q) := (Below.refl _ w3).drewN q
  have hL4 := hL3.below hbd (Nat.le_refl _)
  have hW4 := hW3.below hbd (Nat.le_refl _)
  have hown4 := own_below hown3 hbd (Nat.le_refl _)
  have hb14 : Below w.heap.size w (w3.drewN q) := by
    have h12 := hb1.trans (hb2.mono hb1.size)
    have h13 := h12.trans (hb3.mono h12.size)
    exact h13.drewN q
  have hbase : w.heap.size ≤ w1.heap.size := hb1.size
  clear hL3 hW3 hown3 hb3 hb2 hb1 hL1 hL
  generalize w3.drewN q = W at hL4 hW4 hown4 hb14 hbd
  go_wp2_with fail
  refine (roomy_any _ _ _ _ _ hn hL4).mono ?_
  rintro e w5 ⟨g5, cap5, rfl, hown5, hb5⟩
  have hW5 := hW4.below hb5 (Nat.le_refl _)
  have hX5 := Lies.owned hown5
  have hown6 := own_below hown4 hb5 (Nat.le_refl _)
  clear hbd hW4 hown4 hown5
  go_wp2_with fail
  refine (same_any _ _ _ _ _ _ _ _ _ (by omega) hW5 hX5).mono ?_
  rintro e w6 ⟨rfl, q6, rfl⟩
  rw [decide_eq_true rfl]
  clear hW5 hX5
  have hown7 := own_below hown6 ((Below.refl _ w5).drewN q6) (Nat.le_refl _)
  have hb7 : Below w.heap.size w (w5.drewN q6) := (hb14.trans (hb5.mono hb14.size)).drewN q6
  clear hown6 hb14 hb5 hL4
  generalize w5.drewN q6 = V at hown7 hb7
  go_wp2_with (first | (go_at_call 10; refine (num_any _ _).mono ?_; rintro e w' ⟨rfl, rfl⟩))
  go_loopw [10] (fun i wr => ∃ (k : Nat) (ys : List ByteArray), k ≤ n ∧ i = .int .i64 k ∧ ys.length = n + 2 ∧ wr.ownsRow w1.heap.size 9 1 (.slice (some ⟨g, 0, none⟩) (n + 2) cap) (n + 2) (ys.map Value.string) ∧ Below w.heap.size w wr) (fun i _ => n - (intOf i).toNat)
  case atStart => exact ⟨0, xs ++ two, Nat.zero_le _, rfl, by simpa using hown7.1, hown7, hb7⟩
  case round =>
    clear hown7 hb7
    obtain ⟨k, ys, hk, rfl, hyl, ho, hbl⟩ := hrel
    by_cases hlt : k < n
    · have hcell : ∃ z, wr.cell? ⟨g, k, none⟩ = some z := by
        rw [ho.cellAt k (by omega)]
        exact ⟨_, List.getElem?_eq_getElem (by rw [ho.1]; omega)⟩
      obtain ⟨z, hcell⟩ := hcell
      have hfz := ho.frozenAt k
      have hlt2 : (k : Int) < (n : Int) + 2 := by omega
      obtain ⟨X, hXs, hX⟩ := conv_one wr (97 + (k : Int) % 20)
      have hXi : (X.size : Int) = 1 := by omega
      have hcell2 := (((Below.refl wr.heap.size wr).alloc (Nat.le_refl _) (.cells #[.int .u8 (97 + (k : Int) % 20)] 5)).cell (p := ⟨g, k, none⟩) (World.block_lt_of_cell? wr _ hcell)).trans hcell
      have ho2 := ho.alloc (.cells #[.int .u8 (97 + (k : Int) % 20)] 5)
      have hfz2 := ho2.frozenAt k
      have hst := ho2.stored k (.string (⟨#[111]⟩ ++ X))
      rw [← List.map_set] at hst
      have HST : Hid _ := ⟨hst⟩
      have hgb := (ho.lt g rfl).1
      clear hst ho2
      go_wp2
      go_roundw
      case rel =>
        refine ⟨k + 1, ys.set k (⟨#[111]⟩ ++ X), by omega, by go_num, by rw [List.length_set]; exact hyl, HST.out.1, ?_⟩
        exact (hbl.alloc hbl.size _).grown HST.out.2 (by have := hbl.size; simp; omega) (fun k hk => by cases hk; omega)
      case measure => simp [intOf]; omega
    · have hWa := Lies.owned ho
      have hW := hWa.pre (k := n) (by omega)
      generalize ys.take n = zs at hW
      have hlz := hW.hlen
      have hcz : (n : Int) ≤ cap := by have := hWa.hle; omega
      clear hWa ho hyl
      obtain ⟨i0, hi, hz0, hz1, hz2⟩ := info_parts Try.info9
      go_wp2_with fail
      refine (join_any _ _ _ _ _ (by omega) hW).mono ?_
      rintro e w8 ⟨rfl, hb8⟩
      have hW8 := hW.below hb8 (Nat.le_refl _)
      have hown0 : w8.ownsRow w8.heap.size 9 1 (.slice none 0 0) 0 ([] : List Value) := ⟨rfl, Or.inl ⟨rfl, rfl⟩⟩
      have hb9 := hbl.trans (hb8.mono hbl.size)
      generalize hT2 : joinT (zs.map bs) = T2
      generalize hJ2 : judge (zs.map bs) = J2
      have HT2 : Hid (joinT (zs.map bs) = T2) := ⟨hT2⟩
      have HJ2 : Hid (judge (zs.map bs) = J2) := ⟨hJ2⟩
      clear hW hb8 hT2 hJ2
      go_wp2_with (at_builtin; refine wpList_append_own _ rfl _ _ 22 rfl w8.heap.size 9 i0 (.string ⟨#[]⟩) 1 16 Try.underlying22 hi hz0 hz1 hz2 rfl (by decide) _ _ _ rfl hown0 ⟨g, 0, none⟩ n cap (zs.map Value.string) rfl (by simp [hlz]) (fun j u hu => hW8.hcells _ rfl j u hu) (oneCells zs) (by unfold maxLen; omega) (by omega) (Nat.le_refl _) ?_; intro v1 w10 hown1 hgrow1 _; obtain ⟨a10, c10, rfl⟩ := own_len hown1)
      have hl1 := Lies.owned (xs := zs) hown1
      have hb10 : Below w.heap.size w w10 := hb9.grown hgrow1 hb9.size (fun k hk => by cases hk)
      simp only [Nat.zero_add] at hl1
      refine (rjoin_any _ _ _ _ _ (by omega) hl1).mono ?_
      rintro e w11 ⟨rfl, q, rfl⟩
      rw [HT2.out, HJ2.out]
      go_wp2_with (first | (go_at_call 10; refine (num_any _ _).mono ?_; rintro e w' ⟨rfl, rfl⟩))
      go_ret
      exact ⟨rfl, hb10.drewN q⟩
end Go.Proofs.Ytknneihkkagnfab
