/- The tables that the program's text lays; numbers written behind a row that may bear a mark. -/
import Derived.Test.YtjkmdacgiebbfaaDoorW0
import Derived.WalkSmall
import Derived.Lib.ItoaLen
import Derived.Lib.AppendIntMem
namespace Go.Proofs.YtjkmdacgiebbfaaDoor
open Go.RowKit Go.Sort
set_option maxRecDepth 100000

abbrev sI (x : Int) : Value := .int .i64 x
abbrev sS (a : Array UInt8) : Value := .string ⟨a⟩
/-- play.calls. -/
def callCells : Array Value := #[sI 1, sS #[108, 111, 111, 107, 117, 112], sS #[80],
  sI 2, sS #[103, 101, 116, 97, 116, 116, 114], sS #[72],
  sI 3, sS #[114, 101, 97, 100], sS #[72, 79, 76],
  sI 4, sS #[119, 114, 105, 116, 101], sS #[72, 79, 68],
  sI 5, sS #[99, 114, 101, 97, 116, 101], sS #[72, 78],
  sI 6, sS #[114, 101, 109, 111, 118, 101], sS #[72, 78],
  sI 7, sS #[109, 107, 100, 105, 114], sS #[72, 78],
  sI 8, sS #[114, 109, 100, 105, 114], sS #[72, 78],
  sI 9, sS #[114, 101, 110, 97, 109, 101], sS #[72, 78, 104, 110],
  sI 10, sS #[114, 101, 97, 100, 100, 105, 114], sS #[72, 78, 76]]
def nameCells : Array Value := #[sS #[], sS #[108, 111, 111, 107, 117, 112], sS #[103, 101, 116, 97, 116, 116, 114], sS #[114, 101, 97, 100], sS #[119, 114, 105, 116, 101], sS #[99, 114, 101, 97, 116, 101], sS #[114, 101, 109, 111, 118, 101], sS #[109, 107, 100, 105, 114], sS #[114, 109, 100, 105, 114], sS #[114, 101, 110, 97, 109, 101], sS #[114, 101, 97, 100, 100, 105, 114]]
def formCells : Array Value := #[sS #[], sS #[112], sS #[104], sS #[104, 111, 108], sS #[104, 111, 100], sS #[104, 110], sS #[104, 110], sS #[104, 110], sS #[104, 110], sS #[104, 110, 103, 109], sS #[104, 110, 108]]

/-- What the program's text lays. -/
structure Gl (w : World) : Prop where
  pow : Lib.TabIs Tryd.prog w "internal/strconv.uint64pow10" .u64 Lib.pow10Tab
  calls : w.var? Tryd.prog "annex/play.calls" = some callCells
  names : w.var? Tryd.prog "annex/annexref21.callNames" = some nameCells
  forms : w.var? Tryd.prog "annex/annexref21.callForms" = some formCells
  size : 6 ≤ w.heap.size
theorem gn_pow : Tryd.prog.globalNamed "internal/strconv.uint64pow10" = some 3 := by kernel_rfl
theorem gn_calls : Tryd.prog.globalNamed "annex/play.calls" = some 2 := by kernel_rfl
theorem gn_names : Tryd.prog.globalNamed "annex/annexref21.callNames" = some 1 := by kernel_rfl
theorem gn_forms : Tryd.prog.globalNamed "annex/annexref21.callForms" = some 0 := by kernel_rfl
theorem Gl.below {B : Nat} {w w' : World} (h : Gl w) (hb : Below B w w') (hB : 6 ≤ B) : Gl w' :=
  ⟨var?_below hb gn_pow (Nat.lt_of_lt_of_le (by decide) hB) h.pow, var?_below hb gn_calls (Nat.lt_of_lt_of_le (by decide) hB) h.calls, var?_below hb gn_names (Nat.lt_of_lt_of_le (by decide) hB) h.names, var?_below hb gn_forms (Nat.lt_of_lt_of_le (by decide) hB) h.forms, Nat.le_trans h.size hb.size⟩
theorem Gl.here {w w' : World} (h : Gl w) (hb : Below w.heap.size w w') : Gl w' := h.below hb h.size

theorem byteCells_ub (l : By) : Lib.byteCells l = l.map ub := rfl
theorem one_ub (l : By) : ∀ u ∈ l.map ub, u.oneCell' = true := by
  intro u hu
  obtain ⟨b, _, rfl⟩ := List.mem_map.1 hu
  rfl
theorem size_tx (l : By) : (tx l).size = l.length := by simp [ByteArray.size]
theorem strCells_tx (l : By) : Lib.strCells (tx l) = l.map ub := by rw [strCells_ub, bs_tx]

theorem itoa_any (n : Int) (h0 : -9223372036854775808 ≤ n) (h1 : n ≤ 9223372036854775807) (w : World) (hG : Gl w) : Calls Tryd.prog 23 #[.int .i64 n] w fun e w' => e = .returned (.string (tx (Lib.itoa n))) ∧ Below w.heap.size w w' := by
  refine (Tryd.strconv_Itoa n h0 h1 w hG.pow).mono ?_
  rintro e w' ⟨rfl, k, os, rfl⟩
  exact ⟨rfl, Lib.below_grow w.heap.size w (Nat.le_refl _) k os⟩

set_option maxHeartbeats 1000000 in
theorem appUint_small (B n u : Nat) (hu : u < 100) (v : Value) (xs : List Value) (w : World) (hown : OwnM w B v n xs) (hB : B ≤ w.heap.size) (hn : n + 30 ≤ 140737488355328) :
    Calls Tryd.prog 38 #[v, .int .u64 u, .int .i64 10] w fun e w' => ∃ v', e = .returned v' ∧ OwnM w' B v' (n + (Lib.decDigits u).length) (xs ++ (Lib.decDigits u).map ub) ∧ Below B w w' := by
  obtain ⟨i0, hi, hz0, hz1, hz2⟩ := info_parts Tryd.info5
  have hl : (Lib.decDigits u).length ≤ 2 := by
    rw [Lib.decDigits_length]
    by_cases h : u < 10
    · rw [Lib.nDigits_small h]; omega
    · rw [Lib.nDigits_big h, Lib.nDigits_small (by omega)]; omega
  have hS := Tryd.internal_strconv_small u hu w
  have hc : IntKind.i64.wrap (u : Int) = (u : Int) := by rw [IntKind.wrap_i64]; omega
  have iu : (u : Int) < 100 := by omega
  have iu0 : (0 : Int) ≤ (u : Int) := by omega
  have HO := Lib.hid hown
  clear hown hu
  go_enter Tryd.func38, Tryd.ntmps38
  go_wp2_with fail
  refine hS.mono ?_
  rintro e w1 ⟨rfl, hw1⟩
  subst w1
  clear hS
  go_wp2_with (at_builtin; refine wpList_append_str_M rfl _ _ 23 9 rfl B i0 Tryd.underlying23 Tryd.underlying9 hi hz0 hz1 hz2 v n xs rfl HO.out (tx (Lib.decDigits u)) rfl (by rw [size_tx]; omega) hB ?_; intro v' w' hA)
  go_ret
  have hb := hA.below HO.out (Below.refl B w) hB
  refine ⟨v', rfl, ?_, hb⟩
  have := hA.own
  rwa [size_tx, strCells_tx] at this

set_option maxHeartbeats 1000000 in
theorem appUint_big (B n u : Nat) (hu : 100 ≤ u) (hu64 : u < 18446744073709551616) (v : Value) (xs : List Value) (w : World) (hG : Gl w) (hown : OwnM w B v n xs) (hB : B ≤ w.heap.size) (hn : n + 30 ≤ 140737488355328) :
    Calls Tryd.prog 38 #[v, .int .u64 u, .int .i64 10] w fun e w' => ∃ v', e = .returned v' ∧ OwnM w' B v' (n + (Lib.decDigits u).length) (xs ++ (Lib.decDigits u).map ub) ∧ Below B w w' := by
  obtain ⟨i0, hi, hz0, hz1, hz2⟩ := info_parts Tryd.info5
  have hu1 : 1 ≤ u := by omega
  have hnd : Lib.nDigits u ≤ 20 := by have := Lib.numDigits_eq u hu1 hu64; split at this <;> omega
  have hal : Tryd.prog.arrayLen 89 = 24 := by simp [Program.arrayLen, Tryd.underlying89]
  have hsl : ∀ W, (Instr.sliceAt 89 (.pointer (some ⟨w.heap.size, 0, none⟩)) none (some (.int .i64 (Lib.nDigits u : Int))) none).run Tryd.prog W = .ok (.slice (some ⟨w.heap.size, 0, none⟩) (Lib.nDigits u) 24) W := fun W => by
    rw [run_sliceAt_array_h W 89 ⟨w.heap.size, 0, none⟩ (by simp [Program.arrayLen, Program.elem, Tryd.underlying89]) .i64 (Lib.nDigits u : Int) (by omega) (by rw [hal]; omega)]
    go_simp
  have hH0 := Lib.holds_zero0 w 89 (Lib.nDigits u) (by omega)
  have hfmt := Tryd.internal_strconv_formatBase10 w.heap.size 0 24 u (Array.replicate (Lib.nDigits u) 0) (w.alloc (.cells Lib.zeros24 89)) hH0 (by rw [Array.size_replicate]; exact Lib.lt_pow_nDigits u) hu64 (by rw [Array.size_replicate]; omega)
  rw [Array.size_replicate] at hfmt
  have hN := Tryd.internal_strconv_numDigits u hu1 hu64 (w.alloc (.cells Lib.zeros24 89)) (Lib.tabIs_alloc hG.pow _)
  have HH0 := Lib.hid hH0
  have iu : (100 : Int) ≤ (u : Int) := by omega
  have HO := Lib.hid hown
  clear hH0 hal hown
  go_enter Tryd.func38, Tryd.ntmps38
  go_wp2_with fail
  refine hN.mono ?_
  rintro e w1 ⟨rfl, hw1⟩
  subst w1
  clear hN
  go_wp2_with fail
  refine hfmt.mono ?_
  rintro e w' ⟨rfl, k, v', dk, rfl, hF⟩
  clear hfmt
  have hcells : ∀ j x, ((Lib.decDigits u).map ub)[j]? = some x → ((putRow (fun (b : UInt8) => Value.int .u8 (b.toNat : Int)) (w.alloc (.cells Lib.zeros24 89)) w.heap.size 0 dk).drewN k).cell? ((⟨w.heap.size, 0, none⟩ : Addr).add j) = some x := by
    intro j x hj
    have hjl : j < (Lib.decDigits u).length := by
      have h5 := (List.getElem?_eq_some_iff.1 hj).1
      rwa [List.length_map] at h5
    rw [List.getElem?_map, List.getElem?_eq_getElem hjl] at hj
    simp only [Option.map_some, Option.some.injEq] at hj
    subst hj
    rw [Lib.row_is_numeral hF j hjl, Lib.add_plain, World.cell?_drewN]
    exact cell?_putRow (fun (b : UInt8) => Value.int .u8 (b.toNat : Int)) _ w.heap.size 0 _ dk HH0.out (by rw [hF.size, Array.size_replicate]) j (by rw [hF.size]; rw [Lib.decDigits_length] at hjl; exact hjl)
  obtain ⟨os, eo⟩ := Lib.fin_at w (.cells Lib.zeros24 89) dk k 0
  have hb2 : Below w.heap.size w ((putRow (fun (b : UInt8) => Value.int .u8 (b.toNat : Int)) (w.alloc (.cells Lib.zeros24 89)) w.heap.size 0 dk).drewN k) := by rw [eo]; exact Lib.below_grow w.heap.size w (Nat.le_refl _) k os
  generalize (putRow (fun (b : UInt8) => Value.int .u8 (b.toNat : Int)) (w.alloc (.cells Lib.zeros24 89)) w.heap.size 0 dk).drewN k = W2 at hcells hb2 ⊢
  clear eo HH0
  have HC := Lib.hid hcells
  have HO2 := Lib.hid (HO.out.below hb2)
  have hB2 : B ≤ W2.heap.size := Nat.le_trans hB hb2.size
  have HB := Lib.hid hb2
  clear hcells hb2
  go_wp2_with (at_builtin; refine wpList_append_M rfl _ _ 23 rfl B i0 Tryd.underlying23 hi hz0 hz1 hz2 v n xs rfl HO2.out ⟨w.heap.size, 0, none⟩ (Lib.nDigits u) 24 ((Lib.decDigits u).map ub) rfl (by rw [List.length_map, Lib.decDigits_length]) HC.out (one_ub _) (by omega) hB2 ?_; intro v2 w3 hA)
  go_ret
  have hb := hA.below HO2.out (HB.out.mono hB) hB2
  refine ⟨v2, rfl, ?_, hb⟩
  rw [Lib.decDigits_length]
  exact hA.own
theorem appUint_any (B n u : Nat) (hu64 : u < 18446744073709551616) (v : Value) (xs : List Value) (w : World) (hG : Gl w) (hown : OwnM w B v n xs) (hB : B ≤ w.heap.size) (hn : n + 30 ≤ 140737488355328) :
    Calls Tryd.prog 38 #[v, .int .u64 u, .int .i64 10] w fun e w' => ∃ v', e = .returned v' ∧ OwnM w' B v' (n + (Lib.decDigits u).length) (xs ++ (Lib.decDigits u).map ub) ∧ Below B w w' := by
  by_cases h : u < 100
  · exact appUint_small B n u h v xs w hown hB hn
  · exact appUint_big B n u (by omega) hu64 v xs w hG hown hB hn

set_option maxHeartbeats 1000000 in
theorem appInt1_any (B n : Nat) (i : Int) (h0 : -9223372036854775808 ≤ i) (h1 : i ≤ 9223372036854775807) (v : Value) (xs : List Value) (w : World) (hG : Gl w) (hBG : 6 ≤ B) (hown : OwnM w B v n xs) (hB : B ≤ w.heap.size) (hn : n + 31 ≤ 140737488355328) :
    Calls Tryd.prog 26 #[v, .int .i64 i, .int .i64 10] w fun e w' => ∃ v', e = .returned v' ∧ OwnM w' B v' (n + (Lib.itoa i).length) (xs ++ (Lib.itoa i).map ub) ∧ Below B w w' := by
  obtain ⟨i0, hi, hz0, hz1, hz2⟩ := info_parts Tryd.info5
  have HO := Lib.hid hown
  have HG := Lib.hid hG
  clear hown hG
  by_cases hneg : i < 0
  · obtain ⟨u, rfl⟩ : ∃ u : Nat, i = -(u : Int) := ⟨i.natAbs, by omega⟩
    have hwr : IntKind.u64.wrap (-IntKind.u64.wrap (-(u : Int))) = (u : Int) := by rw [IntKind.wrap_u64, IntKind.wrap_u64]; omega
    rw [Lib.itoa_neg u (by omega)]
    go_enter Tryd.func26, Tryd.ntmps26
    go_wp2_with (at_builtin; refine wpList_append_M rfl _ _ 23 rfl B i0 Tryd.underlying23 hi hz0 hz1 hz2 v n xs rfl (HO.out.alloc _) ⟨w.heap.size, 0, none⟩ 1 1 [.int .u8 45] rfl rfl (World.news_of_block (heap_alloc_new _ _)) (by intro u hu; simp at hu; subst hu; rfl) (by omega) (by simp; omega) ?_; intro v2 w2 hA; have hb := hA.below (HO.out.alloc _) ((Below.refl B w).alloc hB _) (by simp; omega); have HO2 := Lib.hid hA.own; clear hA)
    have hC := appUint_any B (n + 1) u (by omega) v2 _ w2 (HG.out.below hb hBG) HO2.out (Nat.le_trans hB hb.size) (by omega)
    have HB := Lib.hid hb
    clear hb
    refine hC.mono ?_
    rintro e w3 ⟨v3, rfl, ho3, hb3⟩
    clear hC
    have HO3 := Lib.hid ho3
    clear ho3
    go_wp2_with fail
    go_ret
    refine ⟨v3, rfl, ?_, HB.out.trans hb3⟩
    have := HO3.out
    rw [List.map_cons, show n + ((Lib.decDigits u).length + 1) = n + 1 + (Lib.decDigits u).length by omega]
    rwa [List.append_assoc] at this
  · obtain ⟨u, rfl⟩ : ∃ u : Nat, i = (u : Int) := ⟨i.natAbs, by omega⟩
    have hwr : IntKind.u64.wrap (u : Int) = (u : Int) := by rw [IntKind.wrap_u64]; omega
    rw [Lib.itoa_nonneg u]
    have hC := appUint_any B n u (by omega) v xs w HG.out HO.out hB (by omega)
    go_enter Tryd.func26, Tryd.ntmps26
    go_wp2_with fail
    refine hC.mono ?_
    rintro e w3 ⟨v3, rfl, ho3, hb3⟩
    clear hC
    have HO3 := Lib.hid ho3
    clear ho3
    go_wp2_with fail
    go_ret
    exact ⟨v3, rfl, HO3.out, hb3⟩
theorem appInt_any (B n : Nat) (i : Int) (h0 : -9223372036854775808 ≤ i) (h1 : i ≤ 9223372036854775807) (v : Value) (xs : List Value) (w : World) (hG : Gl w) (hBG : 6 ≤ B) (hown : OwnM w B v n xs) (hB : B ≤ w.heap.size) (hn : n + 31 ≤ 140737488355328) :
    Calls Tryd.prog 16 #[v, .int .i64 i, .int .i64 10] w fun e w' => ∃ v', e = .returned v' ∧ OwnM w' B v' (n + (Lib.itoa i).length) (xs ++ (Lib.itoa i).map ub) ∧ Below B w w' := by
  have hC := appInt1_any B n i h0 h1 v xs w hG hBG hown hB hn
  clear hG hown
  go_enter Tryd.func16, Tryd.ntmps16
  go_wp2_with fail
  refine hC.mono ?_
  rintro e w3 ⟨v3, rfl, ho3, hb3⟩
  clear hC
  have HO3 := Lib.hid ho3
  clear ho3
  go_wp2_with fail
  go_ret
  exact ⟨v3, rfl, HO3.out, hb3⟩
end Go.Proofs.YtjkmdacgiebbfaaDoor
