/- Numbers as words; bytes in hex digits: the program's and the document's. -/
import Derived.Test.YtjkmdacgiebbfaaDoorW1
import Derived.Test.YtjkmdacgiebbfaaDoorPF
import Derived.Lib.SmallJoins
namespace Go.Proofs.YtjkmdacgiebbfaaDoor
open Go.RowKit Go.Sort
set_option maxRecDepth 100000

def isI (x : Int) : Prop := -9223372036854775808 ≤ x ∧ x ≤ 9223372036854775807
/-- Numbers as words, a blank ahead of each. -/
def numsT (l : List Int) : By := l.flatMap fun n => 32 :: Lib.itoa n
theorem numsT_len (l : List Int) (h : ∀ x ∈ l, isI x) : (numsT l).length ≤ 22 * l.length := by
  induction l with
  | nil => simp [numsT]
  | cons x l ih =>
    have h1 := Lib.itoa_length_le x (h x List.mem_cons_self).1 (h x List.mem_cons_self).2
    have h2 := ih fun y hy => h y (List.mem_cons_of_mem _ hy)
    unfold numsT at h2 ⊢
    rw [List.flatMap_cons, List.length_append, List.length_cons, List.length_cons]
    omega
theorem numsT_take (l : List Int) (q : Nat) (h : q < l.length) : numsT (l.take (q + 1)) = numsT (l.take q) ++ 32 :: Lib.itoa l[q] := by
  unfold numsT
  rw [List.take_add_one, List.getElem?_eq_getElem h, List.flatMap_append]
  simp
/-- Numbers in memory. -/
def IntsAt (w : World) (a : Addr) (l : List Int) : Prop := ∀ j u, (l.map (Value.int .i64))[j]? = some u → w.cell? (a.add j) = some u
theorem IntsAt.below {w w' : World} {a : Addr} {l : List Int} (h : IntsAt w a l) (hb : Below w.heap.size w w') : IntsAt w' a l := fun j u hu => by
  have hc := h j u hu
  exact (hb.cell (World.block_lt_of_cell? w _ hc)).trans hc
theorem IntsAt.at {w : World} {a : Addr} {l : List Int} (h : IntsAt w a l) (q : Nat) (hq : q < l.length) : w.cell? (a.add q) = some (.int .i64 l[q]) := h q _ (by rw [List.getElem?_map, List.getElem?_eq_getElem hq]; rfl)
theorem ints_new (w : World) (l : List Int) (t : TypeId) : IntsAt (w.alloc (.cells (l.map (Value.int .i64)).toArray t)) ⟨w.heap.size, 0, none⟩ l := fun j u hu => World.news_of_block (heap_alloc_new _ _) j u (by simpa using hu)

set_option maxHeartbeats 1000000 in
theorem words_any (f : ByteArray) (l : List Int) (a : Addr) (c : Nat) (w : World) (hG : Gl w) (hf : f.size ≤ 100000000) (hl : ∀ x ∈ l, isI x) (hn : l.length ≤ 1000) (hA : IntsAt w a l) :
    Calls Tryd.prog 6 #[.string f, .slice (some a) l.length c] w fun e w' => e = .returned (.string (tx (bs f ++ numsT l))) ∧ Below w.heap.size w w' := by
  obtain ⟨i0, hi, hz0, hz1, hz2⟩ := info_parts Tryd.info5
  have hcv := Lib.run_convert_string_bytes (P := Tryd.prog) w 9 23 5 f Tryd.underlying9 Tryd.underlying23 Tryd.underlying5
  have hb0 := Joins.below_bytesWorld w.heap.size w 5 f (Nat.le_refl _)
  have hG0 := hG.size
  have ho := own_conv w f (by omega)
  have HO0 := Lib.hid ho
  have HB0 := Lib.hid hb0
  have HG := Lib.hid hG
  have HA := Lib.hid hA
  have hn' : (l.length : Int) ≤ 1000 := by omega
  clear hA ho hb0 hG
  generalize hW0 : Lib.bytesWorld w 5 f = W0 at *
  clear hW0
  go_enter Tryd.func6, Tryd.ntmps6
  go_wp2_with fail
  go_loopw [5, 7, 12] (fun v _ k wr => ∃ q n : Nat, q ≤ l.length ∧ k = .int .i64 q ∧ OwnM wr w.heap.size v n ((bs f ++ numsT (l.take q)).map ub) ∧ Below w.heap.size w wr) (fun _ _ k _ => l.length - (intOf k).toNat)
  case atStart => exact ⟨0, f.size, Nat.zero_le _, rfl, by simpa [numsT] using HO0.out, HB0.out⟩
  case round =>
    obtain ⟨q, n, hq, rfl, hO, hB⟩ := hrel
    obtain ⟨ao, cc, rfl⟩ := hO.slice
    have hnl : n = f.size + (numsT (l.take q)).length := by have := hO.1; rw [List.length_map, List.length_append, size_bs] at this; omega
    have hn2 : (numsT (l.take q)).length ≤ 22 * q := by
      have := numsT_len (l.take q) fun x hx => hl x (List.mem_of_mem_take hx)
      rw [List.length_take] at this
      omega
    have hnb : n ≤ 100030000 := by omega
    clear hnl hn2
    have HO := Lib.hid hO
    have HB := Lib.hid hB
    have hws : w.heap.size ≤ wr.heap.size := hB.size
    have HG2 := Lib.hid (HG.out.here hB)
    have HA2 := Lib.hid (HA.out.below hB)
    clear hO hB HO0 HB0 HG HA
    by_cases hlt : q < l.length
    · have hc := HA2.out.at q hlt
      have hx := hl _ (List.getElem_mem hlt)
      have HT := Lib.hid (numsT_take l q hlt)
      generalize l[q] = x at *
      go_wp2_with (at_builtin; refine wpList_append_M rfl _ _ 23 rfl w.heap.size i0 Tryd.underlying23 hi hz0 hz1 hz2 (.slice ao n cc) n _ rfl (HO.out.alloc _) ⟨wr.heap.size, 0, none⟩ 1 1 [.int .u8 32] rfl rfl (World.news_of_block (heap_alloc_new _ _)) (by intro u hu; simp at hu; subst hu; rfl) (by omega) (by simp; omega) ?_; intro v2 w2 hA; have hb := hA.below (HO.out.alloc _) ((Below.refl w.heap.size wr).alloc hws _) (by simp; omega); have HO2 := Lib.hid hA.own; clear hA)
      have hC := appInt_any w.heap.size (n + 1) x hx.1 hx.2 v2 _ w2 (HG2.out.below hb hG0) hG0 HO2.out (Nat.le_trans hws hb.size) (by omega)
      have HB2 := Lib.hid hb
      clear hb
      refine hC.mono ?_
      rintro e w3 ⟨v3, rfl, ho3, hb3⟩
      clear hC
      have HO3 := Lib.hid ho3
      have HB3 := Lib.hid hb3
      clear ho3 hb3
      go_wp2_with fail
      go_roundw
      case rel =>
        refine ⟨q + 1, n + 1 + (Lib.itoa x).length, by omega, by go_num, ?_, (HB.out.trans HB2.out).trans HB3.out⟩
        have := HO3.out
        rw [HT.out, ← List.append_assoc, List.map_append, List.map_cons]
        rw [List.append_assoc] at this
        exact this
      case measure => simp [intOf]; omega
    · obtain rfl : q = l.length := by omega
      have hO2 := HO.out
      rw [List.take_length] at hO2
      have hcv2 := conv_M hO2
      clear hO2
      go_wp2_with fail
      go_ret
      exact ⟨rfl, HB.out⟩

theorem cat_tx (a b : By) (h : a.length + b.length ≤ 9223372036854775807) : ∀ W, (Op.stringOp .add (tx a) (tx b)).run Tryd.prog W = .ok (.string (tx (a ++ b))) W := fun W => by
  rw [run_string_add_sum W (tx a) (tx b) (by rw [size_tx, size_tx]; exact h)]
  congr 2
theorem cat_l (a : By) (b : ByteArray) (h : a.length + b.size ≤ 9223372036854775807) : ∀ W, (Op.stringOp .add (tx a) b).run Tryd.prog W = .ok (.string (tx (a ++ bs b))) W := by
  have := cat_tx a (bs b) (by simpa using h)
  rwa [tx_bs] at this
theorem cat_r (a : ByteArray) (b : By) (h : a.size + b.length ≤ 9223372036854775807) : ∀ W, (Op.stringOp .add a (tx b)).run Tryd.prog W = .ok (.string (tx (bs a ++ b))) W := by
  have := cat_tx (bs a) b (by simpa using h)
  rwa [tx_bs] at this

set_option maxHeartbeats 1000000 in
theorem rwords_any (l : List Int) (a : Addr) (c : Nat) (w : World) (hG : Gl w) (hl : ∀ x ∈ l, isI x) (hn : l.length ≤ 1000) (hA : IntsAt w a l) :
    Calls Tryd.prog 11 #[.slice (some a) l.length c] w fun e w' => e = .returned (.string (tx (numsT l))) ∧ Below w.heap.size w w' := by
  have HG := Lib.hid hG
  have HA := Lib.hid hA
  have hn' : (l.length : Int) ≤ 1000 := by omega
  clear hA hG
  go_enter Tryd.func11, Tryd.ntmps11
  go_wp2_with fail
  go_loopw [3, 4] (fun v k wr => ∃ q : Nat, q ≤ l.length ∧ k = .int .i64 q ∧ v = .string (tx (numsT (l.take q))) ∧ Below w.heap.size w wr) (fun _ k _ => l.length - (intOf k).toNat)
  case atStart => exact ⟨0, Nat.zero_le _, rfl, rfl, Below.refl _ w⟩
  case round =>
    obtain ⟨q, hq, rfl, rfl, hB⟩ := hrel
    have HB := Lib.hid hB
    have HG2 := Lib.hid (HG.out.here hB)
    have HA2 := Lib.hid (HA.out.below hB)
    clear hB HG HA
    by_cases hlt : q < l.length
    · have hc := HA2.out.at q hlt
      have hx := hl _ (List.getElem_mem hlt)
      have HT := Lib.hid (numsT_take l q hlt)
      generalize l[q] = x at *
      have hC := itoa_any x hx.1 hx.2 wr HG2.out
      have hn2 : (numsT (l.take q)).length ≤ 22 * q := by
        have := numsT_len (l.take q) fun x hx => hl x (List.mem_of_mem_take hx)
        rw [List.length_take] at this
        omega
      have hx2 := Lib.itoa_length_le x hx.1 hx.2
      have c1 := cat_l (numsT (l.take q)) ⟨#[32]⟩ (by simp [ByteArray.size]; omega)
      have c2 := cat_tx (numsT (l.take q) ++ [32]) (Lib.itoa x) (by rw [List.length_append, List.length_singleton]; omega)
      rw [show bs ⟨#[32]⟩ = [32] from rfl] at c1
      go_wp2_with fail
      refine hC.mono ?_
      rintro e w3 ⟨rfl, hb3⟩
      clear hC
      have HB3 := Lib.hid hb3
      clear hb3
      go_wp2_with fail
      go_roundw
      case rel =>
        refine ⟨q + 1, by omega, by go_num, ?_, HB.out.trans (HB3.out.mono HB.out.size)⟩
        rw [HT.out]
      case measure => simp [intOf]; omega
    · obtain rfl : q = l.length := by omega
      have HT := Lib.hid (show l.take l.length = l from List.take_length)
      go_wp2_with fail
      go_ret
      exact ⟨by rw [HT.out]; rfl, HB.out⟩
end Go.Proofs.YtjkmdacgiebbfaaDoor
