/- sum.step, sum.undo, sum.inverseOfPrime by their contracts. -/
import Derived.Test.YtnmdnglbpkpfdaaGreatDoorPk04
import Derived.Test.YtnmdnglbpkpfdaaGreatDoorPk03
import Derived.Lib.SmallJoins
import Derived.Lib.SliceRun
import Derived.BigQuiet
import Derived.Deep.QuietTactic
import Derived.Test.YtnmdnglbpkpfdaaGreatDoorPk01
import Derived.Maps.Ext
import Derived.Maps.RangeWalk
import Derived.Test.YtnmdnglbpkpfdaaGreatDoorShelf
import Derived.Sort.OwnSortedInts
import Derived.Deep.DeepAppendWide
namespace Go.Proofs.YtnmdnglbpkpfdaaGreatDoor.S2
open Go.RowKit
set_option maxRecDepth 100000
set_option maxHeartbeats 400000 in
theorem step_any (h x : Int) (w : World) (hx : By x) :
    Calls Tryz.prog 165 #[.int .u64 h, .int .u8 x] w fun e w' => e = .returned (.int .u64 (stp h x)) ∧ w' = w := by
  have h1 := hx.1; have h2 := hx.2
  go_enter Tryz.func165, Tryz.ntmps165
  go_wp2
  go_ret
  exact ⟨rfl, rfl⟩
end Go.Proofs.YtnmdnglbpkpfdaaGreatDoor.S2

/- sum.More, sum.Back, sum.Sum by their contracts. -/
namespace Go.Proofs.YtnmdnglbpkpfdaaGreatDoor.S2
open Go.RowKit
set_option maxRecDepth 100000
theorem by_getD {l : List Int} (hl : ∀ x ∈ l, By x) {k : Nat} (hk : k < l.length) : By (l.getD k 0) := by
  have : l.getD k 0 = l[k] := by simp [List.getD, hk]
  rw [this]; exact hl _ (List.getElem_mem hk)
theorem take_succ_getD (l : List Int) {k : Nat} (hk : k < l.length) : l.take (k + 1) = l.take k ++ [l.getD k 0] := by
  rw [List.take_succ_eq_append_getElem hk]
  simp [List.getD, hk]
set_option maxHeartbeats 400000 in
theorem more_pos (h : Int) (b o c n : Nat) (bs : List Int) (w : World) (hn : n ≤ 9223372036854775807) (hl : bs.length = n) (hby : ∀ x ∈ bs, By x)
    (hc : ∀ t, t < n → w.cell? ⟨b, o + t, none⟩ = some (.int .u8 (bs.getD t 0))) :
    Calls Tryz.prog 133 #[.int .u64 h, .slice (some ⟨b, o, none⟩) n c] w fun e w' => e = .returned (.int .u64 (fwd h bs)) ∧ w' = w := by
  have hni : (n : Int) ≤ 9223372036854775807 := by omega
  go_enter Tryz.func133, Tryz.ntmps133
  go_wp2
  go_loopw [0, 9] (fun g i wr => ∃ k : Nat, k ≤ n ∧ i = .int .i64 k ∧ g = .int .u64 (fwd h (bs.take k)) ∧ wr = w) (fun _ i _ => n - (intOf i).toNat)
  case atStart => exact ⟨0, Nat.zero_le _, rfl, by simp [fwd], rfl⟩
  case round =>
    obtain ⟨k, hk, rfl, rfl, hwr⟩ := hrel
    subst wr
    by_cases hlt : k < n
    · have hck := hc k hlt
      have hx := by_getD hby (show k < bs.length by omega)
      have hs : fwd h (bs.take (k + 1)) = stp (fwd h (bs.take k)) (bs.getD k 0) := by
        rw [take_succ_getD bs (by omega), fwd_append]; rfl
      have HS : Hid _ := hs
      clear hs
      clear hc hby
      generalize fwd h (bs.take k) = g at *
      generalize bs.getD k 0 = x at *
      go_wp2_with (go_at_call 165; refine (step_any _ _ _ hx).mono ?_; rintro e w1 ⟨rfl, hw1⟩; subst w1)
      go_roundw
      case rel => exact ⟨k + 1, by omega, by go_num, by rw [HS.out], by trivial⟩
      case measure => simp [intOf]; omega
    · clear hc hby
      go_wp2
      go_ret
      rw [List.take_of_length_le (by omega)]
      exact ⟨rfl, rfl⟩

set_option maxHeartbeats 400000 in
theorem more_zero (h : Int) (ao : Option Addr) (c : Nat) (w : World) :
    Calls Tryz.prog 133 #[.int .u64 h, .slice ao 0 c] w fun e w' => e = .returned (.int .u64 h) ∧ w' = w := by
  go_enter Tryz.func133, Tryz.ntmps133
  go_wp2
  refine wp_loop_rounds 1 ?_
  rw [rounds_succ]
  go_wp2
  go_ret
  exact ⟨rfl, rfl⟩

/-- More, of any number and any list. -/
theorem more_any (h : Int) (ao : Option Addr) (n c : Nat) (bs : List Int) (w : World) (hn : n ≤ 9223372036854775807) (hL : Lies w ao n c bs) (hby : ∀ x ∈ bs, By x) :
    Calls Tryz.prog 133 #[.int .u64 h, .slice ao n c] w fun e w' => e = .returned (.int .u64 (fwd h bs)) ∧ w' = w := by
  by_cases h0 : 0 < n
  · obtain ⟨b, o, rfl, hc⟩ := hL.at h0
    exact more_pos h b o c n bs w hn hL.hlen hby hc
  · obtain rfl : n = 0 := by omega
    obtain rfl := List.eq_nil_of_length_eq_zero hL.hlen
    exact more_zero h ao c w

set_option maxHeartbeats 400000 in
theorem sum_any (ao : Option Addr) (n c : Nat) (bs : List Int) (w : World) (hn : n ≤ 9223372036854775807) (hL : Lies w ao n c bs) (hby : ∀ x ∈ bs, By x) :
    Calls Tryz.prog 110 #[.slice ao n c] w fun e w' => e = .returned (.int .u64 (fwd 14695981039346656037 bs)) ∧ w' = w := by
  go_enter Tryz.func110, Tryz.ntmps110
  go_wp2_with (go_at_call 133; refine (more_any _ ao n c bs _ hn hL hby).mono ?_; rintro e w1 ⟨rfl, hw1⟩; subst w1)
  go_ret
  exact ⟨rfl, rfl⟩
end Go.Proofs.YtnmdnglbpkpfdaaGreatDoor.S2

/- The journal's own blocks, by their contracts: filled, commitBlock, headBlock. -/
namespace Go.Proofs.YtnmdnglbpkpfdaaGreatDoor
open Go.RowKit
set_option maxRecDepth 100000
theorem lies_mark (w : World) (l : List Int) (n : Nat) (hl : l.length = n) (C : Array Value) (hC : C = (l.map (Value.int .u8)).toArray) (fr : Nat × Nat) (g : Nat) (hg : g = w.heap.size) : Lies (w.alloc (.cells C 5 fr)) (some ⟨g, 0, none⟩) n n l := by
  subst hC
  refine ⟨hl, Nat.le_refl _, (fun h => by cases h), fun ad had t u hu => ?_⟩
  obtain rfl := Option.some.inj had
  rw [Addr.add_lit, Nat.zero_add, Go.Joins.cell_alloc_mark_at _ _ _ _ _ _ hg]
  simpa using hu
theorem be_by (X : Int) (k : Nat) : ∀ x ∈ be X k, 0 ≤ x ∧ x ≤ 255 := by
  induction k with
  | zero => intro x hx; simp [be] at hx
  | succ k ih =>
    intro x hx
    simp only [be, List.mem_cons] at hx
    rcases hx with rfl | hx
    · omega
    · exact ih x hx
/-- So many bytes, and zeros behind them. -/
def fillB (bs : List Int) : List Int := bs ++ List.replicate (512 - bs.length) 0
theorem fillB_len {bs : List Int} (h : bs.length ≤ 512) : (fillB bs).length = 512 := by simp [fillB]; omega
theorem fillB_by {bs : List Int} (h : ∀ x ∈ bs, 0 ≤ x ∧ x ≤ 255) : ∀ x ∈ fillB bs, 0 ≤ x ∧ x ≤ 255 := fun x hx => by
  rcases List.mem_append.1 hx with hx | hx
  · exact h x hx
  · have := List.eq_of_mem_replicate hx; omega
theorem splice_zeros (bs : List Int) : splice (List.replicate 512 (Value.int .u8 0)) 0 (bs.map (Value.int .u8)) = (fillB bs).map (Value.int .u8) := by
  unfold splice fillB
  rw [List.take_zero, List.nil_append, List.length_map, Nat.zero_add, List.drop_replicate, List.map_append, List.map_replicate]
/-- A new block of these bytes. -/
def Blk (w w' : World) (e : Ending) (bs : List Int) : Prop := ∃ g, e = .returned (hv g) ∧ w.heap.size ≤ g ∧ w'.heap[g]? = some (bl bs) ∧ Below w.heap.size w w'
set_option maxHeartbeats 1000000 in
theorem filled_any (ao : Option Addr) (n c : Nat) (bs : List Int) (w : World) (hn : n ≤ 512) (hL : Lies w ao n c bs) : Calls Tryz.prog 108 #[.slice ao n c] w fun e w' => Blk w w' e (fillB bs) := by
  obtain ⟨i0, hi, hz0, hz1, hz2⟩ := info_parts Tryz.info5
  have hsz : (Tryz.prog.info? 5).map (·.size) = some 1 := by rw [hi]; simp [hz1]
  have hlen := hL.hlen
  have hL1 : Lies (w.alloc (.cells (madeCells #[.int .u8 0] 512) 5)) ao n c bs := hL.below ((Below.refl _ w).alloc (Nat.le_refl _) _) (Nat.le_refl _)
  have hpos : 0 < (bs.map (Value.int .u8)).length → (some ⟨w.heap.size, 0, none⟩ : Option Addr) = some ⟨w.heap.size, 0, none⟩ ∧ ∃ ad, ao = some ad ∧ ∀ j v, (bs.map (Value.int .u8))[j]? = some v → (w.alloc (.cells (madeCells #[.int .u8 0] 512) 5)).cell? (ad.add j) = some v := fun hp => by
    cases hao : ao with
    | none => have := (hL.hnone hao).1; simp at hp; omega
    | some ad => exact ⟨rfl, ad, rfl, hL1.hcells ad hao⟩
  have hrow := made_row w 512
  have hbel : Below w.heap.size w (w.alloc (.cells (madeCells #[.int .u8 0] 512) 5)) := (Below.refl _ w).alloc (Nat.le_refl _) _
  go_enter Tryz.func108, Tryz.ntmps108
  go_wp2_with (first
    | (at_make; (refine wpList_make_row _ rfl _ _ 56 rfl 5 i0 (.int .u8 0) Tryz.underlying56 hi hz0 hz1 rfl _ _ 512 rfl rfl (by rw [hz2]; omega) (by omega) ?_))
    | (refine wpList_copy_splice rfl _ _ 56 56 rfl 5 Tryz.underlying56 hsz _ _ _ _ _ _ rfl rfl w.heap.size 0 (List.replicate 512 (Value.int .u8 0)) 5 hrow (bs.map (Value.int .u8)) (by rw [List.length_map, hlen]; exact (Nat.min_eq_left hn).symm) hpos (by rw [List.length_map, hlen, List.length_replicate]; omega) (ints_oneCell _ _) w.heap.size w hbel (Nat.le_refl _) ?_; intro w2 HG2 hB2))
  go_ret
  refine ⟨_, rfl, Nat.le_refl _, ?_, hB2⟩
  rw [HG2.out, splice_zeros]
/-- A commit. -/
def comB (seq : Int) : List Int := fillB ([65, 78, 88, 67] ++ be 0 4 ++ be (IntKind.u64.wrap seq) 8)
set_option maxHeartbeats 1000000 in
theorem commitBlock_any (seq : Int) (w : World) : Calls Tryz.prog 92 #[.int .i64 seq] w fun e w' => Blk w w' e (comB seq) := by
  have hcc := Go.Joins.run_convert_bytes_const_at (P := Tryz.prog) w 56 5 #[.int .u8 65, .int .u8 78, .int .u8 88, .int .u8 67] 4 4 w.heap.size (by simp) Tryz.underlying56 Tryz.underlying5
  have hb0 : Below w.heap.size w (w.alloc (.cells #[.int .u8 65, .int .u8 78, .int .u8 88, .int .u8 67] 5 (4, 5))) := (Below.refl _ w).alloc (Nat.le_refl _) _
  have hL0 : Lies (w.alloc (.cells #[.int .u8 65, .int .u8 78, .int .u8 88, .int .u8 67] 5 (4, 5))) (some ⟨w.heap.size, 0, none⟩) 4 4 [65, 78, 88, 67] := lies_mark w [65, 78, 88, 67] 4 rfl _ rfl (4, 5) w.heap.size rfl
  go_enter Tryz.func92, Tryz.ntmps92
  go_wp2_with fail
  refine (put32_any _ 4 4 0 _ _ (by omega) hL0).mono ?_
  rintro e w1 ⟨g1, c1, rfl, ho1, hb1⟩
  have hL1 := Lies.own ho1
  have q1 := hb0.trans (hb1.mono hb0.size)
  clear hcc hb0 hL0 ho1 hb1
  go_wp2_with fail
  refine (put64_any _ _ c1 seq _ _ (by omega) hL1).mono ?_
  rintro e w2 ⟨g2, c2, rfl, ho2, hb2⟩
  have hL2 := Lies.own ho2
  have q2 := q1.trans (hb2.mono q1.size)
  clear hL1 ho2 hb2 q1
  go_wp2_with fail
  refine (filled_any _ _ c2 _ _ (by omega) hL2).mono ?_
  rintro e w3 ⟨g3, rfl, l3, b3, q3⟩
  go_wp2
  go_ret
  exact ⟨g3, rfl, Nat.le_trans q2.size l3, b3, q2.trans (q3.mono q2.size)⟩
/-- A head: what its sum is of; the head. -/
def hdB (seq place : Int) : List Int := [65, 78, 88, 72] ++ be 0 4 ++ be (IntKind.u64.wrap seq) 8 ++ be (IntKind.u64.wrap place) 4
def jsum (l : List Int) : Int := S2.fwd 14695981039346656037 l
def jheadB (seq place : Int) : List Int := fillB (hdB seq place ++ be (jsum (hdB seq place)) 8)
theorem hdB_len (seq place : Int) : (hdB seq place).length = 20 := by simp [hdB, be_length]
theorem hdB_by (seq place : Int) : ∀ x ∈ hdB seq place, 0 ≤ x ∧ x ≤ 255 := fun x hx => by
  simp only [hdB, List.mem_append] at hx
  rcases hx with ((hx | hx) | hx) | hx
  · simp at hx; omega
  all_goals exact be_by _ _ x hx
set_option maxHeartbeats 1000000 in
theorem headBlock_any (seq place : Int) (w : World) : Calls Tryz.prog 83 #[.int .i64 seq, .int .i64 place] w fun e w' => Blk w w' e (jheadB seq place) := by
  have hcc := Go.Joins.run_convert_bytes_const_at (P := Tryz.prog) w 56 5 #[.int .u8 65, .int .u8 78, .int .u8 88, .int .u8 72] 4 4 w.heap.size (by simp) Tryz.underlying56 Tryz.underlying5
  have hb0 : Below w.heap.size w (w.alloc (.cells #[.int .u8 65, .int .u8 78, .int .u8 88, .int .u8 72] 5 (4, 5))) := (Below.refl _ w).alloc (Nat.le_refl _) _
  have hL0 : Lies (w.alloc (.cells #[.int .u8 65, .int .u8 78, .int .u8 88, .int .u8 72] 5 (4, 5))) (some ⟨w.heap.size, 0, none⟩) 4 4 [65, 78, 88, 72] := lies_mark w [65, 78, 88, 72] 4 rfl _ rfl (4, 5) w.heap.size rfl
  go_enter Tryz.func83, Tryz.ntmps83
  go_wp2_with fail
  refine (put32_any _ 4 4 0 _ _ (by omega) hL0).mono ?_
  rintro e w1 ⟨g1, c1, rfl, ho1, hb1⟩
  have hL1 := Lies.own ho1
  have q1 := hb0.trans (hb1.mono hb0.size)
  clear hcc hb0 hL0 ho1 hb1
  go_wp2_with fail
  refine (put64_any _ _ c1 seq _ _ (by omega) hL1).mono ?_
  rintro e w2 ⟨g2, c2, rfl, ho2, hb2⟩
  have hL2 := Lies.own ho2
  have q2 := q1.trans (hb2.mono q1.size)
  clear hL1 ho2 hb2 q1
  go_wp2_with fail
  refine (put32_any _ _ c2 place _ _ (by omega) hL2).mono ?_
  rintro e w3 ⟨g3, c3, rfl, ho3, hb3⟩
  have hL3 : Lies w3 (some ⟨g3, 0, none⟩) 20 c3 (hdB seq place) := Lies.own ho3
  have q3 := q2.trans (hb3.mono q2.size)
  have hby := hdB_by seq place
  clear hL2 ho3 hb3 q2
  go_wp2_with fail
  refine (S2.sum_any (some ⟨g3, 0, none⟩) 20 c3 (hdB seq place) _ (by omega) hL3 hby).mono ?_
  rintro e w4 ⟨rfl, hw4⟩
  subst w4
  have hsu : 0 ≤ S2.fwd 14695981039346656037 (hdB seq place) ∧ S2.fwd 14695981039346656037 (hdB seq place) ≤ 18446744073709551615 := S2.U.fwd (h := 14695981039346656037) _ ⟨by decide, by decide⟩
  obtain ⟨S, hS⟩ : ∃ S, S2.fwd 14695981039346656037 (hdB seq place) = S := ⟨_, rfl⟩
  rw [hS] at hsu
  simp only [hS]
  have HS : Hid (jsum (hdB seq place) = S) := hS
  clear hS
  go_wp2_with fail
  refine (putSum_any (some ⟨g3, 0, none⟩) 20 c3 S (hdB seq place) _ hsu.1 hsu.2 (by omega) hL3).mono ?_
  rintro e w5 ⟨g5, c5, rfl, ho5, hb5⟩
  have hL5 := Lies.own ho5
  have q5 := q3.trans (hb5.mono q3.size)
  clear hL3 ho5 hb5 q3
  go_wp2_with fail
  refine (filled_any _ _ c5 _ _ (by omega) hL5).mono ?_
  rintro e w6 ⟨g6, rfl, l6, b6, q6⟩
  go_wp2
  go_ret
  refine ⟨g6, rfl, Nat.le_trans q5.size l6, ?_, q5.trans (q6.mono q5.size)⟩
  unfold jheadB
  rw [HS.out]
  exact b6
end Go.Proofs.YtnmdnglbpkpfdaaGreatDoor

/- A descriptor, by its contract: descriptorBlock. -/
namespace Go.Proofs.YtnmdnglbpkpfdaaGreatDoor
open Go.RowKit
set_option maxRecDepth 100000
/-- The cells of a descriptor's lines. -/
def lnC (ls : List (Nat × Nat)) : List Value := ls.flatMap fun p => [.int .i64 p.1, .int .i64 p.2]
theorem lnC_at : ∀ (ls : List (Nat × Nat)) (i : Nat) (p : Nat × Nat), ls[i]? = some p → (lnC ls)[i * 2]? = some (.int .i64 p.1) ∧ (lnC ls)[i * 2 + 1]? = some (.int .i64 p.2)
  | [], i, p, h => by simp at h
  | q :: ls, 0, p, h => by simp at h; subst h; simp [lnC]
  | q :: ls, i + 1, p, h => by
    have := lnC_at ls i p (by simpa using h)
    rw [show (i + 1) * 2 = i * 2 + 1 + 1 by omega]
    simpa [lnC] using this
/-- The lines of a descriptor in memory. -/
structure Lns (w : World) (lv : Value) (ls : List (Nat × Nat)) : Prop where
  row : w.ownsRow 0 154 2 lv ls.length (lnC ls)
theorem Lns.get {w : World} {lv : Value} {ls : List (Nat × Nat)} (h : Lns w lv ls) {i : Nat} {p : Nat × Nat} (hp : ls[i]? = some p) : ∃ g c, lv = .slice (some ⟨g, 0, none⟩) ls.length c ∧ w.cell? ⟨g, i * 2, none⟩ = some (.int .i64 p.1) ∧ w.cell? ⟨g, i * 2 + 1, none⟩ = some (.int .i64 p.2) := by
  have hi := (List.getElem?_eq_some_iff.1 hp).1
  rcases h.row.2 with ⟨_, h0⟩ | ⟨g, cap, cur, hv, _, hg, h1, h2, h3, h4⟩
  · omega
  · obtain ⟨e1, e2⟩ := lnC_at ls i p hp
    refine ⟨g, cap, hv, ?_, ?_⟩
    · simp only [World.cell?, hg]
      rw [← h4, List.getElem?_take, if_pos (by omega)] at e1
      simpa using e1
    · simp only [World.cell?, hg]
      rw [← h4, List.getElem?_take, if_pos (by omega)] at e2
      simpa using e2
def lnB (ls : List (Nat × Nat)) : List Int := ls.flatMap fun p => be p.1 4 ++ be p.2 4
theorem lnB_len (ls : List (Nat × Nat)) : (lnB ls).length = 8 * ls.length := by
  induction ls with
  | nil => rfl
  | cons p ls ih => simp only [lnB, List.flatMap_cons, List.length_append, be_length, List.length_cons] at *; omega
theorem lnB_snoc (ls : List (Nat × Nat)) (p : Nat × Nat) : lnB (ls ++ [p]) = lnB ls ++ be p.1 4 ++ be p.2 4 := by simp [lnB]
/-- A descriptor. -/
def desH (seq : Int) (n : Nat) : List Int := [65, 78, 88, 68] ++ be n 4 ++ be (IntKind.u64.wrap seq) 8
def desB (seq : Int) (ls : List (Nat × Nat)) : List Int := fillB (desH seq ls.length ++ lnB ls)
theorem u64_nat (x : Nat) (h1 : x ≤ 1000000) : IntKind.u64.wrap (x : Int) = x := by
  simp [IntKind.wrap, IntKind.bits, IntKind.signed]; omega
set_option maxHeartbeats 4000000 in
theorem descriptorBlock_any (seq : Int) (lv : Value) (ls : List (Nat × Nat)) (w : World) (hl : Lns w lv ls) (hn : ls.length ≤ 24) (hsm : ∀ p ∈ ls, p.1 ≤ 4096 ∧ p.2 ≤ 2) : Calls Tryz.prog 90 #[.int .i64 seq, lv] w fun e w' => Blk w w' e (desB seq ls) := by
  obtain ⟨aL, cL, rfl⟩ := row_slice hl.row
  obtain ⟨N, hN⟩ : ∃ N, ls.length = N := ⟨_, rfl⟩
  rw [hN] at hn
  have hcc := Go.Joins.run_convert_bytes_const_at (P := Tryz.prog) w 56 5 #[.int .u8 65, .int .u8 78, .int .u8 88, .int .u8 68] 4 4 w.heap.size (by simp) Tryz.underlying56 Tryz.underlying5
  have hb0 : Below w.heap.size w (w.alloc (.cells #[.int .u8 65, .int .u8 78, .int .u8 88, .int .u8 68] 5 (4, 5))) := (Below.refl _ w).alloc (Nat.le_refl _) _
  have hL0 : Lies (w.alloc (.cells #[.int .u8 65, .int .u8 78, .int .u8 88, .int .u8 68] 5 (4, 5))) (some ⟨w.heap.size, 0, none⟩) 4 4 [65, 78, 88, 68] := lies_mark w [65, 78, 88, 68] 4 rfl _ rfl (4, 5) w.heap.size rfl
  go_enter Tryz.func90, Tryz.ntmps90
  rw [hN]
  go_wp2_with fail
  refine (put32_any _ 4 4 N _ _ (by omega) hL0).mono ?_
  rintro e w1 ⟨g1, c1, rfl, ho1, hb1⟩
  have hL1 := Lies.own ho1
  rw [u64_nat N (by omega)] at hL1
  have q1 := hb0.trans (hb1.mono hb0.size)
  clear hcc hb0 hL0 ho1 hb1
  go_wp2_with fail
  refine (put64_any _ _ c1 seq _ _ (by omega) hL1).mono ?_
  rintro e w2 ⟨g2, c2, rfl, ho2, hb2⟩
  have hL2 : Lies w2 (some ⟨g2, 0, none⟩) 16 c2 (desH seq N) := Lies.own ho2
  have q2 := q1.trans (hb2.mono q1.size)
  clear hL1 ho2 hb2 q1
  go_wp2_with fail
  go_loopw [5, 18] (fun b v wr => ∃ (k g c : Nat), k ≤ N ∧ v = .int .i64 k ∧ b = .slice (some ⟨g, 0, none⟩) (16 + 8 * k) c ∧ Lies wr (some ⟨g, 0, none⟩) (16 + 8 * k) c (desH seq N ++ lnB (ls.take k)) ∧ Below w.heap.size w wr) (fun _ v _ => N - (intOf v).toNat)
  case atStart => exact ⟨0, _, _, by omega, rfl, rfl, by simpa [lnB] using hL2, q2⟩
  case round =>
    clear q2 hL2
    obtain ⟨k, g, c, hk, rfl, rfl, hL, hb⟩ := hrel
    by_cases hlt : k < N
    · obtain ⟨p, hp⟩ : ∃ p, ls[k]? = some p := ⟨_, List.getElem?_eq_getElem (by omega)⟩
      obtain ⟨gl, cl, hal, y0, y1⟩ := hl.get hp
      have hps := hsm p (List.mem_of_getElem? hp)
      have HT : Hid (ls.take (k + 1) = ls.take k ++ [p]) := by
        refine List.ext_getElem? fun i => ?_
        rw [List.getElem?_take, List.getElem?_append, List.length_take, hN, Nat.min_eq_left (by omega : k ≤ N)]
        by_cases h1 : i < k
        · rw [if_pos (by omega), if_pos h1, List.getElem?_take, if_pos h1]
        · by_cases h2 : i = k
          · subst h2; simp [hp]
          · rw [if_neg (by omega), if_neg h1]; simp; omega
      obtain ⟨p1, p2⟩ := p
      have z0 := cell_later hb y0
      have z1 := cell_later hb y1
      obtain rfl : aL = some ⟨gl, 0, none⟩ := by cases hal; rfl
      have hki : (k : Int) < N := by omega
      obtain ⟨W, hW⟩ : ∃ W, wr.alloc (.cells #[.int .i64 p1, .int .i64 p2] 154) = W := ⟨_, rfl⟩
      have bW : Below wr.heap.size wr W := by rw [← hW]; exact (Below.refl _ wr).alloc (Nat.le_refl _) _
      have x0 : W.cell? ⟨wr.heap.size, 0, none⟩ = some (.int .i64 p1) := by rw [← hW]; simp
      have x1 : W.cell? ⟨wr.heap.size, 1, none⟩ = some (.int .i64 p2) := by rw [← hW]; simp
      have hLW := hL.below bW (Nat.le_refl _)
      have hbW := hb.trans (bW.mono hb.size)
      clear y0 y1 hal
      go_wp2_with fail
      try rw [hW]
      refine (put32_any (some ⟨g, 0, none⟩) (16 + 8 * k) c p1 _ _ (by omega) hLW).mono ?_
      rintro e w2 ⟨g2, c2, rfl, ho, hb2⟩
      have hL2 := Lies.own ho
      rw [u64_nat p1 (by omega)] at hL2
      have hq2 := hbW.trans (hb2.mono hbW.size)
      have x1 := cell_later hb2 x1
      clear hLW ho x0
      go_wp2_with fail
      refine (put32_any (some ⟨g2, 0, none⟩) _ c2 p2 _ _ (by omega) hL2).mono ?_
      rintro e w3 ⟨g3, c3, rfl, ho3, hb3⟩
      have hL3 := Lies.own ho3
      rw [u64_nat p2 (by omega), List.append_assoc (desH seq N), List.append_assoc (desH seq N), ← lnB_snoc _ (p1, p2), ← HT.out] at hL3
      have hq3 := hq2.trans (hb3.mono hq2.size)
      rw [show 16 + 8 * k + 4 + 4 = 16 + 8 * (k + 1) by omega] at hL3
      clear hL2 ho3 hL hb hb2 hb3 hbW z0 z1 x1
      go_wp2_with fail
      go_roundw
      case rel => exact ⟨k + 1, g3, c3, by omega, by go_num, by rw [show 16 + 8 * k + 4 + 4 = 16 + 8 * (k + 1) by omega], hL3, hq3⟩
      case measure => simp [intOf]; omega
    · obtain rfl : k = N := by omega
      rw [List.take_of_length_le (by omega)] at hL
      go_wp2_with fail
      refine (filled_any _ _ c _ _ (by omega) hL).mono ?_
      rintro e w3 ⟨g3, rfl, l3, b3, q3⟩
      go_wp2
      go_ret
      refine ⟨g3, rfl, Nat.le_trans hb.size l3, ?_, hb.trans (q3.mono hb.size)⟩
      unfold desB
      rw [hN]
      exact b3
end Go.Proofs.YtnmdnglbpkpfdaaGreatDoor

/- How a block begins; how it stands in the log: begins, flagOf, hidden. -/
namespace Go.Proofs.YtnmdnglbpkpfdaaGreatDoor
open Go.RowKit
set_option maxRecDepth 100000
/-- The first four bytes are a mark's. -/
def begs (bs m : List Int) : Bool := decide (bs.take 4 = m)
theorem txt_inj {a b : List Int} (ha : ∀ x ∈ a, 0 ≤ x ∧ x ≤ 255) (hb : ∀ x ∈ b, 0 ≤ x ∧ x ≤ 255) (h : txt a = txt b) : a = b := by
  have := congrArg nums h
  rwa [nums_txt a ha, nums_txt b hb] at this
set_option maxHeartbeats 1000000 in
theorem begins_any (g n c : Nat) (bs m : List Int) (s : ByteArray) (w : World) (hL : Lies w (some ⟨g, 0, none⟩) n c bs) (h4 : 4 ≤ n) (hc : c ≤ 140737488355328) (hby : ∀ x ∈ bs, 0 ≤ x ∧ x ≤ 255) (hm : ∀ x ∈ m, 0 ≤ x ∧ x ≤ 255) (hs : txt m = s) : Calls Tryz.prog 114 #[.slice (some ⟨g, 0, none⟩) n c, .string s] w fun e w' => e = .returned (.bool (begs bs m)) ∧ w' = w := by
  subst hs
  have hle := hL.hle
  have hs4 := hL.sub 0 0 4 c (fun _ => rfl) (by omega) (by omega)
  have hcv := run_string_of w ⟨g, 0, none⟩ 4 c _ hs4
  have hq : ((txt (bs.take 4)).toList == (txt m).toList) = begs bs m := by
    rw [Bool.eq_iff_iff, beq_iff_eq]
    simp only [begs, decide_eq_true_eq]
    refine ⟨fun h => txt_inj (fun x hx => hby x (List.mem_of_mem_take hx)) hm ?_, fun h => by rw [h]⟩
    rw [ByteArray.toList_eq, ByteArray.toList_eq] at h
    exact ByteArray.ext (Array.toList_inj.1 h)
  go_enter Tryz.func114, Tryz.ntmps114
  go_wp2
  go_ret
  refine ⟨?_, rfl⟩
  rw [← hq]
  rfl
/-- How a block begins. -/
def flagN (bs : List Int) : Nat := if begs bs [65, 78, 88, 68] then 1 else if begs bs [65, 78, 88, 67] then 2 else 0
set_option maxHeartbeats 1000000 in
theorem flagOf_any (g : Nat) (bs : List Int) (w : World) (hg : w.heap[g]? = some (bl bs)) (hl : bs.length = 512) (hby : ∀ x ∈ bs, 0 ≤ x ∧ x ≤ 255) : Calls Tryz.prog 88 #[hv g] w fun e w' => e = .returned (.int .i64 (flagN bs)) ∧ w' = w := by
  have hL := Lies.full hg hl
  have m1 := begins_any g 512 512 bs [65, 78, 88, 68] ⟨#[65, 78, 88, 68]⟩ w hL (by omega) (by omega) hby (by decide) (by rfl)
  have m2 := begins_any g 512 512 bs [65, 78, 88, 67] ⟨#[65, 78, 88, 67]⟩ w hL (by omega) (by omega) hby (by decide) (by rfl)
  cases h1 : begs bs [65, 78, 88, 68] with
  | true =>
    rw [h1] at m1
    go_enter Tryz.func88, Tryz.ntmps88
    go_wp2_with fail
    refine m1.mono ?_
    rintro e wn ⟨rfl, hwn⟩
    subst wn
    go_wp2
    go_ret
    exact ⟨by simp [flagN, h1], rfl⟩
  | false =>
    rw [h1] at m1
    cases h2 : begs bs [65, 78, 88, 67] with
    | true =>
      rw [h2] at m2
      go_enter Tryz.func88, Tryz.ntmps88
      go_wp2_with fail
      refine m1.mono ?_
      rintro e wn ⟨rfl, hwn⟩
      subst wn
      go_wp2_with fail
      refine m2.mono ?_
      rintro e wn ⟨rfl, hwn⟩
      subst wn
      go_wp2
      go_ret
      exact ⟨by simp [flagN, h1, h2], rfl⟩
    | false =>
      rw [h2] at m2
      go_enter Tryz.func88, Tryz.ntmps88
      go_wp2_with fail
      refine m1.mono ?_
      rintro e wn ⟨rfl, hwn⟩
      subst wn
      go_wp2_with fail
      refine m2.mono ?_
      rintro e wn ⟨rfl, hwn⟩
      subst wn
      go_wp2
      go_ret
      exact ⟨by simp [flagN, h1, h2], rfl⟩
theorem cleared {w : World} {g : Nat} {bs : List Int} (hl : bs.length = 512) (h : w.heap[g]? = some (bl bs)) : (w.setCells g 0 (List.replicate 4 (.int .u8 0))).heap[g]? = some (bl ([0, 0, 0, 0] ++ bs.drop 4)) := by
  rcases bs with _ | ⟨a, _ | ⟨b, _ | ⟨c, _ | ⟨d, r⟩⟩⟩⟩
  iterate 4 (simp at hl)
  have e1 := heap_setCell_same _ g 0 _ _ (.int .u8 0) h
  have e2 := heap_setCell_same _ g 1 _ _ (.int .u8 0) e1
  have e3 := heap_setCell_same _ g 2 _ _ (.int .u8 0) e2
  have e4 := heap_setCell_same _ g 3 _ _ (.int .u8 0) e3
  refine Eq.trans e4 ?_
  simp
theorem cleared_turns (w : World) (g : Nat) : Turns (fun i => i = g) w (w.setCells g 0 (List.replicate 4 (.int .u8 0))) :=
  (((Turns.cell w g 0 _).trans (Turns.cell _ g 1 _) (fun _ _ h => h)).trans (Turns.cell _ g 2 _) (fun _ _ h => h)).trans (Turns.cell _ g 3 _) (fun _ _ h => h)
/-- A block as it stands in the log. -/
def hidB (bs : List Int) (f : Nat) : List Int := if f = 0 then bs else [0, 0, 0, 0] ++ bs.drop 4
set_option maxHeartbeats 1000000 in
theorem hidden_any (g : Nat) (bs : List Int) (f : Nat) (w : World) (hg : w.heap[g]? = some (bl bs)) (hl : bs.length = 512) (hf : f ≤ 2) : Calls Tryz.prog 91 #[hv g, .int .i64 f] w fun e w' => Blk w w' e (hidB bs f) := by
  have hL := Lies.full hg hl
  by_cases h0 : f = 0
  · subst h0
    go_enter Tryz.func91, Tryz.ntmps91
    go_wp2_with fail
    refine (jcopied_any _ _ _ _ _ (by omega) hL).mono ?_
    rintro e w1 ⟨g1, rfl, l1, b1, q1⟩
    go_wp2
    go_ret
    exact ⟨g1, rfl, l1, by simpa [hidB] using b1, q1⟩
  · have hfi : (f : Int) ≠ 0 := by omega
    go_enter Tryz.func91, Tryz.ntmps91
    go_wp2_with fail
    refine (jcopied_any _ _ _ _ _ (by omega) hL).mono ?_
    rintro e w1 ⟨g1, rfl, l1, b1, q1⟩
    have hz : ∀ w : World, (zeroValue 5).run Tryz.prog w = .ok (.int .u8 0) w := fun w => by kernel_rfl
    have hcl : ∀ ty, (Builtin.clear_ #[56] ty #[.slice (some ⟨g1, 0, none⟩) 4 512]).run Tryz.prog w1 = .ok (.tuple #[]) (w1.setCells g1 0 (List.replicate 4 (.int .u8 0))) := fun ty => Lib.run_clear_slice w1 _ _ ty _ Tryz.underlying56 hz rfl rfl g1 0 4 512 (by omega) (fun j hj => by simp [World.cell?, b1]; omega) (fun j hj => by simp [World.frozen?, b1])
    have hset := cleared hl b1
    have hT := cleared_turns w1 g1
    generalize w1.setCells g1 0 (List.replicate 4 (.int .u8 0)) = w2 at *
    go_wp2
    go_ret
    refine ⟨g1, rfl, l1, ?_, q1.trans (hT.below (fun i e => by omega) q1.size)⟩
    unfold hidB
    rw [if_neg h0]
    exact hset
end Go.Proofs.YtnmdnglbpkpfdaaGreatDoor

/- Err by its contract. -/
namespace Go.Proofs.YtnmdnglbpkpfdaaGreatDoor
open Go.RowKit
set_option maxRecDepth 100000
set_option maxHeartbeats 400000 in
theorem err_any (rb g n cap : Nat) (pl code : Int) (bs : List Int) (w : World) (hR : Rdr w rb g n cap pl code bs) :
    Calls Tryz.prog 142 #[.pointer (some ⟨rb, 0, none⟩)] w fun e w' => e = .returned (.tuple #[.int .i64 code, .int .i64 pl]) ∧ ∃ m, w' = w.drewN m := by
  have c1 := hR.c1
  have c2 := hR.c2
  go_enter Tryz.func142, Tryz.ntmps142
  go_wp2
  go_quiet (fail)
  go_wp2
  go_ret2
  exact ⟨rfl, _, rfl⟩
end Go.Proofs.YtnmdnglbpkpfdaaGreatDoor

/- A head as it is read: headOf by its contract. -/
namespace Go.Proofs.YtnmdnglbpkpfdaaGreatDoor
open Go.RowKit
set_option maxRecDepth 100000
theorem Lies.cut {w : World} {g n : Nat} {bs : List Int} (h : w.heap[g]? = some (bl bs)) (hl : bs.length = 512) (o : Nat) (hn : o + n ≤ 512) (c : Nat) (hc : n ≤ c) : Lies w (some ⟨g, o, none⟩) n c ((bs.drop o).take n) := Lies.piece h (by omega) hc
theorem WentR.below {B : Nat} {w w' : World} {rb g n cap : Nat} {pl code : Int} {bs : List Int} (h : WentR w w' rb g n cap pl code bs) {w0 : World} (hb : Below B w0 w) (hr : B ≤ rb) (hB : B ≤ w.heap.size) : Below B w0 w' := hb.grown h.2 hB (fun k e => by cases e; exact hr)
theorem rdNum_le {k n : Nat} {bs : List Int} {pl : Nat} {code M : Int} (h : pl ≤ n) : (rdNum k n bs pl code M).2.1 ≤ n := by
  unfold rdNum
  split
  · exact h
  · split
    · exact h
    · split
      · exact h
      · simp only; omega
/-- What is read behind a head's mark. -/
def hdR (bs : List Int) (places : Int) : (Int × Nat × Int) × (Int × Nat × Int) × (Int × Nat × Int) :=
  let q := (bs.drop 8).take 20
  let a := rdNum 8 20 q 0 0 4611686018427387905
  let b := rdNum 4 20 q a.2.1 a.2.2 (places - 1)
  (a, b, rdSum 20 q b.2.1 b.2.2)
/-- Is it a head that is right for so many places? -/
def hdOk (bs : List Int) (places : Int) : Bool := begs bs [65, 78, 88, 72] && (decide ((hdR bs places).2.2.2.2 = 0) && decide (0 < (hdR bs places).1.1)) && ((hdR bs places).2.2.1 == jsum (bs.take 20))
set_option maxHeartbeats 4000000 in
theorem headOf_any (g : Nat) (bs : List Int) (places : Int) (er : Nat → Addr) (w : World) (hg : w.heap[g]? = some (bl bs)) (hl : bs.length = 512) (hby : ∀ x ∈ bs, 0 ≤ x ∧ x ≤ 255) (hE : Errs w er) (hp : 1 ≤ places ∧ places ≤ 4096) :
    Calls Tryz.prog 112 #[hv g, .int .i64 places] w fun e w' => e = .returned (.tuple #[.int .i64 (hdR bs places).1.1, .int .i64 (hdR bs places).2.1.1, .bool (hdOk bs places)]) ∧ Below w.heap.size w w' := by
  have hL := Lies.cut (n := 20) hg hl 8 (by omega) 504 (by omega)
  have hq : ∀ x ∈ (bs.drop 8).take 20, 0 ≤ x ∧ x ≤ 255 := fun x hx => hby x (List.mem_of_mem_drop (List.mem_of_mem_take hx))
  go_enter Tryz.func112, Tryz.ntmps112
  go_wp2_with fail
  refine (newReader_any (some ⟨g, 8, none⟩) 20 504 _ w (by omega) hL).mono ?_
  rintro e w1 ⟨rb, rg, rfl, hR, hrb, hrg, b1⟩
  have E1 := hE.below b1 (Nat.le_refl _)
  go_wp2_with fail
  refine (u64_any rb rg 20 20 0 0 _ _ er w1 hR E1 (by omega) (by omega) hq (by omega)).mono ?_
  rintro e w2 ⟨rfl, W2⟩
  have b2 := W2.below b1 hrb b1.size
  have E2 := hE.below b2 (Nat.le_refl _)
  have le2 : (rdNum 8 20 ((bs.drop 8).take 20) 0 0 4611686018427387905).2.1 ≤ 20 := rdNum_le (by omega)
  obtain ⟨A, hA⟩ : ∃ A, rdNum 8 20 ((bs.drop 8).take 20) 0 0 4611686018427387905 = A := ⟨_, rfl⟩
  rw [hA] at W2 le2
  rw [hA]
  have HA : Hid _ := hA
  clear hA E1 hR
  have R2 := W2.1
  go_wp2_with fail
  refine (u32_any rb rg 20 20 A.2.1 A.2.2 (places - 1) _ er w2 R2 E2 le2 (by omega) hq (by omega)).mono ?_
  rintro e w3 ⟨rfl, W3⟩
  have b3 := W3.below b2 hrb b2.size
  have E3 := hE.below b3 (Nat.le_refl _)
  have le3 : (rdNum 4 20 ((bs.drop 8).take 20) A.2.1 A.2.2 (places - 1)).2.1 ≤ 20 := rdNum_le le2
  obtain ⟨B, hB⟩ : ∃ B, rdNum 4 20 ((bs.drop 8).take 20) A.2.1 A.2.2 (places - 1) = B := ⟨_, rfl⟩
  rw [hB] at W3 le3
  rw [hB]
  have HB : Hid _ := hB
  clear hB E2 R2 W2
  have R3 := W3.1
  go_wp2_with fail
  refine (sum_any rb rg 20 20 B.2.1 B.2.2 _ er w3 R3 E3 le3 (by omega) hq).mono ?_
  rintro e w4 ⟨rfl, W4⟩
  have b4 := W4.below b3 hrb b3.size
  obtain ⟨C, hC⟩ : ∃ C, rdSum 20 ((bs.drop 8).take 20) B.2.1 B.2.2 = C := ⟨_, rfl⟩
  rw [hC] at W4
  rw [hC]
  have HC : Hid _ := hC
  clear hC E3 R3 W3
  have R4 := W4.1
  go_wp2_with fail
  refine (err_any rb rg 20 20 _ _ _ w4 R4).mono ?_
  rintro e w5 ⟨rfl, t5, rfl⟩
  have b5 : Below w.heap.size w (w4.drewN t5) := ⟨b4.os, b4.tape, b4.output, b4.size, b4.block⟩
  have g5 := (b5.block g (heap_lt hg)).trans hg
  have hR0 : hdR bs places = (A, B, C) := by
    unfold hdR
    simp only [HA.out, HB.out, HC.out]
  have HO : Hid (hdOk bs places = (begs bs [65, 78, 88, 72] && (decide (C.2.2 = 0) && decide (0 < A.1)) && (C.1 == jsum (bs.take 20))) ∧ hdR bs places = (A, B, C)) := ⟨by unfold hdOk; rw [hR0], hR0⟩
  clear hR0 HA HB HC R4 W4 hL
  generalize w4.drewN t5 = w5 at *
  have L5 := Lies.full g5 hl
  have m1 := begins_any g 512 512 bs [65, 78, 88, 72] ⟨#[65, 78, 88, 72]⟩ w5 L5 (by omega) (by omega) hby (by decide) (by rfl)
  have L6 : Lies w5 (some ⟨g, 0, none⟩) 20 512 (bs.take 20) := by simpa using Lies.cut (n := 20) g5 hl 0 (by omega) 512 (by omega)
  have y6 : ∀ x ∈ bs.take 20, 0 ≤ x ∧ x ≤ 255 := fun x hx => hby x (List.mem_of_mem_take hx)
  cases h1 : begs bs [65, 78, 88, 72] with
  | false =>
    rw [h1] at m1
    go_wp2_with (go_at_call 114; refine m1.mono ?_; rintro e wn ⟨rfl, hwn⟩; subst wn)
    refine bodyPost_ret (results_tmp3 rfl _ _ _) rfl ?_
    refine ⟨?_, b5⟩
    rw [HO.out.1, HO.out.2, h1]
    simp
  | true =>
    rw [h1] at m1
    by_cases h2 : C.2.2 = 0
    · by_cases h3 : 0 < A.1
      · go_wp2_with (go_at_call 114; refine m1.mono ?_; rintro e wn ⟨rfl, hwn⟩; subst wn)
        refine (S2.sum_any (some ⟨g, 0, none⟩) 20 512 (bs.take 20) _ (by omega) L6 y6).mono ?_
        rintro e w6 ⟨rfl, hw6⟩
        subst w6
        obtain ⟨T, hT⟩ : ∃ T, S2.fwd 14695981039346656037 (bs.take 20) = T := ⟨_, rfl⟩
        have HT : Hid (jsum (bs.take 20) = T) := hT
        simp only [hT]
        clear hT
        go_wp2
        refine bodyPost_ret (results_tmp3 rfl _ _ _) rfl ?_
        refine ⟨?_, b5⟩
        rw [HO.out.1, HO.out.2, h1, HT.out]
        simp [h2, h3]
      · go_wp2_with (go_at_call 114; refine m1.mono ?_; rintro e wn ⟨rfl, hwn⟩; subst wn)
        refine bodyPost_ret (results_tmp3 rfl _ _ _) rfl ?_
        refine ⟨?_, b5⟩
        rw [HO.out.1, HO.out.2, h1, decide_eq_false (by omega : ¬ 0 < A.1)]
        simp
    · go_wp2_with (go_at_call 114; refine m1.mono ?_; rintro e wn ⟨rfl, hwn⟩; subst wn)
      refine bodyPost_ret (results_tmp3 rfl _ _ _) rfl ?_
      refine ⟨?_, b5⟩
      rw [HO.out.1, HO.out.2, h1]
      simp [h2]
end Go.Proofs.YtnmdnglbpkpfdaaGreatDoor

/- A book of lists in memory; annexlaw7.mark by its contract. -/
namespace Go.Proofs.YtnmdnglbpkpfdaaGreatDoor
open Go.RowKit
set_option maxRecDepth 100000
/-- What stands at the place j of the i-th list. -/
def markI (i j : Nat) : Int := ((i * 167 + i / 256 * 91 + j * 29 : Nat) : Int) % 256
def marks (i n : Nat) : List Int := (List.range n).map (markI i)
theorem marks_length (i n : Nat) : (marks i n).length = n := by simp [marks]
theorem marks_snoc (i n : Nat) : marks i (n + 1) = marks i n ++ [markI i n] := by simp [marks, List.range_succ]

set_option maxHeartbeats 400000 in
theorem mark7_any (i j : Nat) (w : World) (hi : i ≤ 1000000000000) (hj : j ≤ 1000000000000) :
    Calls Tryz.prog 75 #[.int .i64 i, .int .i64 j] w fun e w' => e = .returned (.int .u8 (markI i j)) ∧ w' = w := by
  have h1 : (i : Int) ≤ 1000000000000 := by omega
  have h2 : (j : Int) ≤ 1000000000000 := by omega
  have h3 : (0 : Int) ≤ i := by omega
  have h4 : (0 : Int) ≤ j := by omega
  go_enter Tryz.func75, Tryz.ntmps75
  go_wp2
  go_ret
  refine ⟨?_, rfl⟩
  unfold markI
  have e : ((i * 167 + i / 256 * 91 + j * 29 : Nat) : Int) = (i : Int) * 167 + (i : Int) / 256 * 91 + (j : Int) * 29 := by omega
  rw [e]
  rfl

/-- A list of the book: where it lies, how long it is. -/
structure Bl where
  ao : Option Addr
  len : Nat
  cap : Nat
def Bl.val (e : Bl) : Value := .slice e.ao e.len e.cap

/-- A book in memory: its box, its two rows, its lists, each with its marks; 'B' holds of every block that is the book's. -/
structure Bk (w : World) (base bk : Nat) (vE : Value) (B : Nat → Prop) (es : List Bl) : Prop where
  rows : ∃ vL vN, w.heap[bk]? = some (.cells #[vL, vN, vE] 90) ∧ w.ownsRow base 56 1 vL es.length (es.map Bl.val) ∧ w.ownsRow base 3 1 vN es.length (es.map fun e => Value.int .i64 (e.len : Int)) ∧
    (∀ k, vL.ownBlock = some k → B k) ∧ (∀ k, vN.ownBlock = some k → B k)
  hbk : base ≤ bk ∧ B bk
  lies : ∀ i (h : i < es.length), Lies w (es[i]).ao (es[i]).len (es[i]).cap (marks (i / 3) (es[i]).len)
  mine : ∀ e ∈ es, ∀ ad, e.ao = some ad → B ad.block ∧ base ≤ ad.block ∧ ∃ cs, w.heap[ad.block]? = some (.cells cs 5)
/-- What leaves the book's blocks alone leaves the book. -/
theorem Bk.keep {w w' : World} {vE : Value} {base bk : Nat} {B : Nat → Prop} {es : List Bl} (h : Bk w base bk vE B es) (hk : ∀ k, k < w.heap.size → B k → w'.heap[k]? = w.heap[k]?) : Bk w' base bk vE B es := by
  obtain ⟨⟨vL, vN, hb, hL, hN, hBL, hBN⟩, hbk, hl, hm⟩ := h
  have own : ∀ {e n : Nat} {v : Value} {xs : List Value}, w.ownsRow base e 1 v n xs → (∀ k, v.ownBlock = some k → B k) → w'.ownsRow base e 1 v n xs := by
    intro e n v xs ho hB
    obtain ⟨h1, h2⟩ := ho
    refine ⟨h1, ?_⟩
    rcases h2 with h2 | ⟨g, cap, cur, hv, hg, hh, r⟩
    · exact Or.inl h2
    · refine Or.inr ⟨g, cap, cur, hv, hg, (hk g (lt_of_block hh) (hB g ?_)).trans hh, r⟩
      subst hv; rfl
  refine ⟨⟨vL, vN, (hk bk (lt_of_block hb) hbk.2).trans hb, own hL hBL, own hN hBN, hBL, hBN⟩, hbk, fun i hi => ?_, fun e he ad had => ?_⟩
  · have hli := hl i hi
    refine ⟨hli.hlen, hli.hle, hli.hnone, fun ad had t u hu => ?_⟩
    obtain ⟨hB, _, cs, hcs⟩ := hm _ (List.getElem_mem hi) ad had
    have hc := hli.hcells ad had t u hu
    rw [← hc]
    exact World.cell?_of_block (w := w) (by rw [add_block]; exact hk _ (lt_of_block hcs) hB)
  · obtain ⟨hB, hbs, cs, hcs⟩ := hm e he ad had
    exact ⟨hB, hbs, cs, (hk _ (lt_of_block hcs) hB).trans hcs⟩
theorem Bk.below {w w' : World} {vE : Value} {base bk : Nat} {B : Nat → Prop} {es : List Bl} (h : Bk w base bk vE B es) (hb : Below w.heap.size w w') : Bk w' base bk vE B es := h.keep fun k hk _ => hb.block k hk
end Go.Proofs.YtnmdnglbpkpfdaaGreatDoor

/- A map from blocks to their bytes, as a rising list. -/
namespace Go.Proofs.YtnmdnglbpkpfdaaGreatDoor
open Go.RowKit Go.Maps
set_option maxRecDepth 100000
/-- The datum of a map. -/
def mD (m : List (Nat × Nat)) : DataW Value := .map (m.map fun p => (.int .i64 p.1, .held (hv p.2)))
def Rising (m : List (Nat × Nat)) : Prop := m.Pairwise (fun p q => p.1 < q.1)
/-- What the map has at a block. -/
def lk : List (Nat × Nat) → Nat → Option Nat
  | [], _ => none
  | p :: r, b => if p.1 = b then some p.2 else lk r b
theorem lk_cons (p : Nat × Nat) (r : List (Nat × Nat)) (b : Nat) : lk (p :: r) b = if p.1 = b then some p.2 else lk r b := rfl
/-- The map with one more entry. -/
def mput : List (Nat × Nat) → Nat → Nat → List (Nat × Nat)
  | [], b, g => [(b, g)]
  | p :: r, b, g => if b < p.1 then (b, g) :: p :: r else if b = p.1 then (b, g) :: r else p :: mput r b g
theorem mput_mem : ∀ {m : List (Nat × Nat)} {b g : Nat} {p : Nat × Nat}, p ∈ mput m b g → p = (b, g) ∨ p ∈ m
  | [], b, g, p, h => by simp [mput] at h; exact Or.inl h
  | q :: r, b, g, p, h => by
    unfold mput at h
    split at h
    · rcases List.mem_cons.1 h with h | h
      · exact Or.inl h
      · exact Or.inr h
    · split at h
      · rcases List.mem_cons.1 h with h | h
        · exact Or.inl h
        · exact Or.inr (List.mem_cons_of_mem _ h)
      · rcases List.mem_cons.1 h with h | h
        · exact Or.inr (by rw [h]; simp)
        · rcases mput_mem h with h | h
          · exact Or.inl h
          · exact Or.inr (List.mem_cons_of_mem _ h)
theorem mput_rising : ∀ {m : List (Nat × Nat)} (b g : Nat), Rising m → Rising (mput m b g)
  | [], b, g, _ => by simp [mput, Rising]
  | q :: r, b, g, h => by
    obtain ⟨h1, h2⟩ := List.pairwise_cons.1 h
    unfold mput
    split
    · refine List.pairwise_cons.2 ⟨fun p hp => ?_, h⟩
      rcases List.mem_cons.1 hp with rfl | hp
      · assumption
      · have := h1 p hp; omega
    · split
      · rename_i hb
        exact List.pairwise_cons.2 ⟨fun p hp => by have := h1 p hp; simp only; omega, h2⟩
      · refine List.pairwise_cons.2 ⟨fun p hp => ?_, mput_rising b g h2⟩
        rcases mput_mem hp with rfl | hp
        · simp only; omega
        · exact h1 p hp
theorem lk_mput : ∀ (m : List (Nat × Nat)) (b g x : Nat), Rising m → lk (mput m b g) x = if b = x then some g else lk m x
  | [], b, g, x, _ => by simp [mput, lk]
  | q :: r, b, g, x, h => by
    obtain ⟨h1, h2⟩ := List.pairwise_cons.1 h
    unfold mput
    split
    · simp [lk]
    · split
      · rename_i h3 h4
        subst h4
        by_cases e : q.1 = x
        · simp [lk, e]
        · simp [lk, e]
      · rename_i h3 h4
        have ih := lk_mput r b g x h2
        by_cases e : q.1 = x
        · have : ¬ b = x := by omega
          simp [lk, e, this]
        · simp [lk, e, ih]
theorem lk_none {m : List (Nat × Nat)} {b : Nat} (h : ∀ p ∈ m, p.1 ≠ b) : lk m b = none := by
  induction m with
  | nil => rfl
  | cons q r ih => unfold lk; rw [if_neg (h q (by simp))]; exact ih (fun p hp => h p (by simp [hp]))
theorem lk_mem {m : List (Nat × Nat)} (hr : Rising m) {p : Nat × Nat} (h : p ∈ m) : lk m p.1 = some p.2 := by
  induction m with
  | nil => cases h
  | cons q r ih =>
    obtain ⟨h1, h2⟩ := List.pairwise_cons.1 hr
    unfold lk
    rcases List.mem_cons.1 h with rfl | h
    · rw [if_pos rfl]
    · rw [if_neg (by have := h1 p h; omega)]; exact ih h2 h
theorem mem_lk {m : List (Nat × Nat)} {b g : Nat} (h : lk m b = some g) : (b, g) ∈ m := by
  induction m with
  | nil => cases h
  | cons q r ih =>
    unfold lk at h
    split at h
    · rename_i e; cases h; subst e; simp
    · exact List.mem_cons_of_mem _ (ih h)
theorem mD_canon {m : List (Nat × Nat)} (h : Rising m) : Canon (mD m) := by
  refine ⟨_, rfl, ?_, ?_⟩
  · rw [List.pairwise_map]
    exact h.imp (fun {p q} hpq => by simp [Lit.before]; omega)
  · intro p hp
    obtain ⟨q, _, rfl⟩ := List.mem_map.1 hp
    exact trivial
theorem mD_has (m : List (Nat × Nat)) (k : Lit) : has (mD m) k = m.any (fun p => (Lit.int .i64 p.1).sameKey k) := by
  simp [mD, has_eq, List.any_map, Function.comp_def]
theorem mD_has_int (m : List (Nat × Nat)) (b : Nat) : has (mD m) (.int .i64 b) = (lk m b).isSome := by
  rw [mD_has]
  induction m with
  | nil => rfl
  | cons q r ih =>
    rw [List.any_cons, ih, lk_cons]
    by_cases e : q.1 = b
    · rw [if_pos e]; simp [Lit.sameKey, e]
    · rw [if_neg e]
      have : ¬ (q.1 : Int) = b := by omega
      simp [Lit.sameKey, this]
theorem mD_at (m : List (Nat × Nat)) (b : Nat) (z : DataW Value) : (mD m).atKey (.int .i64 b) z = ((lk m b).map (fun g => DataW.held (hv g))).getD z := by
  induction m with
  | nil => rfl
  | cons q r ih =>
    rw [lk_cons]
    by_cases e : q.1 = b
    · rw [if_pos e]
      simp [mD, DataW.atKey, Lit.sameKey, e]
    · rw [if_neg e, ← ih]
      have : ¬ (q.1 : Int) = b := by omega
      simp [mD, DataW.atKey, Lit.sameKey, this]
theorem key_int (b : Nat) : WideAt.IsKeyLit (Lit.int .i64 (b : Int)) := trivial
theorem mD_put {m : List (Nat × Nat)} (hr : Rising m) (b g : Nat) (hc : Canon ((mD m).put (.int .i64 b) (.held (hv g)))) : (mD m).put (.int .i64 b) (.held (hv g)) = mD (mput m b g) := by
  have hM : IsMap (mD m) := ⟨_, rfl⟩
  have hr2 := mput_rising b g hr
  have other : ∀ k : Lit, k ≠ .int .i64 b → has (mD (mput m b g)) k = has (mD m) k := fun k hk => by
    rw [Bool.eq_iff_iff, mD_has, mD_has, List.any_eq_true, List.any_eq_true]
    constructor
    · rintro ⟨p, hp, hs⟩
      rcases mput_mem hp with rfl | hp
      · exact absurd hs (by rw [sameKey_ne (fun e => hk e.symm)]; decide)
      · exact ⟨p, hp, hs⟩
    · rintro ⟨p, hp, hs⟩
      have : lk (mput m b g) p.1 = some p.2 := by
        rw [lk_mput m b g p.1 hr, lk_mem hr hp]
        rw [if_neg (fun e => ?_)]
        subst e
        exact absurd hs (by rw [sameKey_ne (fun e => hk e.symm)]; decide)
      exact ⟨_, mem_lk this, hs⟩
  refine Maps.ext hc (mD_canon hr2) (fun k => ?_) (fun k z hk => ?_)
  · by_cases e : k = .int .i64 b
    · subst e
      rw [has_put_same hM (key_int b), mD_has_int, lk_mput m b g b hr, if_pos rfl]; rfl
    · rw [has_put_other e, other k e]
  · by_cases e : k = .int .i64 b
    · subst e
      rw [atKey_put_same hM (key_int b), mD_at, lk_mput m b g b hr, if_pos rfl]; rfl
    · rw [atKey_put_other e]
      rw [has_put_other e, mD_has, List.any_eq_true] at hk
      obtain ⟨p, hp, hs⟩ := hk
      have hkk : k = .int .i64 p.1 := by
        rcases k with _ | ⟨q, x⟩ | _ <;> simp [Lit.sameKey] at hs
        obtain ⟨rfl, rfl⟩ := hs; rfl
      subst hkk
      have hpb : ¬ b = p.1 := fun h => e (by rw [h])
      rw [mD_at, mD_at, lk_mput m b g p.1 hr, if_neg hpb]
/-- A map in memory. -/
structure Mp (w : World) (bm n : Nat) (m : List (Nat × Nat)) : Prop where
  own : w.ownsMap Tryz.prog 3 RV bm n (mD m)
  ris : Rising m
theorem Mp.turns {F : Nat → Prop} {w w' : World} {bm n : Nat} {m : List (Nat × Nat)} (h : Mp w bm n m) (t : Turns F w w') (hF : ¬ F bm) : Mp w' bm n m := ⟨map_turns h.own t hF, h.ris⟩
theorem Mp.len {w : World} {bm n : Nat} {m : List (Nat × Nat)} (h : Mp w bm n m) : m.length ≤ n := by
  have := h.own.size_le
  simpa [mD, Maps.size_eq] using this
theorem Mp.lt {w : World} {bm n : Nat} {m : List (Nat × Nat)} (h : Mp w bm n m) : bm < w.heap.size := h.own.lt
end Go.Proofs.YtnmdnglbpkpfdaaGreatDoor

/- The blocks of a map, rising: rising by its contract. (The library's sort by its own.) -/
namespace Go.Proofs.YtnmdnglbpkpfdaaGreatDoor
open Go.RowKit Go.Maps Go.Sort
set_option maxRecDepth 100000
/-- What has been gathered of a map's keys. -/
structure Coll (D0 : DataW Value) (left : Lit → Bool) (ss : List Int) : Prop where
  nd : ss.Nodup
  iff : ∀ x : Int, x ∈ ss ↔ (has D0 (.int .i64 x) && !left (.int .i64 x)) = true
theorem Coll.start (D0 : DataW Value) : Coll D0 (has D0) [] := ⟨List.nodup_nil, fun x => by cases has D0 (.int .i64 x) <;> simp⟩
theorem Coll.step {D0 : DataW Value} {left : Lit → Bool} {ss : List Int} (h : Coll D0 left ss) {x : Int} (hl : left (.int .i64 x) = true) (hh : has D0 (.int .i64 x) = true) : Coll D0 (fun z => left z && !z.sameKey (.int .i64 x)) (ss ++ [x]) := by
  have hx : x ∉ ss := fun q => by have := (h.iff x).1 q; rw [hl] at this; simp at this
  refine ⟨?_, fun y => ?_⟩
  · rw [List.nodup_append]
    exact ⟨h.nd, by simp, fun a ha b hb e => by simp at hb; subst hb; subst e; exact hx ha⟩
  · rw [List.mem_append, List.mem_singleton, h.iff]
    by_cases e : y = x
    · subst e
      simp [hh, Lit.sameKey]
    · have : (Lit.int .i64 y).sameKey (.int .i64 x) = false := by simp [Lit.sameKey, e]
      simp [this, e]
theorem Coll.done {m : List (Nat × Nat)} {left : Lit → Bool} {ss : List Int} (hr : Rising m) (h : Coll (mD m) left ss) (hl : ∀ k, left k = false) : ss.mergeSort (fun x y => decide (x ≤ y)) = m.map (fun p => (p.1 : Int)) := by
  have hp : ss.Perm (m.map (fun p => (p.1 : Int))) := by
    refine (List.perm_ext_iff_of_nodup h.nd ?_).2 (fun x => ?_)
    · rw [List.nodup_iff_pairwise_ne, List.pairwise_map]
      exact hr.imp (fun {p q} hpq e => by omega)
    · rw [h.iff, hl, mD_has]
      simp only [Bool.not_false, Bool.and_true, List.any_eq_true, List.mem_map]
      constructor
      · rintro ⟨p, hp, hs⟩
        refine ⟨p, hp, ?_⟩
        simpa [Lit.sameKey] using hs
      · rintro ⟨p, hp, rfl⟩
        exact ⟨p, hp, by simp [Lit.sameKey]⟩
  have hs1 : (ss.mergeSort (fun x y => decide (x ≤ y))).Pairwise (fun a b => decide (a ≤ b) = true) := List.pairwise_mergeSort (fun a b c h1 h2 => by simp at *; omega) (fun a b => by simp; omega) ss
  have hs2 : (m.map (fun p => (p.1 : Int))).Pairwise (fun a b => decide (a ≤ b) = true) := by
    rw [List.pairwise_map]
    exact hr.imp (fun {p q} hpq => by simp; omega)
  exact ((List.mergeSort_perm ss _).trans hp).eq_of_pairwise (fun a b _ _ h1 h2 => by simp at h1 h2; omega) hs1 hs2

theorem Tryz.info3 : (Tryz.prog.info? 3).map (fun i => (i.zero, i.size, i.bytes)) = some (some (.int .i64 0), 1, 8) := by kernel_rfl
theorem iter_ne {w : World} {bm r n : Nat} {m : List (Nat × Nat)} {left : Lit → Bool} {cnt : Nat} (h : w.ranges Tryz.prog 3 RV bm r n (mD m) left cnt) {base e k : Nat} {v : Value} {xs : List Value} (ho : w.ownsRow base e 1 v k xs) : v.ownBlock ≠ some r := fun q => by
  rcases ho.2 with ⟨r1, _⟩ | ⟨g, cap, cur, r1, _, hh, _⟩
  · rw [r1] at q; cases q
  · rw [r1] at q; cases q
    obtain ⟨es, clock, since, seen, c0, _, _, _, _, hit, _⟩ := h
    rw [hh] at hit
    cases hit
set_option maxHeartbeats 400000 in
theorem sort_h {w wr : World} {g cap base : Nat} {cur : Array Value} {ss ts : List Int} {L : Nat} (hB : Below base w wr) (hbase : base ≤ g) (hb : wr.heap[g]? = some (.cells cur 3 (0, 0))) (h1 : ss.length ≤ cap) (h2 : cap ≤ maxLen) (h3 : cur.size = cap * 1) (h4 : cur.toList.take (ss.length * 1) = ss.map (Value.int .i64)) (hss : ss.mergeSort (fun x y => decide (x ≤ y)) = ts) (hlen : ss.length = L) (hl : ss.length ≤ 100000) (hsz : base ≤ wr.heap.size) :
    Calls Tryz.prog 95 #[.slice (some ⟨g, 0, none⟩) ss.length cap] wr fun e w' => e = .returned (.tuple #[]) ∧ w'.ownsRow base 3 1 (.slice (some ⟨g, 0, none⟩) L cap) L (ts.map (Value.int .i64)) ∧ Below base w w' := by
  have hH : Holds (Value.int .i64) wr g 0 ss.toArray := holds_of_blockI hb (by simpa using h4)
  refine (Tryz.slices_Sort_int g 0 cap ss wr hH (heap_lt hb) (by omega)).mono ?_
  rintro e w' ⟨rfl, nn, os, rfl⟩
  subst hlen
  subst hss
  refine ⟨rfl, ?_, ?_⟩
  · exact ownsRow_sortedI (by simp) hbase hb h1 h2 h3
  · exact hB.grown (grownBy_sortedI _) hsz (fun j hj => by cases hj; exact hbase)
set_option maxHeartbeats 1000000 in
theorem rising_any {w : World} {bm n : Nat} {m : List (Nat × Nat)} (h : Mp w bm n m) (hn : m.length ≤ 100000) :
    Calls Tryz.prog 54 #[.map (some bm)] w fun e w' => ∃ g c, e = .returned (.slice (some ⟨g, 0, none⟩) m.length c) ∧ w'.ownsRow w.heap.size 3 1 (.slice (some ⟨g, 0, none⟩) m.length c) m.length (m.map fun p => .int .i64 p.1) ∧ Below w.heap.size w w' := by
  obtain ⟨i0, hi, hz0, hz1, hz2⟩ := info_parts Tryz.info3
  have hown := h.own
  have hsz : Maps.size (mD m) = m.length := by simp [mD, Maps.size_eq]
  have hbl := hown.lt
  have hln : (Maps.size (mD m) : Int) = (m.length : Int) := by rw [hsz]
  go_enter Tryz.func54, Tryz.ntmps54
  go_wp2_with (first
    | (at_len; refine wpList_len_own _ rfl _ 99 rfl 3 56 Tryz.underlying99 _ bm n _ rfl hown ?_)
    | (at_make; refine wpList_make_own _ rfl _ _ 40 rfl w.heap.size 3 i0 (.int .i64 0) 1 Tryz.underlying40 hi hz0 hz1 _ _ _ m.length rfl rfl hln (by rw [hz2]; omega) (by unfold maxLen; omega) (Nat.le_refl _) ?_; intro w1 hrow1 hg1)
    | (at_range; refine wpList_range_own _ rfl _ 99 rfl 3 56 law3 Tryz.underlying99 _ bm n _ rfl (hown.kept hg1 (by simp)) ?_; intro w0 hrg0 hg0 hs0))
  have hb1 : Below w.heap.size w w1 := (Below.refl _ _).grown hg1 (Nat.le_refl _) (fun j hj => by cases hj)
  have hb0 : Below w.heap.size w w0 := hb1.grown hg0 hg1.size (fun j hj => by cases hj)
  go_frame
  go_loopw [3] (fun v wr => ∃ (left : Lit → Bool) (cnt : Nat) (ss : List Int), wr.ranges Tryz.prog 3 RV bm w1.heap.size n (mD m) left cnt ∧ ss.length + cnt ≤ m.length ∧ wr.ownsRow w.heap.size 3 1 v ss.length (ss.map (Value.int .i64)) ∧ v ≠ .slice none 0 0 ∧ Coll (mD m) left ss ∧ Below w.heap.size w wr) (fun _ wr => wr.rangeLeft bm w1.heap.size)
  case atStart =>
    exact ⟨_, _, [], hrg0, by rw [hsz]; simp, hrow1.kept hg0 (Or.inr (by simp [Value.ownBlock])), by simp, Coll.start _, hb0⟩
  case round =>
    obtain ⟨left, cnt, ss, hrg, hcs, hrow, hnn, hC, hB⟩ := hrel
    go_wp2_with (at_next; refine wpList_next_ranges _ rfl _ rfl 3 law3 RV (Value.int .i64) id (fun key kl hk => by obtain ⟨x, hx, _⟩ := Maps.keyOf_int_inv Tryz.underlying3 hk; exact ⟨x, hx⟩) (fun v _ _ => ⟨v, rfl⟩) bm w1.heap.size n _ _ _ rfl hrg ?_ ?_)
    · intro hc0 hl0
      rcases hrow.2 with ⟨hnil, _⟩ | ⟨g, cap, cur, rfl, hbase, hb, h1, h2, h3, h4⟩
      · exact absurd hnil hnn
      have hss := hC.done h.ris hl0
      have hlen : ss.length = m.length := by
        have := congrArg List.length hss
        simpa using this
      have hc := sort_h hB hbase hb h1 h2 h3 h4 hss hlen (by omega) hB.size
      rw [hlen] at hc
      have HC : Hid (Calls Tryz.prog 95 #[.slice (some ⟨g, 0, none⟩) m.length cap] wr fun e w' => e = .returned (.tuple #[]) ∧ w'.ownsRow w.heap.size 3 1 (.slice (some ⟨g, 0, none⟩) m.length cap) m.length ((m.map (fun p => (p.1 : Int))).map (Value.int .i64)) ∧ Below w.heap.size w w') := hc
      clear hc hss hb h1 h2 h3 h4 hC hrg hrow hown hl0 h hrg0 hrow1 hg0 hs0
      go_wp2_with fail
      refine Calls.mono (R := fun e w' => e = .returned (.tuple #[]) ∧ w'.ownsRow w.heap.size 3 1 (.slice (some ⟨g, 0, none⟩) m.length cap) m.length ((m.map (fun p => (p.1 : Int))).map (Value.int .i64)) ∧ Below w.heap.size w w') HC.out ?_
      rintro e w' ⟨rfl, hS, hG⟩
      clear HC
      go_wp2
      go_ret
      exact ⟨g, cap, by first | rfl | rw [hlen], by simpa [List.map_map, Function.comp_def] using hS, hG⟩
    · intro x c kl yd yp w2 cnt2 hkey hlk hv hyp hat hrg2 hlt hg2 hs2 hen
      obtain ⟨x', ex, rfl, _⟩ := Maps.keyOf_int_inv Tryz.underlying3 hkey
      obtain rfl : x = x' := by cases ex; rfl
      have hrow2 := hrow.kept hg2 (Or.inr (iter_ne hrg hrow))
      have hhas : has (mD m) (.int .i64 x) = true := has_true_of_atKey hat
      have hsB := hB.size
      have hsg := hg2.size
      clear hs2 hv hyp hat
      obtain ⟨av, cv, rfl⟩ := row_slice hrow2
      go_wp2_with (at_builtin; refine wpList_append_own_at _ rfl _ _ 40 rfl w.heap.size 3 i0 (.int .i64 0) 1 8 Tryz.underlying40 hi hz0 hz1 hz2 rfl (by decide) _ _ _ rfl (hrow2.alloc _) ⟨w2.heap.size, 0, none⟩ 1 1 [.int .i64 x] rfl rfl (cell_one_new _ _ _) (by intro u hu; simp at hu; subst hu; rfl) (by unfold maxLen; omega) (by omega) (by simp; omega) ?_; intro v3 w3 hv3 hg3 hnil3 hat3; go_frame)
      have hrg3 := (hrg2.alloc (.cells #[.int .i64 x] 3)).kept hg3 (fun q => by have := (hrow2.lt bm q.symm).1; omega) (fun q => iter_ne hrg2 hrow2 q.symm)
      have hB3 : Below w.heap.size w w3 := ((hB.grown hg2 hsB (fun j hj => by cases hj; exact hg1.size)).alloc (by omega) _).grown hg3 (by simp; omega) (fun j hj => (hrow2.lt j hj).1)
      go_roundw
      case rel => exact ⟨_, cnt2, ss ++ [x], hrg3, by simp; omega, by simpa using hv3, (fun q => by have := (hnil3.1 q).2; omega), hC.step hlk hhas, hB3⟩
      case measure => rw [hrg3.left_eq, hrg.left_eq]; exact hlt
end Go.Proofs.YtnmdnglbpkpfdaaGreatDoor

/- annexref.Bytes and annexref.Join by their contracts (as of layer 1). -/
namespace Go.Proofs.YtnmdnglbpkpfdaaGreatDoor
open Go.RowKit
set_option maxRecDepth 100000
/-- A new list of bytes: nil, or a row of its own; nothing old has turned. -/
def Fresh (w : World) (e : Ending) (w' : World) (n : Nat) (bs : List Int) : Prop :=
  ∃ ao c, e = .returned (.slice ao n c) ∧ w'.ownsRow w.heap.size 5 1 (.slice ao n c) n (bs.map (Value.int .u8)) ∧ Below w.heap.size w w'
theorem Lies.owned {w : World} {base n cap : Nat} {ao : Option Addr} {bs : List Int} (h : w.ownsRow base 5 1 (.slice ao n cap) n (bs.map (Value.int .u8))) : Lies w ao n cap bs := by
  rcases h.2 with ⟨hv, hn⟩ | ⟨g', cap', cur, hv, _⟩
  · cases hv
    have hl : bs.length = 0 := by simpa using h.1
    obtain rfl := List.eq_nil_of_length_eq_zero hl
    exact Lies.nil w
  · cases hv
    exact Lies.own h
theorem own_len {w : World} {base n : Nat} {v : Value} {bs : List Int} (h : w.ownsRow base 5 1 v n (bs.map (Value.int .u8))) : ∃ ao c, v = .slice ao n c := by
  rcases h.2 with ⟨hv, rfl⟩ | ⟨g', cap', cur, hv, _⟩
  · exact ⟨none, 0, hv⟩
  · exact ⟨_, _, hv⟩

set_option maxHeartbeats 400000 in
theorem bytes29_pos (b o cap n : Nat) (bs : List Int) (w : World) (hn : n ≤ 140737488355328) (hl : bs.length = n)
    (hc : ∀ t, t < n → w.cell? ⟨b, o + t, none⟩ = some (.int .u8 (bs.getD t 0))) :
    Calls Tryz.prog 63 #[.slice (some ⟨b, o, none⟩) n cap] w fun e w' => ∃ v, e = .returned v ∧ w'.ownsRow w.heap.size 5 1 v n (bs.map (Value.int .u8)) ∧ Below w.heap.size w w' := by
  obtain ⟨i0, hi, hz0, hz1, hz2⟩ := info_parts Tryz.info5
  have hni : (n : Int) ≤ 140737488355328 := by omega
  go_enter Tryz.func63, Tryz.ntmps63
  go_wp2
  go_loopw [3, 4] (fun v i wr => ∃ k : Nat, k ≤ n ∧ i = .int .i64 k ∧ wr.ownsRow w.heap.size 5 1 v k ((bs.take k).map (Value.int .u8)) ∧ Below w.heap.size w wr) (fun _ i _ => n - (intOf i).toNat)
  case atStart => exact ⟨0, Nat.zero_le _, rfl, World.ownsRow_nil _ _ _ _, Below.refl _ _⟩
  case round =>
    obtain ⟨k, hk, rfl, hown, hb⟩ := hrel
    by_cases hlt : k < n
    · have hck := cell_later hb (hc k hlt)
      have hst : bs.take (k + 1) = bs.take k ++ [bs.getD k 0] := by
        rw [List.take_succ_eq_append_getElem (by omega)]
        simp [List.getD, show k < bs.length by omega]
      have HS : Hid (bs.take (k + 1) = bs.take k ++ [bs.getD k 0]) := hst
      clear hst hc
      generalize bs.getD k 0 = C at *
      go_wp2_with (at_builtin; refine wpList_append_own _ rfl (.tmp 11) (.tmp 16) 56 rfl w.heap.size 5 i0 (.int .u8 0) 1 1 Tryz.underlying56 hi hz0 hz1 hz2 rfl (by decide) _ _ _ rfl (hown.alloc _) ⟨wr.heap.size, 0, none⟩ 1 1 [.int .u8 C] rfl rfl (cell_one_new _ _ _) (by intro u hu; simp at hu; subst hu; rfl) (by unfold maxLen; omega) (by omega) (by have := hb.size; simp; omega) ?_; intro v' w1 hown1 hgrow1 hnil1)
      go_roundw
      case rel =>
        refine ⟨k + 1, by omega, by go_num, ?_, ?_⟩
        · rw [HS.out]; simpa using hown1
        · exact (hb.alloc hb.size _).grown hgrow1 (by simp; have := hb.size; omega) (fun k hk => (hown.lt k hk).1)
      case measure => simp [intOf]; omega
    · clear hc
      go_wp2
      go_ret
      obtain rfl : k = n := by omega
      refine ⟨_, rfl, ?_, hb⟩
      rw [List.take_of_length_le (by omega)] at hown
      exact hown

set_option maxHeartbeats 400000 in
theorem bytes29_zero (ao : Option Addr) (cap : Nat) (w : World) :
    Calls Tryz.prog 63 #[.slice ao 0 cap] w fun e w' => e = .returned (.slice none 0 0) ∧ w' = w := by
  go_enter Tryz.func63, Tryz.ntmps63
  go_wp2
  refine wp_loop_rounds 1 ?_
  rw [rounds_succ]
  go_wp2
  go_ret
  exact ⟨rfl, rfl⟩

theorem bytes29_any (ao : Option Addr) (n cap : Nat) (bs : List Int) (w : World) (hn : n ≤ 140737488355328) (hL : Lies w ao n cap bs) :
    Calls Tryz.prog 63 #[.slice ao n cap] w fun e w' => Fresh w e w' n bs := by
  by_cases h0 : 0 < n
  · obtain ⟨b, o, rfl, hc⟩ := hL.at h0
    refine (bytes29_pos b o cap n bs w hn hL.hlen hc).mono ?_
    rintro e w' ⟨v, rfl, hown, hb⟩
    obtain ⟨ao, c, rfl⟩ := own_len hown
    exact ⟨ao, c, rfl, hown, hb⟩
  · obtain rfl : n = 0 := by omega
    obtain rfl := List.eq_nil_of_length_eq_zero hL.hlen
    refine (bytes29_zero ao cap w).mono ?_
    rintro e w' ⟨rfl, rfl⟩
    exact ⟨none, 0, rfl, World.ownsRow_nil _ _ _ _, Below.refl _ _⟩
end Go.Proofs.YtnmdnglbpkpfdaaGreatDoor
