/- sum.More, sum.Back, sum.Sum by their contracts. -/
import Derived.Test.YtfmcbjlagdanjaaGreatDoorPk07
import Derived.Test.YtfmcbjlagdanjaaGreatDoorPk06
import Derived.Lib.SmallJoins
import Derived.Lib.SliceRun
import Derived.BigQuiet
import Derived.Deep.QuietTactic
import Derived.Maps.Ext
import Derived.Maps.RangeWalk
namespace Go.Proofs.YtfmcbjlagdanjaaGreatDoor.S2
open Go.RowKit
set_option maxRecDepth 100000

theorem by_getD {l : List Int} (hl : ∀ x ∈ l, By x) {k : Nat} (hk : k < l.length) : By (l.getD k 0) := by
  have : l.getD k 0 = l[k] := by simp [List.getD, hk]
  rw [this]; exact hl _ (List.getElem_mem hk)
theorem take_succ_getD (l : List Int) {k : Nat} (hk : k < l.length) : l.take (k + 1) = l.take k ++ [l.getD k 0] := by
  rw [List.take_succ_eq_append_getElem hk]
  simp [List.getD, hk]
theorem drop_getD (l : List Int) {k : Nat} (hk : k < l.length) : l.drop k = l.getD k 0 :: l.drop (k + 1) := by
  rw [List.drop_eq_getElem_cons hk]
  simp [List.getD, hk]

set_option maxHeartbeats 400000 in
theorem more_pos (h : Int) (b o c n : Nat) (bs : List Int) (w : World) (hn : n ≤ 9223372036854775807) (hl : bs.length = n) (hby : ∀ x ∈ bs, By x)
    (hc : ∀ t, t < n → w.cell? ⟨b, o + t, none⟩ = some (.int .u8 (bs.getD t 0))) :
    Calls Tryz.prog 198 #[.int .u64 h, .slice (some ⟨b, o, none⟩) n c] w fun e w' => e = .returned (.int .u64 (fwd h bs)) ∧ w' = w := by
  have hni : (n : Int) ≤ 9223372036854775807 := by omega
  go_enter Tryz.func198, Tryz.ntmps198
  go_wp2
  go_loopw [0, 9] (fun g i wr => ∃ k : Nat, k ≤ n ∧ i = .int .i64 k ∧ g = .int .u64 (fwd h (bs.take k)) ∧ wr = w) (fun _ i _ => n - (intOf i).toNat)
  case atStart => exact ⟨0, Nat.zero_le _, rfl, by simp [fwd], rfl⟩
  case round =>
    obtain ⟨k, hk, rfl, rfl, hwr⟩ := hrel
    subst wr
    by_cases hlt : k < n
    · have hck := hc k hlt
      have hx := by_getD hby (show k < bs.length by omega)
      have hs : fwd h (bs.take (k + 1)) = stp (fwd h (bs.take k)) (bs.getD k 0) := by
        rw [take_succ_getD bs (by omega), fwd_append]; rfl
      have HS : Hid _ := hs
      clear hs
      clear hc hby
      generalize fwd h (bs.take k) = g at *
      generalize bs.getD k 0 = x at *
      go_wp2_with (go_at_call 230; refine (step_any _ _ _ hx).mono ?_; rintro e w1 ⟨rfl, hw1⟩; subst w1)
      go_roundw
      case rel => exact ⟨k + 1, by omega, by go_num, by rw [HS.out], by trivial⟩
      case measure => simp [intOf]; omega
    · clear hc hby
      go_wp2
      go_ret
      rw [List.take_of_length_le (by omega)]
      exact ⟨rfl, rfl⟩

set_option maxHeartbeats 400000 in
theorem more_zero (h : Int) (ao : Option Addr) (c : Nat) (w : World) :
    Calls Tryz.prog 198 #[.int .u64 h, .slice ao 0 c] w fun e w' => e = .returned (.int .u64 h) ∧ w' = w := by
  go_enter Tryz.func198, Tryz.ntmps198
  go_wp2
  refine wp_loop_rounds 1 ?_
  rw [rounds_succ]
  go_wp2
  go_ret
  exact ⟨rfl, rfl⟩

/-- More, of any number and any list. -/
theorem more_any (h : Int) (ao : Option Addr) (n c : Nat) (bs : List Int) (w : World) (hn : n ≤ 9223372036854775807) (hL : Lies w ao n c bs) (hby : ∀ x ∈ bs, By x) :
    Calls Tryz.prog 198 #[.int .u64 h, .slice ao n c] w fun e w' => e = .returned (.int .u64 (fwd h bs)) ∧ w' = w := by
  by_cases h0 : 0 < n
  · obtain ⟨b, o, rfl, hc⟩ := hL.at h0
    exact more_pos h b o c n bs w hn hL.hlen hby hc
  · obtain rfl : n = 0 := by omega
    obtain rfl := List.eq_nil_of_length_eq_zero hL.hlen
    exact more_zero h ao c w

set_option maxHeartbeats 400000 in
theorem sum_any (ao : Option Addr) (n c : Nat) (bs : List Int) (w : World) (hn : n ≤ 9223372036854775807) (hL : Lies w ao n c bs) (hby : ∀ x ∈ bs, By x) :
    Calls Tryz.prog 149 #[.slice ao n c] w fun e w' => e = .returned (.int .u64 (fwd 14695981039346656037 bs)) ∧ w' = w := by
  go_enter Tryz.func149, Tryz.ntmps149
  go_wp2_with (go_at_call 198; refine (more_any _ ao n c bs _ hn hL hby).mono ?_; rintro e w1 ⟨rfl, hw1⟩; subst w1)
  go_ret
  exact ⟨rfl, rfl⟩
end Go.Proofs.YtfmcbjlagdanjaaGreatDoor.S2

/- The journal's own blocks, by their contracts: filled, commitBlock, headBlock. -/
namespace Go.Proofs.YtfmcbjlagdanjaaGreatDoor
open Go.RowKit
set_option maxRecDepth 100000

theorem lies_mark (w : World) (l : List Int) (n : Nat) (hl : l.length = n) (C : Array Value) (hC : C = (l.map (Value.int .u8)).toArray) (fr : Nat × Nat) (g : Nat) (hg : g = w.heap.size) : Lies (w.alloc (.cells C 5 fr)) (some ⟨g, 0, none⟩) n n l := by
  subst hC
  refine ⟨hl, Nat.le_refl _, (fun h => by cases h), fun ad had t u hu => ?_⟩
  obtain rfl := Option.some.inj had
  rw [Addr.add_lit, Nat.zero_add, Go.Joins.cell_alloc_mark_at _ _ _ _ _ _ hg]
  simpa using hu
theorem be_by (X : Int) (k : Nat) : ∀ x ∈ be X k, 0 ≤ x ∧ x ≤ 255 := by
  induction k with
  | zero => intro x hx; simp [be] at hx
  | succ k ih =>
    intro x hx
    simp only [be, List.mem_cons] at hx
    rcases hx with rfl | hx
    · omega
    · exact ih x hx
/-- So many bytes, and zeros behind them. -/
def fillB (bs : List Int) : List Int := bs ++ List.replicate (512 - bs.length) 0
theorem fillB_len {bs : List Int} (h : bs.length ≤ 512) : (fillB bs).length = 512 := by simp [fillB]; omega
theorem fillB_by {bs : List Int} (h : ∀ x ∈ bs, 0 ≤ x ∧ x ≤ 255) : ∀ x ∈ fillB bs, 0 ≤ x ∧ x ≤ 255 := fun x hx => by
  rcases List.mem_append.1 hx with hx | hx
  · exact h x hx
  · have := List.eq_of_mem_replicate hx; omega
theorem splice_zeros (bs : List Int) : splice (List.replicate 512 (Value.int .u8 0)) 0 (bs.map (Value.int .u8)) = (fillB bs).map (Value.int .u8) := by
  unfold splice fillB
  rw [List.take_zero, List.nil_append, List.length_map, Nat.zero_add, List.drop_replicate, List.map_append, List.map_replicate]
/-- A new block of these bytes. -/
def Blk (w w' : World) (e : Ending) (bs : List Int) : Prop := ∃ g, e = .returned (hv g) ∧ w.heap.size ≤ g ∧ w'.heap[g]? = some (bl bs) ∧ Below w.heap.size w w'
set_option maxHeartbeats 1000000 in
theorem filled_any (ao : Option Addr) (n c : Nat) (bs : List Int) (w : World) (hn : n ≤ 512) (hL : Lies w ao n c bs) : Calls Tryz.prog 147 #[.slice ao n c] w fun e w' => Blk w w' e (fillB bs) := by
  obtain ⟨i0, hi, hz0, hz1, hz2⟩ := info_parts Tryz.info5
  have hsz : (Tryz.prog.info? 5).map (·.size) = some 1 := by rw [hi]; simp [hz1]
  have hlen := hL.hlen
  have hL1 : Lies (w.alloc (.cells (madeCells #[.int .u8 0] 512) 5)) ao n c bs := hL.below ((Below.refl _ w).alloc (Nat.le_refl _) _) (Nat.le_refl _)
  have hpos : 0 < (bs.map (Value.int .u8)).length → (some ⟨w.heap.size, 0, none⟩ : Option Addr) = some ⟨w.heap.size, 0, none⟩ ∧ ∃ ad, ao = some ad ∧ ∀ j v, (bs.map (Value.int .u8))[j]? = some v → (w.alloc (.cells (madeCells #[.int .u8 0] 512) 5)).cell? (ad.add j) = some v := fun hp => by
    cases hao : ao with
    | none => have := (hL.hnone hao).1; simp at hp; omega
    | some ad => exact ⟨rfl, ad, rfl, hL1.hcells ad hao⟩
  have hrow := made_row w 512
  have hbel : Below w.heap.size w (w.alloc (.cells (madeCells #[.int .u8 0] 512) 5)) := (Below.refl _ w).alloc (Nat.le_refl _) _
  go_enter Tryz.func147, Tryz.ntmps147
  go_wp2_with (first
    | (at_make; (refine wpList_make_row _ rfl _ _ 66 rfl 5 i0 (.int .u8 0) Tryz.underlying66 hi hz0 hz1 rfl _ _ 512 rfl rfl (by rw [hz2]; omega) (by omega) ?_))
    | (refine wpList_copy_splice rfl _ _ 66 66 rfl 5 Tryz.underlying66 hsz _ _ _ _ _ _ rfl rfl w.heap.size 0 (List.replicate 512 (Value.int .u8 0)) 5 hrow (bs.map (Value.int .u8)) (by rw [List.length_map, hlen]; exact (Nat.min_eq_left hn).symm) hpos (by rw [List.length_map, hlen, List.length_replicate]; omega) (ints_oneCell _ _) w.heap.size w hbel (Nat.le_refl _) ?_; intro w2 HG2 hB2))
  go_ret
  refine ⟨_, rfl, Nat.le_refl _, ?_, hB2⟩
  rw [HG2.out, splice_zeros]
/-- A commit. -/
def comB (seq : Int) : List Int := fillB ([65, 78, 88, 67] ++ be 0 4 ++ be (IntKind.u64.wrap seq) 8)
set_option maxHeartbeats 1000000 in
theorem commitBlock_any (seq : Int) (w : World) : Calls Tryz.prog 113 #[.int .i64 seq] w fun e w' => Blk w w' e (comB seq) := by
  have hcc := Go.Joins.run_convert_bytes_const_at (P := Tryz.prog) w 66 5 #[.int .u8 65, .int .u8 78, .int .u8 88, .int .u8 67] 4 4 w.heap.size (by simp) Tryz.underlying66 Tryz.underlying5
  have hb0 : Below w.heap.size w (w.alloc (.cells #[.int .u8 65, .int .u8 78, .int .u8 88, .int .u8 67] 5 (4, 5))) := (Below.refl _ w).alloc (Nat.le_refl _) _
  have hL0 : Lies (w.alloc (.cells #[.int .u8 65, .int .u8 78, .int .u8 88, .int .u8 67] 5 (4, 5))) (some ⟨w.heap.size, 0, none⟩) 4 4 [65, 78, 88, 67] := lies_mark w [65, 78, 88, 67] 4 rfl _ rfl (4, 5) w.heap.size rfl
  go_enter Tryz.func113, Tryz.ntmps113
  go_wp2_with fail
  refine (put32_any _ 4 4 0 _ _ (by omega) hL0).mono ?_
  rintro e w1 ⟨g1, c1, rfl, ho1, hb1⟩
  have hL1 := Lies.own ho1
  have q1 := hb0.trans (hb1.mono hb0.size)
  clear hcc hb0 hL0 ho1 hb1
  go_wp2_with fail
  refine (put64_any _ _ c1 seq _ _ (by omega) hL1).mono ?_
  rintro e w2 ⟨g2, c2, rfl, ho2, hb2⟩
  have hL2 := Lies.own ho2
  have q2 := q1.trans (hb2.mono q1.size)
  clear hL1 ho2 hb2 q1
  go_wp2_with fail
  refine (filled_any _ _ c2 _ _ (by omega) hL2).mono ?_
  rintro e w3 ⟨g3, rfl, l3, b3, q3⟩
  go_wp2
  go_ret
  exact ⟨g3, rfl, Nat.le_trans q2.size l3, b3, q2.trans (q3.mono q2.size)⟩
/-- A head: what its sum is of; the head. -/
def hdB (seq place : Int) : List Int := [65, 78, 88, 72] ++ be 0 4 ++ be (IntKind.u64.wrap seq) 8 ++ be (IntKind.u64.wrap place) 4
def jsum (l : List Int) : Int := S2.fwd 14695981039346656037 l
def jheadB (seq place : Int) : List Int := fillB (hdB seq place ++ be (jsum (hdB seq place)) 8)
theorem hdB_len (seq place : Int) : (hdB seq place).length = 20 := by simp [hdB, be_length]
theorem hdB_by (seq place : Int) : ∀ x ∈ hdB seq place, 0 ≤ x ∧ x ≤ 255 := fun x hx => by
  simp only [hdB, List.mem_append] at hx
  rcases hx with ((hx | hx) | hx) | hx
  · simp at hx; omega
  all_goals exact be_by _ _ x hx
set_option maxHeartbeats 1000000 in
theorem headBlock_any (seq place : Int) (w : World) : Calls Tryz.prog 99 #[.int .i64 seq, .int .i64 place] w fun e w' => Blk w w' e (jheadB seq place) := by
  have hcc := Go.Joins.run_convert_bytes_const_at (P := Tryz.prog) w 66 5 #[.int .u8 65, .int .u8 78, .int .u8 88, .int .u8 72] 4 4 w.heap.size (by simp) Tryz.underlying66 Tryz.underlying5
  have hb0 : Below w.heap.size w (w.alloc (.cells #[.int .u8 65, .int .u8 78, .int .u8 88, .int .u8 72] 5 (4, 5))) := (Below.refl _ w).alloc (Nat.le_refl _) _
  have hL0 : Lies (w.alloc (.cells #[.int .u8 65, .int .u8 78, .int .u8 88, .int .u8 72] 5 (4, 5))) (some ⟨w.heap.size, 0, none⟩) 4 4 [65, 78, 88, 72] := lies_mark w [65, 78, 88, 72] 4 rfl _ rfl (4, 5) w.heap.size rfl
  go_enter Tryz.func99, Tryz.ntmps99
  go_wp2_with fail
  refine (put32_any _ 4 4 0 _ _ (by omega) hL0).mono ?_
  rintro e w1 ⟨g1, c1, rfl, ho1, hb1⟩
  have hL1 := Lies.own ho1
  have q1 := hb0.trans (hb1.mono hb0.size)
  clear hcc hb0 hL0 ho1 hb1
  go_wp2_with fail
  refine (put64_any _ _ c1 seq _ _ (by omega) hL1).mono ?_
  rintro e w2 ⟨g2, c2, rfl, ho2, hb2⟩
  have hL2 := Lies.own ho2
  have q2 := q1.trans (hb2.mono q1.size)
  clear hL1 ho2 hb2 q1
  go_wp2_with fail
  refine (put32_any _ _ c2 place _ _ (by omega) hL2).mono ?_
  rintro e w3 ⟨g3, c3, rfl, ho3, hb3⟩
  have hL3 : Lies w3 (some ⟨g3, 0, none⟩) 20 c3 (hdB seq place) := Lies.own ho3
  have q3 := q2.trans (hb3.mono q2.size)
  have hby := hdB_by seq place
  clear hL2 ho3 hb3 q2
  go_wp2_with fail
  refine (S2.sum_any (some ⟨g3, 0, none⟩) 20 c3 (hdB seq place) _ (by omega) hL3 hby).mono ?_
  rintro e w4 ⟨rfl, hw4⟩
  subst w4
  have hsu : 0 ≤ S2.fwd 14695981039346656037 (hdB seq place) ∧ S2.fwd 14695981039346656037 (hdB seq place) ≤ 18446744073709551615 := S2.U.fwd (h := 14695981039346656037) _ ⟨by decide, by decide⟩
  obtain ⟨S, hS⟩ : ∃ S, S2.fwd 14695981039346656037 (hdB seq place) = S := ⟨_, rfl⟩
  rw [hS] at hsu
  simp only [hS]
  have HS : Hid (jsum (hdB seq place) = S) := hS
  clear hS
  go_wp2_with fail
  refine (putSum_any (some ⟨g3, 0, none⟩) 20 c3 S (hdB seq place) _ hsu.1 hsu.2 (by omega) hL3).mono ?_
  rintro e w5 ⟨g5, c5, rfl, ho5, hb5⟩
  have hL5 := Lies.own ho5
  have q5 := q3.trans (hb5.mono q3.size)
  clear hL3 ho5 hb5 q3
  go_wp2_with fail
  refine (filled_any _ _ c5 _ _ (by omega) hL5).mono ?_
  rintro e w6 ⟨g6, rfl, l6, b6, q6⟩
  go_wp2
  go_ret
  refine ⟨g6, rfl, Nat.le_trans q5.size l6, ?_, q5.trans (q6.mono q5.size)⟩
  unfold jheadB
  rw [HS.out]
  exact b6
end Go.Proofs.YtfmcbjlagdanjaaGreatDoor

/- A descriptor, by its contract: descriptorBlock. -/
namespace Go.Proofs.YtfmcbjlagdanjaaGreatDoor
open Go.RowKit
set_option maxRecDepth 100000

/-- The cells of a descriptor's lines. -/
def lnC (ls : List (Nat × Nat)) : List Value := ls.flatMap fun p => [.int .i64 p.1, .int .i64 p.2]
theorem lnC_len (ls : List (Nat × Nat)) : (lnC ls).length = ls.length * 2 := by
  induction ls with
  | nil => rfl
  | cons p ls ih => simp only [lnC, List.flatMap_cons, List.length_append, List.length_cons, List.length_nil] at *; omega
theorem lnC_at : ∀ (ls : List (Nat × Nat)) (i : Nat) (p : Nat × Nat), ls[i]? = some p → (lnC ls)[i * 2]? = some (.int .i64 p.1) ∧ (lnC ls)[i * 2 + 1]? = some (.int .i64 p.2)
  | [], i, p, h => by simp at h
  | q :: ls, 0, p, h => by simp at h; subst h; simp [lnC]
  | q :: ls, i + 1, p, h => by
    have := lnC_at ls i p (by simpa using h)
    rw [show (i + 1) * 2 = i * 2 + 1 + 1 by omega]
    simpa [lnC] using this
/-- The lines of a descriptor in memory. -/
structure Lns (w : World) (lv : Value) (ls : List (Nat × Nat)) : Prop where
  row : w.ownsRow 0 180 2 lv ls.length (lnC ls)
theorem Lns.get {w : World} {lv : Value} {ls : List (Nat × Nat)} (h : Lns w lv ls) {i : Nat} {p : Nat × Nat} (hp : ls[i]? = some p) : ∃ g c, lv = .slice (some ⟨g, 0, none⟩) ls.length c ∧ w.cell? ⟨g, i * 2, none⟩ = some (.int .i64 p.1) ∧ w.cell? ⟨g, i * 2 + 1, none⟩ = some (.int .i64 p.2) := by
  have hi := (List.getElem?_eq_some_iff.1 hp).1
  rcases h.row.2 with ⟨_, h0⟩ | ⟨g, cap, cur, hv, _, hg, h1, h2, h3, h4⟩
  · omega
  · obtain ⟨e1, e2⟩ := lnC_at ls i p hp
    refine ⟨g, cap, hv, ?_, ?_⟩
    · simp only [World.cell?, hg]
      rw [← h4, List.getElem?_take, if_pos (by omega)] at e1
      simpa using e1
    · simp only [World.cell?, hg]
      rw [← h4, List.getElem?_take, if_pos (by omega)] at e2
      simpa using e2
def lnB (ls : List (Nat × Nat)) : List Int := ls.flatMap fun p => be p.1 4 ++ be p.2 4
theorem lnB_len (ls : List (Nat × Nat)) : (lnB ls).length = 8 * ls.length := by
  induction ls with
  | nil => rfl
  | cons p ls ih => simp only [lnB, List.flatMap_cons, List.length_append, be_length, List.length_cons] at *; omega
theorem lnB_snoc (ls : List (Nat × Nat)) (p : Nat × Nat) : lnB (ls ++ [p]) = lnB ls ++ be p.1 4 ++ be p.2 4 := by simp [lnB]
/-- A descriptor. -/
def desH (seq : Int) (n : Nat) : List Int := [65, 78, 88, 68] ++ be n 4 ++ be (IntKind.u64.wrap seq) 8
def desB (seq : Int) (ls : List (Nat × Nat)) : List Int := fillB (desH seq ls.length ++ lnB ls)
theorem u64_nat (x : Nat) (h1 : x ≤ 1000000) : IntKind.u64.wrap (x : Int) = x := by
  simp [IntKind.wrap, IntKind.bits, IntKind.signed]; omega
set_option maxHeartbeats 4000000 in
theorem descriptorBlock_any (seq : Int) (lv : Value) (ls : List (Nat × Nat)) (w : World) (hl : Lns w lv ls) (hn : ls.length ≤ 24) (hsm : ∀ p ∈ ls, p.1 ≤ 4096 ∧ p.2 ≤ 2) : Calls Tryz.prog 111 #[.int .i64 seq, lv] w fun e w' => Blk w w' e (desB seq ls) := by
  obtain ⟨aL, cL, rfl⟩ := row_slice hl.row
  obtain ⟨N, hN⟩ : ∃ N, ls.length = N := ⟨_, rfl⟩
  rw [hN] at hn
  have hcc := Go.Joins.run_convert_bytes_const_at (P := Tryz.prog) w 66 5 #[.int .u8 65, .int .u8 78, .int .u8 88, .int .u8 68] 4 4 w.heap.size (by simp) Tryz.underlying66 Tryz.underlying5
  have hb0 : Below w.heap.size w (w.alloc (.cells #[.int .u8 65, .int .u8 78, .int .u8 88, .int .u8 68] 5 (4, 5))) := (Below.refl _ w).alloc (Nat.le_refl _) _
  have hL0 : Lies (w.alloc (.cells #[.int .u8 65, .int .u8 78, .int .u8 88, .int .u8 68] 5 (4, 5))) (some ⟨w.heap.size, 0, none⟩) 4 4 [65, 78, 88, 68] := lies_mark w [65, 78, 88, 68] 4 rfl _ rfl (4, 5) w.heap.size rfl
  go_enter Tryz.func111, Tryz.ntmps111
  rw [hN]
  go_wp2_with fail
  refine (put32_any _ 4 4 N _ _ (by omega) hL0).mono ?_
  rintro e w1 ⟨g1, c1, rfl, ho1, hb1⟩
  have hL1 := Lies.own ho1
  rw [u64_nat N (by omega)] at hL1
  have q1 := hb0.trans (hb1.mono hb0.size)
  clear hcc hb0 hL0 ho1 hb1
  go_wp2_with fail
  refine (put64_any _ _ c1 seq _ _ (by omega) hL1).mono ?_
  rintro e w2 ⟨g2, c2, rfl, ho2, hb2⟩
  have hL2 : Lies w2 (some ⟨g2, 0, none⟩) 16 c2 (desH seq N) := Lies.own ho2
  have q2 := q1.trans (hb2.mono q1.size)
  clear hL1 ho2 hb2 q1
  go_wp2_with fail
  go_loopw [5, 18] (fun b v wr => ∃ (k g c : Nat), k ≤ N ∧ v = .int .i64 k ∧ b = .slice (some ⟨g, 0, none⟩) (16 + 8 * k) c ∧ Lies wr (some ⟨g, 0, none⟩) (16 + 8 * k) c (desH seq N ++ lnB (ls.take k)) ∧ Below w.heap.size w wr) (fun _ v _ => N - (intOf v).toNat)
  case atStart => exact ⟨0, _, _, by omega, rfl, rfl, by simpa [lnB] using hL2, q2⟩
  case round =>
    clear q2 hL2
    obtain ⟨k, g, c, hk, rfl, rfl, hL, hb⟩ := hrel
    by_cases hlt : k < N
    · obtain ⟨p, hp⟩ : ∃ p, ls[k]? = some p := ⟨_, List.getElem?_eq_getElem (by omega)⟩
      obtain ⟨gl, cl, hal, y0, y1⟩ := hl.get hp
      have hps := hsm p (List.mem_of_getElem? hp)
      have HT : Hid (ls.take (k + 1) = ls.take k ++ [p]) := by
        refine List.ext_getElem? fun i => ?_
        rw [List.getElem?_take, List.getElem?_append, List.length_take, hN, Nat.min_eq_left (by omega : k ≤ N)]
        by_cases h1 : i < k
        · rw [if_pos (by omega), if_pos h1, List.getElem?_take, if_pos h1]
        · by_cases h2 : i = k
          · subst h2; simp [hp]
          · rw [if_neg (by omega), if_neg h1]; simp; omega
      obtain ⟨p1, p2⟩ := p
      have z0 := cell_later hb y0
      have z1 := cell_later hb y1
      obtain rfl : aL = some ⟨gl, 0, none⟩ := by cases hal; rfl
      have hki : (k : Int) < N := by omega
      obtain ⟨W, hW⟩ : ∃ W, wr.alloc (.cells #[.int .i64 p1, .int .i64 p2] 180) = W := ⟨_, rfl⟩
      have bW : Below wr.heap.size wr W := by rw [← hW]; exact (Below.refl _ wr).alloc (Nat.le_refl _) _
      have x0 : W.cell? ⟨wr.heap.size, 0, none⟩ = some (.int .i64 p1) := by rw [← hW]; simp
      have x1 : W.cell? ⟨wr.heap.size, 1, none⟩ = some (.int .i64 p2) := by rw [← hW]; simp
      have hLW := hL.below bW (Nat.le_refl _)
      have hbW := hb.trans (bW.mono hb.size)
      clear y0 y1 hal
      go_wp2_with fail
      try rw [hW]
      refine (put32_any (some ⟨g, 0, none⟩) (16 + 8 * k) c p1 _ _ (by omega) hLW).mono ?_
      rintro e w2 ⟨g2, c2, rfl, ho, hb2⟩
      have hL2 := Lies.own ho
      rw [u64_nat p1 (by omega)] at hL2
      have hq2 := hbW.trans (hb2.mono hbW.size)
      have x1 := cell_later hb2 x1
      clear hLW ho x0
      go_wp2_with fail
      refine (put32_any (some ⟨g2, 0, none⟩) _ c2 p2 _ _ (by omega) hL2).mono ?_
      rintro e w3 ⟨g3, c3, rfl, ho3, hb3⟩
      have hL3 := Lies.own ho3
      rw [u64_nat p2 (by omega), List.append_assoc (desH seq N), List.append_assoc (desH seq N), ← lnB_snoc _ (p1, p2), ← HT.out] at hL3
      have hq3 := hq2.trans (hb3.mono hq2.size)
      rw [show 16 + 8 * k + 4 + 4 = 16 + 8 * (k + 1) by omega] at hL3
      clear hL2 ho3 hL hb hb2 hb3 hbW z0 z1 x1
      go_wp2_with fail
      go_roundw
      case rel => exact ⟨k + 1, g3, c3, by omega, by go_num, by rw [show 16 + 8 * k + 4 + 4 = 16 + 8 * (k + 1) by omega], hL3, hq3⟩
      case measure => simp [intOf]; omega
    · obtain rfl : k = N := by omega
      rw [List.take_of_length_le (by omega)] at hL
      go_wp2_with fail
      refine (filled_any _ _ c _ _ (by omega) hL).mono ?_
      rintro e w3 ⟨g3, rfl, l3, b3, q3⟩
      go_wp2
      go_ret
      refine ⟨g3, rfl, Nat.le_trans hb.size l3, ?_, hb.trans (q3.mono hb.size)⟩
      unfold desB
      rw [hN]
      exact b3
end Go.Proofs.YtfmcbjlagdanjaaGreatDoor

/- How a block begins; how it stands in the log: begins, flagOf, hidden. -/
namespace Go.Proofs.YtfmcbjlagdanjaaGreatDoor
open Go.RowKit
set_option maxRecDepth 100000

/-- The first four bytes are a mark's. -/
def begs (bs m : List Int) : Bool := decide (bs.take 4 = m)
theorem txt_inj {a b : List Int} (ha : ∀ x ∈ a, 0 ≤ x ∧ x ≤ 255) (hb : ∀ x ∈ b, 0 ≤ x ∧ x ≤ 255) (h : txt a = txt b) : a = b := by
  have := congrArg nums h
  rwa [nums_txt a ha, nums_txt b hb] at this
set_option maxHeartbeats 1000000 in
theorem begins_any (g n c : Nat) (bs m : List Int) (s : ByteArray) (w : World) (hL : Lies w (some ⟨g, 0, none⟩) n c bs) (h4 : 4 ≤ n) (hc : c ≤ 140737488355328) (hby : ∀ x ∈ bs, 0 ≤ x ∧ x ≤ 255) (hm : ∀ x ∈ m, 0 ≤ x ∧ x ≤ 255) (hs : txt m = s) : Calls Tryz.prog 152 #[.slice (some ⟨g, 0, none⟩) n c, .string s] w fun e w' => e = .returned (.bool (begs bs m)) ∧ w' = w := by
  subst hs
  have hle := hL.hle
  have hs4 := hL.sub 0 0 4 c (fun _ => rfl) (by omega) (by omega)
  have hcv := run_string_of w ⟨g, 0, none⟩ 4 c _ hs4
  have hq : ((txt (bs.take 4)).toList == (txt m).toList) = begs bs m := by
    rw [Bool.eq_iff_iff, beq_iff_eq]
    simp only [begs, decide_eq_true_eq]
    refine ⟨fun h => txt_inj (fun x hx => hby x (List.mem_of_mem_take hx)) hm ?_, fun h => by rw [h]⟩
    rw [ByteArray.toList_eq, ByteArray.toList_eq] at h
    exact ByteArray.ext (Array.toList_inj.1 h)
  go_enter Tryz.func152, Tryz.ntmps152
  go_wp2
  go_ret
  refine ⟨?_, rfl⟩
  rw [← hq]
  rfl
/-- How a block begins. -/
def flagN (bs : List Int) : Nat := if begs bs [65, 78, 88, 68] then 1 else if begs bs [65, 78, 88, 67] then 2 else 0
set_option maxHeartbeats 1000000 in
theorem flagOf_any (g : Nat) (bs : List Int) (w : World) (hg : w.heap[g]? = some (bl bs)) (hl : bs.length = 512) (hby : ∀ x ∈ bs, 0 ≤ x ∧ x ≤ 255) : Calls Tryz.prog 109 #[hv g] w fun e w' => e = .returned (.int .i64 (flagN bs)) ∧ w' = w := by
  have hL := Lies.full hg hl
  have m1 := begins_any g 512 512 bs [65, 78, 88, 68] ⟨#[65, 78, 88, 68]⟩ w hL (by omega) (by omega) hby (by decide) (by rfl)
  have m2 := begins_any g 512 512 bs [65, 78, 88, 67] ⟨#[65, 78, 88, 67]⟩ w hL (by omega) (by omega) hby (by decide) (by rfl)
  cases h1 : begs bs [65, 78, 88, 68] with
  | true =>
    rw [h1] at m1
    go_enter Tryz.func109, Tryz.ntmps109
    go_wp2_with fail
    refine m1.mono ?_
    rintro e wn ⟨rfl, hwn⟩
    subst wn
    go_wp2
    go_ret
    exact ⟨by simp [flagN, h1], rfl⟩
  | false =>
    rw [h1] at m1
    cases h2 : begs bs [65, 78, 88, 67] with
    | true =>
      rw [h2] at m2
      go_enter Tryz.func109, Tryz.ntmps109
      go_wp2_with fail
      refine m1.mono ?_
      rintro e wn ⟨rfl, hwn⟩
      subst wn
      go_wp2_with fail
      refine m2.mono ?_
      rintro e wn ⟨rfl, hwn⟩
      subst wn
      go_wp2
      go_ret
      exact ⟨by simp [flagN, h1, h2], rfl⟩
    | false =>
      rw [h2] at m2
      go_enter Tryz.func109, Tryz.ntmps109
      go_wp2_with fail
      refine m1.mono ?_
      rintro e wn ⟨rfl, hwn⟩
      subst wn
      go_wp2_with fail
      refine m2.mono ?_
      rintro e wn ⟨rfl, hwn⟩
      subst wn
      go_wp2
      go_ret
      exact ⟨by simp [flagN, h1, h2], rfl⟩
theorem cleared {w : World} {g : Nat} {bs : List Int} (hl : bs.length = 512) (h : w.heap[g]? = some (bl bs)) : (w.setCells g 0 (List.replicate 4 (.int .u8 0))).heap[g]? = some (bl ([0, 0, 0, 0] ++ bs.drop 4)) := by
  rcases bs with _ | ⟨a, _ | ⟨b, _ | ⟨c, _ | ⟨d, r⟩⟩⟩⟩
  iterate 4 (simp at hl)
  have e1 := heap_setCell_same _ g 0 _ _ (.int .u8 0) h
  have e2 := heap_setCell_same _ g 1 _ _ (.int .u8 0) e1
  have e3 := heap_setCell_same _ g 2 _ _ (.int .u8 0) e2
  have e4 := heap_setCell_same _ g 3 _ _ (.int .u8 0) e3
  refine Eq.trans e4 ?_
  simp
theorem cleared_turns (w : World) (g : Nat) : Turns (fun i => i = g) w (w.setCells g 0 (List.replicate 4 (.int .u8 0))) :=
  (((Turns.cell w g 0 _).trans (Turns.cell _ g 1 _) (fun _ _ h => h)).trans (Turns.cell _ g 2 _) (fun _ _ h => h)).trans (Turns.cell _ g 3 _) (fun _ _ h => h)
/-- A block as it stands in the log. -/
def hidB (bs : List Int) (f : Nat) : List Int := if f = 0 then bs else [0, 0, 0, 0] ++ bs.drop 4
set_option maxHeartbeats 1000000 in
theorem hidden_any (g : Nat) (bs : List Int) (f : Nat) (w : World) (hg : w.heap[g]? = some (bl bs)) (hl : bs.length = 512) (hf : f ≤ 2) : Calls Tryz.prog 112 #[hv g, .int .i64 f] w fun e w' => Blk w w' e (hidB bs f) := by
  have hL := Lies.full hg hl
  by_cases h0 : f = 0
  · subst h0
    go_enter Tryz.func112, Tryz.ntmps112
    go_wp2_with fail
    refine (jcopied_any _ _ _ _ _ (by omega) hL).mono ?_
    rintro e w1 ⟨g1, rfl, l1, b1, q1⟩
    go_wp2
    go_ret
    exact ⟨g1, rfl, l1, by simpa [hidB] using b1, q1⟩
  · have hfi : (f : Int) ≠ 0 := by omega
    go_enter Tryz.func112, Tryz.ntmps112
    go_wp2_with fail
    refine (jcopied_any _ _ _ _ _ (by omega) hL).mono ?_
    rintro e w1 ⟨g1, rfl, l1, b1, q1⟩
    have hz : ∀ w : World, (zeroValue 5).run Tryz.prog w = .ok (.int .u8 0) w := fun w => by kernel_rfl
    have hcl : ∀ ty, (Builtin.clear_ #[66] ty #[.slice (some ⟨g1, 0, none⟩) 4 512]).run Tryz.prog w1 = .ok (.tuple #[]) (w1.setCells g1 0 (List.replicate 4 (.int .u8 0))) := fun ty => Lib.run_clear_slice w1 _ _ ty _ Tryz.underlying66 hz rfl rfl g1 0 4 512 (by omega) (fun j hj => by simp [World.cell?, b1]; omega) (fun j hj => by simp [World.frozen?, b1])
    have hset := cleared hl b1
    have hT := cleared_turns w1 g1
    generalize w1.setCells g1 0 (List.replicate 4 (.int .u8 0)) = w2 at *
    go_wp2
    go_ret
    refine ⟨g1, rfl, l1, ?_, q1.trans (hT.below (fun i e => by omega) q1.size)⟩
    unfold hidB
    rw [if_neg h0]
    exact hset
end Go.Proofs.YtfmcbjlagdanjaaGreatDoor

/- Err by its contract. -/
namespace Go.Proofs.YtfmcbjlagdanjaaGreatDoor
open Go.RowKit
set_option maxRecDepth 100000

set_option maxHeartbeats 400000 in
theorem err_any (rb g n cap : Nat) (pl code : Int) (bs : List Int) (w : World) (hR : Rdr w rb g n cap pl code bs) :
    Calls Tryz.prog 167 #[.pointer (some ⟨rb, 0, none⟩)] w fun e w' => e = .returned (.tuple #[.int .i64 code, .int .i64 pl]) ∧ ∃ m, w' = w.drewN m := by
  have c1 := hR.c1
  have c2 := hR.c2
  go_enter Tryz.func167, Tryz.ntmps167
  go_wp2
  go_quiet (fail)
  go_wp2
  go_ret2
  exact ⟨rfl, _, rfl⟩
end Go.Proofs.YtfmcbjlagdanjaaGreatDoor

/- A head as it is read: headOf by its contract. -/
namespace Go.Proofs.YtfmcbjlagdanjaaGreatDoor
open Go.RowKit
set_option maxRecDepth 100000

theorem Lies.cut {w : World} {g n : Nat} {bs : List Int} (h : w.heap[g]? = some (bl bs)) (hl : bs.length = 512) (o : Nat) (hn : o + n ≤ 512) (c : Nat) (hc : n ≤ c) : Lies w (some ⟨g, o, none⟩) n c ((bs.drop o).take n) := Lies.piece h (by omega) hc
theorem WentR.below {B : Nat} {w w' : World} {rb g n cap : Nat} {pl code : Int} {bs : List Int} (h : WentR w w' rb g n cap pl code bs) {w0 : World} (hb : Below B w0 w) (hr : B ≤ rb) (hB : B ≤ w.heap.size) : Below B w0 w' := hb.grown h.2 hB (fun k e => by cases e; exact hr)
theorem rdNum_le {k n : Nat} {bs : List Int} {pl : Nat} {code M : Int} (h : pl ≤ n) : (rdNum k n bs pl code M).2.1 ≤ n := by
  unfold rdNum
  split
  · exact h
  · split
    · exact h
    · split
      · exact h
      · simp only; omega
theorem rdNum_bd (k n : Nat) (bs : List Int) (pl : Nat) (code M : Int) (hM : 0 ≤ M) (hv0 : 0 ≤ val ((bs.drop pl).take k)) : 0 ≤ (rdNum k n bs pl code M).1 ∧ (rdNum k n bs pl code M).1 ≤ M := by
  unfold rdNum
  split
  · exact ⟨Int.le_refl _, hM⟩
  · split
    · exact ⟨Int.le_refl _, hM⟩
    · split
      · exact ⟨Int.le_refl _, hM⟩
      · simp only; omega
/-- What is read behind a head's mark. -/
def hdR (bs : List Int) (places : Int) : (Int × Nat × Int) × (Int × Nat × Int) × (Int × Nat × Int) :=
  let q := (bs.drop 8).take 20
  let a := rdNum 8 20 q 0 0 4611686018427387905
  let b := rdNum 4 20 q a.2.1 a.2.2 (places - 1)
  (a, b, rdSum 20 q b.2.1 b.2.2)
/-- Is it a head that is right for so many places? -/
def hdOk (bs : List Int) (places : Int) : Bool := begs bs [65, 78, 88, 72] && (decide ((hdR bs places).2.2.2.2 = 0) && decide (0 < (hdR bs places).1.1)) && ((hdR bs places).2.2.1 == jsum (bs.take 20))
set_option maxHeartbeats 4000000 in
theorem headOf_any (g : Nat) (bs : List Int) (places : Int) (er : Nat → Addr) (w : World) (hg : w.heap[g]? = some (bl bs)) (hl : bs.length = 512) (hby : ∀ x ∈ bs, 0 ≤ x ∧ x ≤ 255) (hE : Errs w er) (hp : 1 ≤ places ∧ places ≤ 4096) :
    Calls Tryz.prog 122 #[hv g, .int .i64 places] w fun e w' => e = .returned (.tuple #[.int .i64 (hdR bs places).1.1, .int .i64 (hdR bs places).2.1.1, .bool (hdOk bs places)]) ∧ Below w.heap.size w w' := by
  have hL := Lies.cut (n := 20) hg hl 8 (by omega) 504 (by omega)
  have hq : ∀ x ∈ (bs.drop 8).take 20, 0 ≤ x ∧ x ≤ 255 := fun x hx => hby x (List.mem_of_mem_drop (List.mem_of_mem_take hx))
  go_enter Tryz.func122, Tryz.ntmps122
  go_wp2_with fail
  refine (newReader_any (some ⟨g, 8, none⟩) 20 504 _ w (by omega) hL).mono ?_
  rintro e w1 ⟨rb, rg, rfl, hR, hrb, hrg, b1⟩
  have E1 := hE.below b1 (Nat.le_refl _)
  go_wp2_with fail
  refine (u64_any rb rg 20 20 0 0 _ _ er w1 hR E1 (by omega) (by omega) hq (by omega)).mono ?_
  rintro e w2 ⟨rfl, W2⟩
  have b2 := W2.below b1 hrb b1.size
  have E2 := hE.below b2 (Nat.le_refl _)
  have le2 : (rdNum 8 20 ((bs.drop 8).take 20) 0 0 4611686018427387905).2.1 ≤ 20 := rdNum_le (by omega)
  obtain ⟨A, hA⟩ : ∃ A, rdNum 8 20 ((bs.drop 8).take 20) 0 0 4611686018427387905 = A := ⟨_, rfl⟩
  rw [hA] at W2 le2
  rw [hA]
  have HA : Hid _ := hA
  clear hA E1 hR
  have R2 := W2.1
  go_wp2_with fail
  refine (u32_any rb rg 20 20 A.2.1 A.2.2 (places - 1) _ er w2 R2 E2 le2 (by omega) hq (by omega)).mono ?_
  rintro e w3 ⟨rfl, W3⟩
  have b3 := W3.below b2 hrb b2.size
  have E3 := hE.below b3 (Nat.le_refl _)
  have le3 : (rdNum 4 20 ((bs.drop 8).take 20) A.2.1 A.2.2 (places - 1)).2.1 ≤ 20 := rdNum_le le2
  obtain ⟨B, hB⟩ : ∃ B, rdNum 4 20 ((bs.drop 8).take 20) A.2.1 A.2.2 (places - 1) = B := ⟨_, rfl⟩
  rw [hB] at W3 le3
  rw [hB]
  have HB : Hid _ := hB
  clear hB E2 R2 W2
  have R3 := W3.1
  go_wp2_with fail
  refine (sum_any rb rg 20 20 B.2.1 B.2.2 _ er w3 R3 E3 le3 (by omega) hq).mono ?_
  rintro e w4 ⟨rfl, W4⟩
  have b4 := W4.below b3 hrb b3.size
  obtain ⟨C, hC⟩ : ∃ C, rdSum 20 ((bs.drop 8).take 20) B.2.1 B.2.2 = C := ⟨_, rfl⟩
  rw [hC] at W4
  rw [hC]
  have HC : Hid _ := hC
  clear hC E3 R3 W3
  have R4 := W4.1
  go_wp2_with fail
  refine (err_any rb rg 20 20 _ _ _ w4 R4).mono ?_
  rintro e w5 ⟨rfl, t5, rfl⟩
  have b5 : Below w.heap.size w (w4.drewN t5) := ⟨b4.os, b4.tape, b4.output, b4.size, b4.block⟩
  have g5 := (b5.block g (heap_lt hg)).trans hg
  have hR0 : hdR bs places = (A, B, C) := by
    unfold hdR
    simp only [HA.out, HB.out, HC.out]
  have HO : Hid (hdOk bs places = (begs bs [65, 78, 88, 72] && (decide (C.2.2 = 0) && decide (0 < A.1)) && (C.1 == jsum (bs.take 20))) ∧ hdR bs places = (A, B, C)) := ⟨by unfold hdOk; rw [hR0], hR0⟩
  clear hR0 HA HB HC R4 W4 hL
  generalize w4.drewN t5 = w5 at *
  have L5 := Lies.full g5 hl
  have m1 := begins_any g 512 512 bs [65, 78, 88, 72] ⟨#[65, 78, 88, 72]⟩ w5 L5 (by omega) (by omega) hby (by decide) (by rfl)
  have L6 : Lies w5 (some ⟨g, 0, none⟩) 20 512 (bs.take 20) := by simpa using Lies.cut (n := 20) g5 hl 0 (by omega) 512 (by omega)
  have y6 : ∀ x ∈ bs.take 20, 0 ≤ x ∧ x ≤ 255 := fun x hx => hby x (List.mem_of_mem_take hx)
  cases h1 : begs bs [65, 78, 88, 72] with
  | false =>
    rw [h1] at m1
    go_wp2_with (go_at_call 152; refine m1.mono ?_; rintro e wn ⟨rfl, hwn⟩; subst wn)
    refine bodyPost_ret (results_tmp3 rfl _ _ _) rfl ?_
    refine ⟨?_, b5⟩
    rw [HO.out.1, HO.out.2, h1]
    simp
  | true =>
    rw [h1] at m1
    by_cases h2 : C.2.2 = 0
    · by_cases h3 : 0 < A.1
      · go_wp2_with (go_at_call 152; refine m1.mono ?_; rintro e wn ⟨rfl, hwn⟩; subst wn)
        refine (S2.sum_any (some ⟨g, 0, none⟩) 20 512 (bs.take 20) _ (by omega) L6 y6).mono ?_
        rintro e w6 ⟨rfl, hw6⟩
        subst w6
        obtain ⟨T, hT⟩ : ∃ T, S2.fwd 14695981039346656037 (bs.take 20) = T := ⟨_, rfl⟩
        have HT : Hid (jsum (bs.take 20) = T) := hT
        simp only [hT]
        clear hT
        go_wp2
        refine bodyPost_ret (results_tmp3 rfl _ _ _) rfl ?_
        refine ⟨?_, b5⟩
        rw [HO.out.1, HO.out.2, h1, HT.out]
        simp [h2, h3]
      · go_wp2_with (go_at_call 152; refine m1.mono ?_; rintro e wn ⟨rfl, hwn⟩; subst wn)
        refine bodyPost_ret (results_tmp3 rfl _ _ _) rfl ?_
        refine ⟨?_, b5⟩
        rw [HO.out.1, HO.out.2, h1, decide_eq_false (by omega : ¬ 0 < A.1)]
        simp
    · go_wp2_with (go_at_call 152; refine m1.mono ?_; rintro e wn ⟨rfl, hwn⟩; subst wn)
      refine bodyPost_ret (results_tmp3 rfl _ _ _) rfl ?_
      refine ⟨?_, b5⟩
      rw [HO.out.1, HO.out.2, h1]
      simp [h2]
end Go.Proofs.YtfmcbjlagdanjaaGreatDoor

/- codeOf at no error; Format by its contract. -/
namespace Go.Proofs.YtfmcbjlagdanjaaGreatDoor
open Go.RowKit
set_option maxRecDepth 100000

theorem as_nil (v : Value) (w : World) : Calls Tryz.prog 125 #[.nilIface, v] w fun e w' => e = .returned (.bool false) ∧ w' = w := by
  go_enter Tryz.func125, Tryz.ntmps125
  go_wp2
  go_ret
  exact ⟨rfl, rfl⟩
theorem codeOf_nil (w : World) : Calls Tryz.prog 76 #[.nilIface] w fun e w' => e = .returned (.int .i64 0) ∧ Below w.heap.size w w' := by
  go_enter Tryz.func76, Tryz.ntmps76
  go_wp2_with (go_at_call 125; refine (as_nil _ _).mono ?_; rintro e wn ⟨rfl, hwn⟩; subst wn)
  go_ret
  exact ⟨rfl, (Below.refl _ w).alloc (Nat.le_refl _) _⟩
/-- The power is on, and does not fail at the next m operations. -/
structure Lasts (S : DevS) (m : Nat) : Prop where
  on : S.off = false
  fu : S.fuse = 0 ∨ m < S.fuse
theorem Lasts.burnt {S : DevS} {m : Nat} (h : Lasts S (m + 1)) : Lasts (burnt S) m := by
  obtain ⟨h1, h2⟩ := h
  unfold Go.Proofs.YtfmcbjlagdanjaaGreatDoor.burnt
  split
  · rename_i h0; exact ⟨h1, Or.inl h0⟩
  · rename_i h0
    refine ⟨?_, Or.inr (by simp only; omega)⟩
    simp [h1]; omega
theorem Lasts.mono {S : DevS} {m n : Nat} (h : Lasts S m) (hn : n ≤ m) : Lasts S n := ⟨h.on, h.fu.imp id (fun q => by omega)⟩
theorem wkE_ok {S : DevS} {k m : Nat} {b : Nat} (h : Lasts S (m + 1)) (hb : b < k) : wkE 0 S k b 512 = 0 := by
  have := h.burnt.on
  unfold wkE wrE
  rw [if_pos rfl, if_neg (fun q => q ⟨by omega, by omega⟩), if_neg (fun q => q rfl), if_neg (by simp [this])]
theorem wkS_ok {S : DevS} {k m : Nat} {b : Nat} {d : List Int} (h : Lasts S (m + 1)) (hb : b < k) (hd : d.length = 512) : wkS 0 S k b d = wrote (burnt S) b d := by
  have := h.burnt.on
  unfold wkS wrS
  rw [if_pos rfl, if_neg (fun q => q ⟨by omega, by omega⟩), if_neg (fun q => q hd), if_neg (by simp [this])]
  rfl
theorem fkE_ok {S : DevS} {m : Nat} (h : Lasts S (m + 1)) : fkE 0 S = 0 := by
  have := h.burnt.on
  unfold fkE flE
  rw [if_pos rfl, if_neg (by simp [this])]
theorem fkS_ok {S : DevS} {m : Nat} (h : Lasts S (m + 1)) : fkS 0 S = flushed (burnt S) := by
  have := h.burnt.on
  unfold fkS flS
  rw [if_pos rfl, if_neg (by simp [this])]
theorem Lasts.wrote {S : DevS} {m : Nat} (h : Lasts S m) (b : Nat) (d : List Int) : Lasts (wrote S b d) m := ⟨h.on, h.fu⟩
theorem Lasts.flushed {S : DevS} {m : Nat} (h : Lasts S m) : Lasts (flushed S) m := ⟨h.on, h.fu⟩
/-- A write of a call that met no error and meets none. -/
structure Wrt (w w' : World) (wb d : Nat) (S : DevS) (k N : Nat) (F : Nat → Prop) : Prop where
  wk : Wk w' wb d .nilIface
  dv : Dev w' d 0 S k N (grow F w w')
  tr : Turns (fun i => F i ∨ i = wb) w w'
theorem wkwrite_ok {w : World} {d wb : Nat} {S : DevS} {k N m : Nat} {F : Nat → Prop} (hD : Dev w d 0 S k N F) (hW : Wk w wb d .nilIface) (hwF : ¬ F wb) (hS : Lasts S (m + 1)) (b : Nat) (hb : b < k) (ao : Option Addr) (c : Nat) (ds : List Int) (hL : Lies w ao 512 c ds) (hy : ∀ x ∈ ds, 0 ≤ x ∧ x ≤ 255) (hF : ∀ ad, ao = some ad → ¬ F ad.block) (hN : N ≤ 1099511627776) :
    Calls Tryz.prog 96 #[.pointer (some ⟨wb, 0, none⟩), .int .i64 b, .slice ao 512 c] w fun e w' => e = .returned (.tuple #[]) ∧ Wrt w w' wb d (wrote (burnt S) b ds) k (N + 1) F := by
  refine (wkwrite_any hD hW (Or.inl ⟨rfl, rfl⟩) hwF b ao 512 c ds hL hy hF hN).mono ?_
  rintro e w' ⟨rfl, ev, hev, k1, d1, t1⟩
  rw [wkE_ok hS hb] at hev
  rw [wkS_ok hS hb hL.hlen] at d1
  obtain ⟨_, rfl⟩ := hev.resolve_right (fun h => h.1 rfl)
  exact ⟨rfl, k1, d1, t1⟩
theorem wkflush_ok {w : World} {d wb : Nat} {S : DevS} {k N m : Nat} {F : Nat → Prop} (hD : Dev w d 0 S k N F) (hW : Wk w wb d .nilIface) (hwF : ¬ F wb) (hS : Lasts S (m + 1)) (hN : N ≤ 1099511627776) :
    Calls Tryz.prog 98 #[.pointer (some ⟨wb, 0, none⟩)] w fun e w' => e = .returned (.tuple #[]) ∧ Wrt w w' wb d (flushed (burnt S)) k N F := by
  refine (wkflush_any hD hW (Or.inl ⟨rfl, rfl⟩) hwF hN).mono ?_
  rintro e w' ⟨rfl, ev, hev, k1, d1, t1⟩
  rw [fkE_ok hS] at hev
  rw [fkS_ok hS] at d1
  obtain ⟨_, rfl⟩ := hev.resolve_right (fun h => h.1 rfl)
  exact ⟨rfl, k1, d1, t1⟩
end Go.Proofs.YtfmcbjlagdanjaaGreatDoor

/- Format by its contract. -/
namespace Go.Proofs.YtfmcbjlagdanjaaGreatDoor
open Go.RowKit
set_option maxRecDepth 100000

def zB : List Int := List.replicate 512 0
/-- The first p places of a log are written with zeros. -/
def zrs (S : DevS) (st : Nat) : Nat → DevS
  | 0 => S
  | p + 1 => wrote (burnt (zrs S st p)) (st + 1 + p) zB
theorem zrs_lasts {S : DevS} {st m : Nat} : ∀ (p : Nat), Lasts S (p + m) → Lasts (zrs S st p) m
  | 0, h => by rw [Nat.zero_add] at h; exact h
  | p + 1, h => ((zrs_lasts (m := m + 1) p (by rw [show p + (m + 1) = p + 1 + m by omega]; exact h)).burnt).wrote _ _
/-- What a device holds behind Format. -/
def fmtS (S : DevS) (st sz : Nat) : DevS := flushed (burnt (wrote (burnt (flushed (burnt (zrs S st (sz - 1))))) st (jheadB 1 0)))
theorem jheadB_len (a b : Int) : (jheadB a b).length = 512 := fillB_len (by simp [hdB_len, be_length])
theorem jheadB_by (a b : Int) : ∀ x ∈ jheadB a b, 0 ≤ x ∧ x ≤ 255 := fillB_by (fun x hx => by
  rcases List.mem_append.1 hx with hx | hx
  · exact hdB_by a b x hx
  · exact be_by _ _ x hx)
theorem zB_by : ∀ x ∈ zB, 0 ≤ x ∧ x ≤ 255 := fun x hx => by have := List.eq_of_mem_replicate hx; omega
/-- What a call holds while it works: its device, its work, blocks X that are not the device's, what may have turned since it began. -/
structure Wg (w0 w : World) (F X : Nat → Prop) (wb d : Nat) (S : DevS) (k N : Nat) : Prop where
  wk : Wk w wb d .nilIface
  dv : ∃ G, Dev w d 0 S k N G ∧ (∀ i, G i → F i ∨ w0.heap.size ≤ i) ∧ ∀ i, X i → ¬ G i
  xl : ∀ i, X i → i < w.heap.size
  xw : X wb
  tr : Turns (fun i => F i ∨ i = wb) w0 w
  nw : w0.heap.size ≤ wb
theorem Wg.wrt {w0 w w' : World} {F X G : Nat → Prop} {wb d : Nat} {S S' : DevS} {k N N' : Nat} (h : Wg w0 w F X wb d S k N) (hG : ∀ i, G i → F i ∨ w0.heap.size ≤ i) (hX : ∀ i, X i → ¬ G i) (q : Wrt w w' wb d S' k N' G) : Wg w0 w' F X wb d S' k N' ∧ ∀ g o, X g → g ≠ wb → w.heap[g]? = some o → w'.heap[g]? = some o :=
  ⟨⟨q.wk, ⟨grow G w w', q.dv, fun i hi => hi.elim (hG i) (fun r => Or.inr (Nat.le_trans h.tr.size r.1)), fun i hi r => hX i hi (grow_old i (h.xl i hi) r)⟩, fun i hi => Nat.lt_of_lt_of_le (h.xl i hi) q.tr.size, h.xw, h.tr.trans q.tr (fun i hi r => r.elim (fun r => (hG i r).elim Or.inl (fun r => by omega)) Or.inr), h.nw⟩,
    fun g o hg hn ho => (q.tr.block g (h.xl g hg) (fun r => r.elim (hX g hg) hn)).trans ho⟩
theorem Wg.below {w0 w w' : World} {F X : Nat → Prop} {wb d : Nat} {S : DevS} {k N : Nat} (h : Wg w0 w F X wb d S k N) (b : Below w.heap.size w w') : Wg w0 w' F X wb d S k N := by
  obtain ⟨G, D, h1, h2⟩ := h.dv
  exact ⟨h.wk.turns (Below.turns b (fun _ => False)) id, ⟨G, D.below b, h1, h2⟩, fun i hi => Nat.lt_of_lt_of_le (h.xl i hi) b.size, h.xw, h.tr.trans (Below.turns b (fun _ => False)) (fun _ _ r => r.elim), h.nw⟩
/-- New blocks are not the device's. -/
theorem Wg.add {w0 w w' : World} {F X : Nat → Prop} {wb d : Nat} {S : DevS} {k N : Nat} (h : Wg w0 w F X wb d S k N) (b : Below w.heap.size w w') : Wg w0 w' F (fun i => X i ∨ (w.heap.size ≤ i ∧ i < w'.heap.size)) wb d S k N := by
  obtain ⟨G, D, h1, h2⟩ := h.dv
  have h' := h.below b
  exact { h' with
    dv := ⟨G, D.below b, h1, fun i hi r => hi.elim (fun hi => h2 i hi r) (fun hi => by have := D.lt i r; omega)⟩
    xl := fun i hi => hi.elim (h'.xl i) (fun hi => hi.2)
    xw := Or.inl h.xw }
theorem Wg.less {w0 w : World} {F X Y : Nat → Prop} {wb d : Nat} {S : DevS} {k N : Nat} (h : Wg w0 w F X wb d S k N) (hY : ∀ i, Y i → X i) (hw : Y wb) : Wg w0 w F Y wb d S k N := by
  obtain ⟨G, D, h1, h2⟩ := h.dv
  exact { h with dv := ⟨G, D, h1, fun i hi => h2 i (hY i hi)⟩, xl := fun i hi => h.xl i (hY i hi), xw := hw }
theorem Wg.start {w w' : World} {F : Nat → Prop} {d : Nat} {S : DevS} {k N : Nat} (hF : ∀ i, F i → i < w.heap.size) (k1 : Wk w' w.heap.size d .nilIface) (q : Same0 w w' d S k N F) : Wg w w' F (fun i => i = w.heap.size) w.heap.size d S k N :=
  ⟨k1, ⟨F, q.1, fun _ => Or.inl, fun i e h => by have := hF _ h; omega⟩, fun i e => by subst e; exact heap_lt k1, rfl, q.2.mono (fun _ _ => Or.inl), Nat.le_refl _⟩
theorem Wg.dev {w0 w : World} {F X : Nat → Prop} {wb d : Nat} {S : DevS} {k N : Nat} (h : Wg w0 w F X wb d S k N) (hF : ∀ i, F i → i < w0.heap.size) : Dev w d 0 S k N (grow F w0 w) ∧ Turns F w0 w := by
  obtain ⟨G, D, h1, _⟩ := h.dv
  refine ⟨D.foot (fun i hi => (h1 i hi).imp id (fun r => ⟨r, D.lt i hi⟩)) (fun i hi => hi.elim (fun r => Nat.lt_of_lt_of_le (hF i r) h.tr.size) (fun r => r.2)), h.tr.mono (fun i hi r => r.elim id (fun r => ?_))⟩
  have := h.nw
  omega
set_option maxHeartbeats 4000000 in
theorem format_ok {w : World} {d : Nat} {S : DevS} {k N : Nat} {F : Nat → Prop} (hD : Dev w d 0 S k N F) (st sz : Nat) (h1 : 27 ≤ sz) (h2 : st + sz ≤ k) (hS : Lasts S (sz + 2)) (hN : N ≤ 1000000000) :
    Calls Tryz.prog 41 #[.pointer (some ⟨d, 0, none⟩), .int .i64 st, .int .i64 sz] w fun e w' => e = .returned (.int .i64 0) ∧ Dev w' d 0 (fmtS S st sz) k (N + sz) (grow F w w') ∧ Turns F w w' := by
  obtain ⟨i0, hi, hz0, hz1, hz2⟩ := info_parts Tryz.info5
  have hF := hD.lt
  have hk := hD.good.top
  obtain ⟨W, hW⟩ : ∃ W, w.alloc (.cells #[.pointer (some ⟨d, 0, none⟩), .int .i64 st, .int .i64 sz] 110) = W := ⟨_, rfl⟩
  have hb : Below w.heap.size w W := by rw [← hW]; exact (Below.refl _ w).alloc (Nat.le_refl _) _
  have x0 : W.cell? ⟨w.heap.size, 0, none⟩ = some (.pointer (some ⟨d, 0, none⟩)) := by rw [← hW]; simp
  have x1 : W.cell? ⟨w.heap.size, 1, none⟩ = some (.int .i64 st) := by rw [← hW]; simp
  have x2 : W.cell? ⟨w.heap.size, 2, none⟩ = some (.int .i64 sz) := by rw [← hW]; simp
  have hs : W.heap.size = w.heap.size + 1 := by rw [← hW]; simp
  have hDW := hD.below hb
  have hfit : fitB k st sz = true := by simp [fitB]; omega
  have m1 := fits_any hDW st sz (by omega) (by omega) (by omega)
  rw [hfit] at m1
  go_enter Tryz.func41, Tryz.ntmps41
  go_wp2_with fail
  try rw [hW]
  refine m1.mono ?_
  rintro e w1 ⟨rfl, q1⟩
  have old : ∀ j v, W.cell? ⟨w.heap.size, j, none⟩ = some v → w1.cell? ⟨w.heap.size, j, none⟩ = some v := fun j v h => (World.cell?_of_block (q1.2.block w.heap.size (by omega) (fun r => by have := hF _ r; omega))).trans h
  have y0 := old 0 _ x0
  have y1 := old 1 _ x1
  have y2 := old 2 _ x2
  have s1 := q1.2.size
  clear x0 x1 x2 old m1
  go_wp2_with fail
  refine (begun_any q1.1).mono ?_
  rintro e w2 ⟨ev, rfl, hev, k2, q2⟩
  have he : begE S = 0 := by unfold begE; rw [if_neg (by simp [hS.on])]
  rw [he] at hev
  obtain ⟨_, rfl⟩ := hev.resolve_right (fun h => h.1 rfl)
  have hF1 : ∀ i, F i → i < w1.heap.size := fun i r => by have := hF i r; omega
  have g2 := Wg.start hF1 k2 q2
  obtain ⟨wb, hwb⟩ : ∃ wb, w1.heap.size = wb := ⟨_, rfl⟩
  rw [hwb] at g2
  have T1 : Turns F w w1 := (Below.turns hb F).trans q1.2 (fun _ _ h => h)
  have HT1 : Hid (Turns F w w1) := T1
  have rg : ∀ w', Turns (fun i => F i ∨ i = wb) w1 w' → ∀ j v, w1.cell? ⟨w.heap.size, j, none⟩ = some v → w'.cell? ⟨w.heap.size, j, none⟩ = some v := fun w' t j v h => (World.cell?_of_block (t.block w.heap.size (by omega) (fun r => r.elim (fun r => by have := hF _ r; omega) (fun r => by omega)))).trans h
  have z2 := g2.add ((Below.refl _ w2).alloc (Nat.le_refl _) (.cells (madeCells #[.int .u8 0] 512) 5))
  have hzb := zeros_bl w2 512
  obtain ⟨W3, hW3⟩ : ∃ W3, w2.alloc (.cells (madeCells #[.int .u8 0] 512) 5) = W3 := ⟨_, rfl⟩
  rw [hW3] at z2 hzb
  have hs3 : W3.heap.size = w2.heap.size + 1 := by rw [← hW3]; simp
  have u0 := rg W3 z2.tr 0 _ y0
  have u1 := rg W3 z2.tr 1 _ y1
  have u2 := rg W3 z2.tr 2 _ y2
  have s2 := q2.2.size
  have hwb2 := heap_lt k2
  clear k2 q2 g2 q1 hDW hD hb T1
  go_wp2_with (first
    | (at_make; (refine wpList_make_row _ rfl _ _ 66 rfl 5 i0 (.int .u8 0) Tryz.underlying66 hi hz0 hz1 rfl _ _ 512 rfl rfl (by rw [hz2]; omega) (by omega) ?_; try rw [hW3]))
    | fail)
  refine (places_any d st sz W3 (by omega)).mono ?_
  rintro e w4 ⟨rfl, b4⟩
  have z4 := z2.below b4
  have hz4 := (b4.block _ (by omega)).trans hzb
  have s4 := b4.size
  obtain ⟨gz, hgz⟩ : ∃ gz, w2.heap.size = gz := ⟨_, rfl⟩
  rw [hgz] at hz4
  try rw [hgz]
  clear z2 hzb b4 u0 u1 u2 hW3 hW
  have z5 := z4.less (Y := fun i => i = wb ∨ i = gz) (fun i hi => hi.elim Or.inl (fun r => Or.inr (by omega))) (Or.inl rfl)
  have hgw : gz ≠ wb := by omega
  clear z4
  have hszi : (27 : Int) ≤ sz := by omega
  have hszj : (sz : Int) ≤ 4096 := by omega
  go_wp2_with fail
  go_loopw [23] (fun i wr => ∃ p : Nat, p ≤ sz - 1 ∧ i = .int .i64 p ∧ Wg w1 wr F (fun i => i = wb ∨ i = gz) wb d (zrs S st p) k (N + p) ∧ wr.heap[gz]? = some (bl zB)) (fun i _ => sz - 1 - (intOf i).toNat)
  case atStart => exact ⟨0, Nat.zero_le _, rfl, z5, hz4⟩
  case round =>
    clear z5 hz4
    obtain ⟨p, hp, rfl, hg, hz⟩ := hrel
    have v0 := rg wr hg.tr 0 _ y0
    have v1 := rg wr hg.tr 1 _ y1
    have v2 := rg wr hg.tr 2 _ y2
    by_cases hlt : p < sz - 1
    · have hpi : (p : Int) < sz - 1 := by omega
      have hmod : p % (sz - 1) = p := Nat.mod_eq_of_lt hlt
      have hla : Lasts (zrs S st p) (sz + 2 - p - 1 + 1) := zrs_lasts p (hS.mono (by omega))
      go_wp2_with fail
      refine (at_any d st sz p _ (by omega) (by omega) (by omega)).mono ?_
      rintro e w5 ⟨rfl, b5⟩
      rw [hmod]
      have h5 := hg.below b5
      have hz5 := (b5.block gz (heap_lt hz)).trans hz
      clear hg hz b5 v0 v1 v2
      obtain ⟨G, D, hG, hX⟩ := h5.dv
      go_wp2_with fail
      refine (wkwrite_ok D h5.wk (hX wb (Or.inl rfl)) hla (st + 1 + p) (by omega) (some ⟨gz, 0, none⟩) 512 zB (Lies.full hz5 (by simp [zB])) zB_by (fun ad e => by cases e; exact hX gz (Or.inr rfl)) (by omega)).mono ?_
      rintro e w6 ⟨rfl, q6⟩
      obtain ⟨h6, k6⟩ := h5.wrt hG hX q6
      have hz6 := k6 gz _ (Or.inr rfl) hgw hz5
      clear h5 q6 k6 D hX hz5
      go_wp2_with fail
      go_roundw
      case rel => exact ⟨p + 1, by omega, by go_num, h6, hz6⟩
      case measure => simp [intOf]; omega
    · have hpe : p = sz - 1 := by omega
      subst hpe
      have hpi : ¬ (((sz - 1 : Nat) : Int) < sz - 1) := by omega
      have hla : Lasts (zrs S st (sz - 1)) 3 := zrs_lasts (sz - 1) (hS.mono (by omega))
      have HSZ : Hid (fmtS S st sz = flushed (burnt (wrote (burnt (flushed (burnt (zrs S st (sz - 1))))) st (jheadB 1 0)))) := rfl
      generalize zrs S st (sz - 1) = Z at *
      obtain ⟨G, D, hG, hX⟩ := hg.dv
      go_wp2_with fail
      refine (wkflush_ok D hg.wk (hX wb (Or.inl rfl)) hla (by omega)).mono ?_
      rintro e w6 ⟨rfl, q6⟩
      obtain ⟨h6, _⟩ := hg.wrt hG hX q6
      have hl6 : Lasts (flushed (burnt Z)) 2 := hla.burnt.flushed
      clear hg q6 D hX hG G v0 v1 v2 hz
      generalize flushed (burnt Z) = Z6 at *
      have v1 := rg w6 h6.tr 1 _ y1
      go_wp2_with fail
      go_region_held3 (fun w' => w'.cell? ⟨w.heap.size, 1, none⟩ = some (.int .i64 st))
        (first | exact v1 | exact v7 | exact v8)
        (first
          | (go_at_call 99; refine (headBlock_any 1 0 _).mono ?_; rintro e w7 ⟨g7, rfl, l7, b7, q7⟩; have q7 := Below.fromDrew q7; have h7 := (h6.add q7).less (Y := fun i => i = wb ∨ i = g7) (fun i hi => hi.elim (fun r => Or.inl (Or.inl r)) (fun r => Or.inr (by have := heap_lt b7; have l7' : w6.heap.size ≤ g7 := l7; omega))) (Or.inl rfl); obtain ⟨G, D, hG, hX⟩ := h7.dv; have v7 := rg w7 h7.tr 1 _ y1)
          | (go_at_call 96; refine (wkwrite_ok D h7.wk (hX wb (Or.inl rfl)) hl6 st (by omega) (some ⟨g7, 0, none⟩) 512 _ (Lies.full b7 (jheadB_len 1 0)) (jheadB_by 1 0) (fun ad e => by cases e; exact hX g7 (Or.inr rfl)) (by omega)).mono ?_; rintro e w8 ⟨rfl, q8⟩; obtain ⟨h8, _⟩ := h7.wrt hG hX q8; have v8 := rg w8 h8.tr 1 _ y1))
      have hl8 : Lasts (wrote (burnt Z6) st (jheadB 1 0)) 1 := hl6.burnt.wrote _ _
      clear h7 q8 D hX hG b7 h6 v7 v8
      generalize wrote (burnt Z6) st (jheadB 1 0) = Z8 at *
      obtain ⟨G, D, hG, hX⟩ := h8.dv
      go_wp2_with fail
      refine (wkflush_ok D h8.wk (hX wb (Or.inl rfl)) hl8 (by omega)).mono ?_
      rintro e w9 ⟨rfl, q9⟩
      obtain ⟨h9, _⟩ := h8.wrt hG hX q9
      have c0 := h9.wk.c0
      have c1 := h9.wk.c1
      clear h8 q9 D hX hG G
      go_wp2_with fail
      refine (codeOf_nil _).mono ?_
      rintro e wA ⟨rfl, bA⟩
      have hA := (h9.below bA).dev hF1
      clear h9 c0 c1 bA
      go_wp2
      go_ret
      refine ⟨rfl, ?_, HT1.out.trans hA.2 (fun _ _ h => h)⟩
      rw [HSZ.out]
      have hD2 := hA.1.more (M := N + sz) (by omega)
      exact hD2.foot (fun i hi => hi.imp id (fun r => ⟨by omega, r.2⟩)) (fun i hi => hi.elim (fun r => by have := hF i r; have := hA.2.size; omega) (fun r => r.2))
end Go.Proofs.YtfmcbjlagdanjaaGreatDoor

/- A map from blocks to their bytes, as a rising list. -/
namespace Go.Proofs.YtfmcbjlagdanjaaGreatDoor
open Go.RowKit Go.Maps
set_option maxRecDepth 100000

/-- The datum of a map. -/
def mD (m : List (Nat × Nat)) : DataW Value := .map (m.map fun p => (.int .i64 p.1, .held (hv p.2)))
def Rising (m : List (Nat × Nat)) : Prop := m.Pairwise (fun p q => p.1 < q.1)
/-- What the map has at a block. -/
def lk : List (Nat × Nat) → Nat → Option Nat
  | [], _ => none
  | p :: r, b => if p.1 = b then some p.2 else lk r b
theorem lk_cons (p : Nat × Nat) (r : List (Nat × Nat)) (b : Nat) : lk (p :: r) b = if p.1 = b then some p.2 else lk r b := rfl
/-- The map with one more entry. -/
def mput : List (Nat × Nat) → Nat → Nat → List (Nat × Nat)
  | [], b, g => [(b, g)]
  | p :: r, b, g => if b < p.1 then (b, g) :: p :: r else if b = p.1 then (b, g) :: r else p :: mput r b g
theorem mput_mem : ∀ {m : List (Nat × Nat)} {b g : Nat} {p : Nat × Nat}, p ∈ mput m b g → p = (b, g) ∨ p ∈ m
  | [], b, g, p, h => by simp [mput] at h; exact Or.inl h
  | q :: r, b, g, p, h => by
    unfold mput at h
    split at h
    · rcases List.mem_cons.1 h with h | h
      · exact Or.inl h
      · exact Or.inr h
    · split at h
      · rcases List.mem_cons.1 h with h | h
        · exact Or.inl h
        · exact Or.inr (List.mem_cons_of_mem _ h)
      · rcases List.mem_cons.1 h with h | h
        · exact Or.inr (by rw [h]; simp)
        · rcases mput_mem h with h | h
          · exact Or.inl h
          · exact Or.inr (List.mem_cons_of_mem _ h)
theorem mput_rising : ∀ {m : List (Nat × Nat)} (b g : Nat), Rising m → Rising (mput m b g)
  | [], b, g, _ => by simp [mput, Rising]
  | q :: r, b, g, h => by
    obtain ⟨h1, h2⟩ := List.pairwise_cons.1 h
    unfold mput
    split
    · refine List.pairwise_cons.2 ⟨fun p hp => ?_, h⟩
      rcases List.mem_cons.1 hp with rfl | hp
      · assumption
      · have := h1 p hp; omega
    · split
      · rename_i hb
        exact List.pairwise_cons.2 ⟨fun p hp => by have := h1 p hp; simp only; omega, h2⟩
      · refine List.pairwise_cons.2 ⟨fun p hp => ?_, mput_rising b g h2⟩
        rcases mput_mem hp with rfl | hp
        · simp only; omega
        · exact h1 p hp
theorem lk_mput : ∀ (m : List (Nat × Nat)) (b g x : Nat), Rising m → lk (mput m b g) x = if b = x then some g else lk m x
  | [], b, g, x, _ => by simp [mput, lk]
  | q :: r, b, g, x, h => by
    obtain ⟨h1, h2⟩ := List.pairwise_cons.1 h
    unfold mput
    split
    · simp [lk]
    · split
      · rename_i h3 h4
        subst h4
        by_cases e : q.1 = x
        · simp [lk, e]
        · simp [lk, e]
      · rename_i h3 h4
        have ih := lk_mput r b g x h2
        by_cases e : q.1 = x
        · have : ¬ b = x := by omega
          simp [lk, e, this]
        · simp [lk, e, ih]
theorem lk_none {m : List (Nat × Nat)} {b : Nat} (h : ∀ p ∈ m, p.1 ≠ b) : lk m b = none := by
  induction m with
  | nil => rfl
  | cons q r ih => unfold lk; rw [if_neg (h q (by simp))]; exact ih (fun p hp => h p (by simp [hp]))
theorem lk_mem {m : List (Nat × Nat)} (hr : Rising m) {p : Nat × Nat} (h : p ∈ m) : lk m p.1 = some p.2 := by
  induction m with
  | nil => cases h
  | cons q r ih =>
    obtain ⟨h1, h2⟩ := List.pairwise_cons.1 hr
    unfold lk
    rcases List.mem_cons.1 h with rfl | h
    · rw [if_pos rfl]
    · rw [if_neg (by have := h1 p h; omega)]; exact ih h2 h
theorem mem_lk {m : List (Nat × Nat)} {b g : Nat} (h : lk m b = some g) : (b, g) ∈ m := by
  induction m with
  | nil => cases h
  | cons q r ih =>
    unfold lk at h
    split at h
    · rename_i e; cases h; subst e; simp
    · exact List.mem_cons_of_mem _ (ih h)
theorem mD_canon {m : List (Nat × Nat)} (h : Rising m) : Canon (mD m) := by
  refine ⟨_, rfl, ?_, ?_⟩
  · rw [List.pairwise_map]
    exact h.imp (fun {p q} hpq => by simp [Lit.before]; omega)
  · intro p hp
    obtain ⟨q, _, rfl⟩ := List.mem_map.1 hp
    exact trivial
theorem mD_has (m : List (Nat × Nat)) (k : Lit) : has (mD m) k = m.any (fun p => (Lit.int .i64 p.1).sameKey k) := by
  simp [mD, has_eq, List.any_map, Function.comp_def]
theorem mD_has_int (m : List (Nat × Nat)) (b : Nat) : has (mD m) (.int .i64 b) = (lk m b).isSome := by
  rw [mD_has]
  induction m with
  | nil => rfl
  | cons q r ih =>
    rw [List.any_cons, ih, lk_cons]
    by_cases e : q.1 = b
    · rw [if_pos e]; simp [Lit.sameKey, e]
    · rw [if_neg e]
      have : ¬ (q.1 : Int) = b := by omega
      simp [Lit.sameKey, this]
theorem mD_at (m : List (Nat × Nat)) (b : Nat) (z : DataW Value) : (mD m).atKey (.int .i64 b) z = ((lk m b).map (fun g => DataW.held (hv g))).getD z := by
  induction m with
  | nil => rfl
  | cons q r ih =>
    rw [lk_cons]
    by_cases e : q.1 = b
    · rw [if_pos e]
      simp [mD, DataW.atKey, Lit.sameKey, e]
    · rw [if_neg e, ← ih]
      have : ¬ (q.1 : Int) = b := by omega
      simp [mD, DataW.atKey, Lit.sameKey, this]
theorem key_int (b : Nat) : WideAt.IsKeyLit (Lit.int .i64 (b : Int)) := trivial
theorem mD_put {m : List (Nat × Nat)} (hr : Rising m) (b g : Nat) (hc : Canon ((mD m).put (.int .i64 b) (.held (hv g)))) : (mD m).put (.int .i64 b) (.held (hv g)) = mD (mput m b g) := by
  have hM : IsMap (mD m) := ⟨_, rfl⟩
  have hr2 := mput_rising b g hr
  have other : ∀ k : Lit, k ≠ .int .i64 b → has (mD (mput m b g)) k = has (mD m) k := fun k hk => by
    rw [Bool.eq_iff_iff, mD_has, mD_has, List.any_eq_true, List.any_eq_true]
    constructor
    · rintro ⟨p, hp, hs⟩
      rcases mput_mem hp with rfl | hp
      · exact absurd hs (by rw [sameKey_ne (fun e => hk e.symm)]; decide)
      · exact ⟨p, hp, hs⟩
    · rintro ⟨p, hp, hs⟩
      have : lk (mput m b g) p.1 = some p.2 := by
        rw [lk_mput m b g p.1 hr, lk_mem hr hp]
        rw [if_neg (fun e => ?_)]
        subst e
        exact absurd hs (by rw [sameKey_ne (fun e => hk e.symm)]; decide)
      exact ⟨_, mem_lk this, hs⟩
  refine Maps.ext hc (mD_canon hr2) (fun k => ?_) (fun k z hk => ?_)
  · by_cases e : k = .int .i64 b
    · subst e
      rw [has_put_same hM (key_int b), mD_has_int, lk_mput m b g b hr, if_pos rfl]; rfl
    · rw [has_put_other e, other k e]
  · by_cases e : k = .int .i64 b
    · subst e
      rw [atKey_put_same hM (key_int b), mD_at, lk_mput m b g b hr, if_pos rfl]; rfl
    · rw [atKey_put_other e]
      rw [has_put_other e, mD_has, List.any_eq_true] at hk
      obtain ⟨p, hp, hs⟩ := hk
      have hkk : k = .int .i64 p.1 := by
        rcases k with _ | ⟨q, x⟩ | _ <;> simp [Lit.sameKey] at hs
        obtain ⟨rfl, rfl⟩ := hs; rfl
      subst hkk
      have hpb : ¬ b = p.1 := fun h => e (by rw [h])
      rw [mD_at, mD_at, lk_mput m b g p.1 hr, if_neg hpb]
/-- A map in memory. -/
structure Mp (w : World) (bm n : Nat) (m : List (Nat × Nat)) : Prop where
  own : w.ownsMap Tryz.prog 3 RV bm n (mD m)
  ris : Rising m
theorem Mp.turns {F : Nat → Prop} {w w' : World} {bm n : Nat} {m : List (Nat × Nat)} (h : Mp w bm n m) (t : Turns F w w') (hF : ¬ F bm) : Mp w' bm n m := ⟨map_turns h.own t hF, h.ris⟩
theorem Mp.len {w : World} {bm n : Nat} {m : List (Nat × Nat)} (h : Mp w bm n m) : m.length ≤ n := by
  have := h.own.size_le
  simpa [mD, Maps.size_eq] using this
theorem Mp.lt {w : World} {bm n : Nat} {m : List (Nat × Nat)} (h : Mp w bm n m) : bm < w.heap.size := h.own.lt
end Go.Proofs.YtfmcbjlagdanjaaGreatDoor
