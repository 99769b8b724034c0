/- The bytes of a superblock; block by its contract. -/
import Derived.Test.YtgpeefedboomoabDoorP4
import Derived.Test.YtgpeefedboomoabDoorFSum
import Derived.Test.YtgpeefedboomoabDoorSMore
import Derived.Lib.SmallJoins
import Derived.Laws.CopyOwn
import Derived.Deep.OwnRows
namespace Go.Proofs.YtgpeefedboomoabDoor
open Go.RowKit
set_option maxRecDepth 100000

abbrev bl (bs : List Int) : Obj := .cells (bs.map (Value.int .u8)).toArray 5 (0, 0)
theorem lies_bl {w : World} {g : Nat} {bs : List Int} {n : Nat} (h : w.heap[g]? = some (bl bs)) (hn : bs.length = n) : Lies w (some ⟨g, 0, none⟩) n n bs := by
  refine ⟨hn, Nat.le_refl _, (fun h => by cases h), fun ad had t u hu => ?_⟩
  obtain rfl := Option.some.inj had
  rw [Addr.add_lit, Nat.zero_add]
  simp only [World.cell?, h]
  simpa using hu
theorem lies_mark (w : World) (l : List Int) (n : Nat) (hl : l.length = n) (C : Array Value) (hC : C = (l.map (Value.int .u8)).toArray) (fr : Nat × Nat) (g : Nat) (hg : g = w.heap.size) : Lies (w.alloc (.cells C 5 fr)) (some ⟨g, 0, none⟩) n n l := by
  subst hC
  refine ⟨hl, Nat.le_refl _, (fun h => by cases h), fun ad had t u hu => ?_⟩
  obtain rfl := Option.some.inj had
  rw [Addr.add_lit, Nat.zero_add, Go.Joins.cell_alloc_mark_at _ _ _ _ _ _ hg]
  simpa using hu
theorem made_row (w : World) (n : Nat) : (w.alloc (.cells (madeCells #[.int .u8 0] n) 5)).heap[w.heap.size]? = some (.cells (List.replicate n (Value.int .u8 0)).toArray 5 (0, 0)) := by
  have e : madeCells #[Value.int .u8 0] n = (List.replicate n (Value.int .u8 0)).toArray := by
    rw [← toList_madeCells_one]
  rw [e]
  exact heap_alloc_new w _

/-- The digits of numbers, four each. -/
def digs (l : List Int) : List Int := l.flatMap fun x => be x 4
theorem digs_length (l : List Int) : (digs l).length = 4 * l.length := by
  induction l with
  | nil => rfl
  | cons x l ih => simp only [digs, List.flatMap_cons, List.length_append, be_length, List.length_cons] at *; omega
theorem digs_snoc (l : List Int) (x : Int) : digs (l ++ [x]) = digs l ++ be x 4 := by simp [digs]
/-- What the sum is of. -/
def headB (s : Shp) : List Int := [65, 78, 88, 83] ++ digs s.nums
theorem headB_length (s : Shp) : (headB s).length = 36 := by
  simp only [headB, List.length_append, digs_length]
  rfl
/-- A superblock's sum. -/
def sumOf (l : List Int) : Int := S2.fwd 14695981039346656037 l
/-- A superblock. -/
def superB (s : Shp) : List Int := headB s ++ be (sumOf (headB s)) 8 ++ List.replicate 468 0
theorem superB_length (s : Shp) : (superB s).length = 512 := by
  simp only [superB, List.length_append, headB_length, be_length, List.length_replicate]
theorem be_by (X : Int) (k : Nat) : ∀ x ∈ be X k, 0 ≤ x ∧ x ≤ 255 := by
  induction k with
  | zero => intro x hx; simp [be] at hx
  | succ k ih =>
    intro x hx
    simp only [be, List.mem_cons] at hx
    rcases hx with rfl | hx
    · omega
    · exact ih x hx
theorem digs_by (l : List Int) : ∀ x ∈ digs l, 0 ≤ x ∧ x ≤ 255 := by
  intro x hx
  simp only [digs, List.mem_flatMap] at hx
  obtain ⟨y, _, hy⟩ := hx
  exact be_by y 4 x hy
theorem headB_by (s : Shp) : ∀ x ∈ headB s, 0 ≤ x ∧ x ≤ 255 := by
  intro x hx
  simp only [headB, List.mem_append] at hx
  rcases hx with hx | hx
  · simp at hx; omega
  · exact digs_by _ x hx
theorem superB_by (s : Shp) : ∀ x ∈ superB s, 0 ≤ x ∧ x ≤ 255 := by
  intro x hx
  simp only [superB, List.mem_append] at hx
  rcases hx with (hx | hx) | hx
  · exact headB_by s x hx
  · exact be_by _ 8 x hx
  · have := List.eq_of_mem_replicate hx; omega
theorem sumOf_u (l : List Int) : 0 ≤ sumOf l ∧ sumOf l ≤ 18446744073709551615 := by
  exact S2.U.fwd (h := 14695981039346656037) l ⟨by decide, by decide⟩
theorem nums_small {s : Shp} (h : InB s) (k : Nat) (hk : k < 8) : 0 ≤ s.nums.getD k 0 ∧ s.nums.getD k 0 ≤ 1000000 := by
  have := InK.of h k hk
  obtain rfl | rfl | rfl | rfl | rfl | rfl | rfl | rfl : k = 0 ∨ k = 1 ∨ k = 2 ∨ k = 3 ∨ k = 4 ∨ k = 5 ∨ k = 6 ∨ k = 7 := by omega
  all_goals
    simp only [bdl, List.getD_cons_succ, List.getD_cons_zero] at this
    omega
theorem u64_same (x : Int) (h0 : 0 ≤ x) (h1 : x ≤ 1000000) : IntKind.u64.wrap x = x := by
  simp [IntKind.wrap, IntKind.bits, IntKind.signed]; omega
theorem ix_nums (s : Shp) (k : Nat) (hk : k < 8) (w : World) : (Instr.index 76 (.agg #[.int .i64 s.cl, .int .i64 s.wi, .int .i64 s.pl, .int .i64 s.ca, .int .i64 s.ino, .int .i64 s.qu, .int .i64 s.da, .int .i64 s.jo]) (.int .i64 k)).run Tryd.prog w = .ok (.int .i64 (s.nums.getD k 0)) w := by
  obtain rfl | rfl | rfl | rfl | rfl | rfl | rfl | rfl : k = 0 ∨ k = 1 ∨ k = 2 ∨ k = 3 ∨ k = 4 ∨ k = 5 ∨ k = 6 ∨ k = 7 := by omega
  · exact ix_nu0 _ _ _ _ _ _ _ _ w
  · exact ix_nu1 _ _ _ _ _ _ _ _ w
  · exact ix_nu2 _ _ _ _ _ _ _ _ w
  · exact ix_nu3 _ _ _ _ _ _ _ _ w
  · exact ix_nu4 _ _ _ _ _ _ _ _ w
  · exact ix_nu5 _ _ _ _ _ _ _ _ w
  · exact ix_nu6 _ _ _ _ _ _ _ _ w
  · exact ix_nu7 _ _ _ _ _ _ _ _ w
theorem nums_take (s : Shp) (k : Nat) (hk : k < 8) : s.nums.take (k + 1) = s.nums.take k ++ [s.nums.getD k 0] := by
  obtain rfl | rfl | rfl | rfl | rfl | rfl | rfl | rfl : k = 0 ∨ k = 1 ∨ k = 2 ∨ k = 3 ∨ k = 4 ∨ k = 5 ∨ k = 6 ∨ k = 7 := by omega
  all_goals rfl

set_option maxHeartbeats 4000000 in
theorem block_any (s : Shp) (h : InB s) (w : World) :
    Calls Tryd.prog 24 #[shV s] w fun e w' => ∃ g, e = .returned (.slice (some ⟨g, 0, none⟩) 512 512) ∧ w.heap.size ≤ g ∧ w'.heap[g]? = some (bl (superB s)) ∧ Below w.heap.size w w' := by
  obtain ⟨i0, hi, hz0, hz1, hz2⟩ := info_parts Tryd.info5
  have hsz : (Tryd.prog.info? 5).map (·.size) = some 1 := by rw [hi]; simp [hz1]
  have hcc := Go.Joins.run_convert_bytes_const_at (P := Tryd.prog) (w.alloc (.cells #[.int .i64 s.cl, .int .i64 s.wi, .int .i64 s.pl, .int .i64 s.ca, .int .i64 s.ino, .int .i64 s.qu, .int .i64 s.da, .int .i64 s.jo] 33)) 26 5 #[.int .u8 65, .int .u8 78, .int .u8 88, .int .u8 83] 4 4 (w.heap.size + 1) (by simp) Tryd.underlying26 Tryd.underlying5
  have hB0 : ShBox ((w.alloc (.cells #[.int .i64 s.cl, .int .i64 s.wi, .int .i64 s.pl, .int .i64 s.ca, .int .i64 s.ino, .int .i64 s.qu, .int .i64 s.da, .int .i64 s.jo] 33)).alloc (.cells #[.int .u8 65, .int .u8 78, .int .u8 88, .int .u8 83] 5 (4, 5))) w.heap.size s := (ShBox.new w s).later (newBox _ _) (by simp)
  have hb0 : Below w.heap.size w ((w.alloc (.cells #[.int .i64 s.cl, .int .i64 s.wi, .int .i64 s.pl, .int .i64 s.ca, .int .i64 s.ino, .int .i64 s.qu, .int .i64 s.da, .int .i64 s.jo] 33)).alloc (.cells #[.int .u8 65, .int .u8 78, .int .u8 88, .int .u8 83] 5 (4, 5))) := (newBox w _).trans ((newBox _ _).mono (by simp))
  have hL0 : Lies ((w.alloc (.cells #[.int .i64 s.cl, .int .i64 s.wi, .int .i64 s.pl, .int .i64 s.ca, .int .i64 s.ino, .int .i64 s.qu, .int .i64 s.da, .int .i64 s.jo] 33)).alloc (.cells #[.int .u8 65, .int .u8 78, .int .u8 88, .int .u8 83] 5 (4, 5))) (some ⟨w.heap.size + 1, 0, none⟩) 4 4 [65, 78, 88, 83] := lies_mark (w.alloc (.cells #[.int .i64 s.cl, .int .i64 s.wi, .int .i64 s.pl, .int .i64 s.ca, .int .i64 s.ino, .int .i64 s.qu, .int .i64 s.da, .int .i64 s.jo] 33)) [65, 78, 88, 83] 4 rfl _ rfl (4, 5) (w.heap.size + 1) (by simp)
  obtain ⟨a0, a1, a2, a3, a4, a5, a6, a7⟩ := hB0
  go_enter Tryd.func24, Tryd.ntmps24
  go_wp2_with fail
  generalize ((w.alloc (.cells #[.int .i64 s.cl, .int .i64 s.wi, .int .i64 s.pl, .int .i64 s.ca, .int .i64 s.ino, .int .i64 s.qu, .int .i64 s.da, .int .i64 s.jo] 33)).alloc (.cells #[.int .u8 65, .int .u8 78, .int .u8 88, .int .u8 83] 5 (4, 5))) = w0 at *
  refine (numbers_any s _).mono ?_
  rintro e w1 ⟨rfl, hb1⟩
  have hq1 := hb0.trans (hb1.mono hb0.size)
  have hL1 := hL0.below hb1 (Nat.le_refl _)
  clear a0 a1 a2 a3 a4 a5 a6 a7 hb0 hb1 hL0 hcc
  go_wp2_with fail
  go_loopw [3, 11] (fun b v wr => ∃ (k g c : Nat), k ≤ 8 ∧ v = .int .i64 k ∧ b = .slice (some ⟨g, 0, none⟩) (4 + 4 * k) c ∧ Lies wr (some ⟨g, 0, none⟩) (4 + 4 * k) c ([65, 78, 88, 83] ++ digs (s.nums.take k)) ∧ Below w.heap.size w wr) (fun _ v _ => 8 - (intOf v).toNat)
  case atStart => exact ⟨0, _, _, by omega, rfl, rfl, hL1, hq1⟩
  case round =>
    clear hq1 hL1
    obtain ⟨k, g, c, hk, rfl, rfl, hL, hb⟩ := hrel
    by_cases hlt : k < 8
    · have hix := ix_nums s k hlt
      have hx := nums_small h k hlt
      have HT : Hid (s.nums.take (k + 1) = s.nums.take k ++ [s.nums.getD k 0]) := nums_take s k hlt
      generalize s.nums.getD k 0 = x at *
      go_wp2_with fail
      refine (put32_any (some ⟨g, 0, none⟩) (4 + 4 * k) c x _ _ (by omega) hL).mono ?_
      rintro e w2 ⟨g2, c2, rfl, ho, hb2⟩
      have hL2 := Lies.own ho
      rw [u64_same x hx.1 hx.2, List.append_assoc, ← digs_snoc, ← HT.out] at hL2
      have hq2 := hb.trans (hb2.mono hb.size)
      clear hL hb hix ho hb2
      go_wp2_with fail
      go_roundw
      case rel => exact ⟨k + 1, g2, c2, by omega, by go_num, rfl, hL2, hq2⟩
      case measure => simp [intOf]; omega
    · obtain rfl : k = 8 := by omega
      have e8 : s.nums.take 8 = s.nums := rfl
      rw [e8] at hL
      change Lies wr (some ⟨g, 0, none⟩) 36 c (headB s) at hL
      have hlen := hL.hlen
      have hby := headB_by s
      go_wp2_with fail
      refine (S2.sum_any (some ⟨g, 0, none⟩) 36 c (headB s) _ (by omega) hL hby).mono ?_
      rintro e w2 ⟨rfl, hw2⟩
      subst w2
      have hsu : 0 ≤ S2.fwd 14695981039346656037 (headB s) ∧ S2.fwd 14695981039346656037 (headB s) ≤ 18446744073709551615 := sumOf_u (headB s)
      obtain ⟨S, hS⟩ : ∃ S, S2.fwd 14695981039346656037 (headB s) = S := ⟨_, rfl⟩
      rw [hS] at hsu
      simp only [hS]
      have HS : Hid (sumOf (headB s) = S) := hS
      clear hS
      go_wp2_with fail
      refine (putSum_any (some ⟨g, 0, none⟩) 36 c S (headB s) _ hsu.1 hsu.2 (by omega) hL).mono ?_
      rintro e w3 ⟨g3, c3, rfl, ho3, hb3⟩
      have hL3 := Lies.own ho3
      have hq3 := hb.trans (hb3.mono hb.size)
      clear hL hb ho3 hb3 h
      have hL4 : Lies (w3.alloc (.cells (madeCells #[.int .u8 0] 512) 5)) (some ⟨g3, 0, none⟩) 44 c3 (headB s ++ be S 8) := hL3.below (newBox w3 _) (Nat.le_refl _)
      have hrow := made_row w3 512
      have hbel := newBox w3 (.cells (madeCells #[.int .u8 0] 512) 5)
      have hlen4 : (headB s ++ be S 8).length = 44 := hL3.hlen
      go_wp2_with (first
        | (at_make; (refine wpList_make_row _ rfl _ _ 26 rfl 5 i0 (.int .u8 0) Tryd.underlying26 hi hz0 hz1 rfl _ _ 512 rfl rfl (by rw [hz2]; omega) (by omega) ?_))
        | (refine wpList_copy_splice rfl _ _ 26 26 rfl 5 Tryd.underlying26 hsz _ _ _ _ _ _ rfl rfl w3.heap.size 0 (List.replicate 512 (Value.int .u8 0)) 5 hrow ((headB s ++ be S 8).map (Value.int .u8)) (by rw [List.length_map, hlen4]; rfl) (fun _ => ⟨rfl, _, rfl, hL4.hcells _ rfl⟩) (by rw [List.length_map, hlen4, List.length_replicate]; omega) (ints_oneCell _ _) w3.heap.size w3 hbel (Nat.le_refl _) ?_; intro w5 HG5 hB5))
      go_ret
      refine ⟨w3.heap.size, rfl, hq3.size, ?_, hq3.trans (hB5.mono hq3.size)⟩
      rw [HG5.out, superB, HS.out]
      congr 3
end Go.Proofs.YtgpeefedboomoabDoor
