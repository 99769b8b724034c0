/- annexref.Ints, copied, annexref.SameInts, place by their contracts. -/
import Derived.Test.YtnmdnglbpkpfdaaGreatDoorPk13
namespace Go.Proofs.YtnmdnglbpkpfdaaGreatDoor
open Go.RowKit Go.Maps
set_option maxRecDepth 100000

theorem row_nat {w : World} {base e n : Nat} {v : Value} {xs : List Value} (h : w.ownsRow base e 1 v n xs) : (v = .slice none 0 0 ∧ n = 0) ∨ ∃ g cap, v = .slice (some ⟨g, 0, none⟩) n cap ∧ ∀ t, t < n → w.cell? ⟨g, 0 + t, none⟩ = xs[t]? := by
  rcases h.2 with ⟨hv, hn⟩ | ⟨g, cap, cur, hv, _⟩
  · exact Or.inl ⟨hv, hn⟩
  · refine Or.inr ⟨g, cap, hv, fun t ht => ?_⟩
    subst hv
    rw [Nat.zero_add, h.cellAt t (by omega)]
set_option maxHeartbeats 400000 in
theorem ints7_pos (b o cap n : Nat) (l : List Nat) (w : World) (hn : n ≤ 1000) (hl : l.length = n)
    (hc : ∀ t, t < n → w.cell? ⟨b, o + t, none⟩ = some (.int .i64 ((l.getD t 0) : Nat))) :
    Calls Tryz.prog 31 #[.slice (some ⟨b, o, none⟩) n cap] w fun e w' => ∃ v, e = .returned v ∧ w'.ownsRow w.heap.size 3 1 v n (l.map fun x => .int .i64 (x : Nat)) ∧ Below w.heap.size w w' := by
  obtain ⟨i0, hi, hz0, hz1, hz2⟩ := info_parts Tryz.info3
  have hni : (n : Int) ≤ 1000 := by omega
  go_enter Tryz.func31, Tryz.ntmps31
  go_wp2
  go_loopw [3, 4] (fun v i wr => ∃ k : Nat, k ≤ n ∧ i = .int .i64 k ∧ wr.ownsRow w.heap.size 3 1 v k ((l.take k).map fun x => .int .i64 (x : Nat)) ∧ Below w.heap.size w wr) (fun _ i _ => n - (intOf i).toNat)
  case atStart => exact ⟨0, Nat.zero_le _, rfl, World.ownsRow_nil _ _ _ _, Below.refl _ _⟩
  case round =>
    obtain ⟨k, hk, rfl, hown, hb⟩ := hrel
    by_cases hlt : k < n
    · have hck := cell_later hb (hc k hlt)
      have hst : l.take (k + 1) = l.take k ++ [l.getD k 0] := by
        rw [List.take_succ_eq_append_getElem (by omega)]
        simp [List.getD, show k < l.length by omega]
      have HS : Hid (l.take (k + 1) = l.take k ++ [l.getD k 0]) := hst
      clear hst hc
      generalize l.getD k 0 = C at *
      go_wp2_with (at_builtin; refine wpList_append_own _ rfl (.tmp 11) (.tmp 16) 40 rfl w.heap.size 3 i0 (.int .i64 0) 1 8 Tryz.underlying40 hi hz0 hz1 hz2 rfl (by decide) _ _ _ rfl (hown.alloc _) ⟨wr.heap.size, 0, none⟩ 1 1 [.int .i64 (C : Nat)] rfl rfl (cell_one7 _ _ _) (by intro u hu; simp at hu; subst hu; rfl) (by unfold maxLen; omega) (by omega) (by have := hb.size; simp; omega) ?_; intro v' w1 hown1 hgrow1 hnil1)
      go_roundw
      case rel =>
        refine ⟨k + 1, by omega, by go_num, ?_, ?_⟩
        · rw [HS.out]; simpa using hown1
        · exact (hb.alloc hb.size _).grown hgrow1 (by simp; have := hb.size; omega) (fun k hk => (hown.lt k hk).1)
      case measure => simp [intOf]; omega
    · clear hc
      go_wp2
      go_ret
      obtain rfl : k = n := by omega
      refine ⟨_, rfl, ?_, hb⟩
      rw [List.take_of_length_le (by omega)] at hown
      exact hown
set_option maxHeartbeats 400000 in
theorem ints7_zero (ao : Option Addr) (cap : Nat) (w : World) :
    Calls Tryz.prog 31 #[.slice ao 0 cap] w fun e w' => e = .returned (.slice none 0 0) ∧ w' = w := by
  go_enter Tryz.func31, Tryz.ntmps31
  go_wp2
  refine wp_loop_rounds 1 ?_
  rw [rounds_succ]
  go_wp2
  go_ret
  exact ⟨rfl, rfl⟩
set_option maxHeartbeats 400000 in
theorem copied7_pos (b o cap n : Nat) (l : List It) (w : World) (hn : n ≤ 1000) (hl : l.length = n)
    (hc : ∀ t, t < n → w.cell? ⟨b, o + t, none⟩ = some (.slice (some ⟨(l.getD t ⟨0, 0, []⟩).g, 0, none⟩) 512 (l.getD t ⟨0, 0, []⟩).cap)) :
    Calls Tryz.prog 25 #[.slice (some ⟨b, o, none⟩) n cap] w fun e w' => ∃ v, e = .returned v ∧ w'.ownsRow w.heap.size 56 1 v n (l.map fun x => .slice (some ⟨x.g, 0, none⟩) 512 x.cap) ∧ Below w.heap.size w w' := by
  obtain ⟨i0, hi, hz0, hz1, hz2⟩ := info_parts Tryz.infoS7
  have hni : (n : Int) ≤ 1000 := by omega
  go_enter Tryz.func25, Tryz.ntmps25
  go_wp2
  go_loopw [3, 4] (fun v i wr => ∃ k : Nat, k ≤ n ∧ i = .int .i64 k ∧ wr.ownsRow w.heap.size 56 1 v k ((l.take k).map fun x => .slice (some ⟨x.g, 0, none⟩) 512 x.cap) ∧ Below w.heap.size w wr) (fun _ i _ => n - (intOf i).toNat)
  case atStart => exact ⟨0, Nat.zero_le _, rfl, World.ownsRow_nil _ _ _ _, Below.refl _ _⟩
  case round =>
    obtain ⟨k, hk, rfl, hown, hb⟩ := hrel
    by_cases hlt : k < n
    · have hck := cell_later hb (hc k hlt)
      have hst : l.take (k + 1) = l.take k ++ [l.getD k ⟨0, 0, []⟩] := by
        rw [List.take_succ_eq_append_getElem (by omega)]
        simp [List.getD, show k < l.length by omega]
      have HS : Hid (l.take (k + 1) = l.take k ++ [l.getD k ⟨0, 0, []⟩]) := hst
      clear hst hc
      generalize l.getD k ⟨0, 0, []⟩ = C at *
      go_wp2_with (at_builtin; refine wpList_append_own _ rfl (.tmp 11) (.tmp 16) 33 rfl w.heap.size 56 i0 (.slice none 0 0) 1 24 Tryz.underlying33 hi hz0 hz1 hz2 rfl (by decide) _ _ _ rfl (hown.alloc _) ⟨wr.heap.size, 0, none⟩ 1 1 [.slice (some ⟨C.g, 0, none⟩) 512 C.cap] rfl rfl (cell_one7 _ _ _) (by intro u hu; simp at hu; subst hu; rfl) (by unfold maxLen; omega) (by omega) (by have := hb.size; simp; omega) ?_; intro v' w1 hown1 hgrow1 hnil1)
      go_roundw
      case rel =>
        refine ⟨k + 1, by omega, by go_num, ?_, ?_⟩
        · rw [HS.out]; simpa using hown1
        · exact (hb.alloc hb.size _).grown hgrow1 (by simp; have := hb.size; omega) (fun k hk => (hown.lt k hk).1)
      case measure => simp [intOf]; omega
    · clear hc
      go_wp2
      go_ret
      obtain rfl : k = n := by omega
      refine ⟨_, rfl, ?_, hb⟩
      rw [List.take_of_length_le (by omega)] at hown
      exact hown
set_option maxHeartbeats 400000 in
theorem copied7_zero (ao : Option Addr) (cap : Nat) (w : World) :
    Calls Tryz.prog 25 #[.slice ao 0 cap] w fun e w' => e = .returned (.slice none 0 0) ∧ w' = w := by
  go_enter Tryz.func25, Tryz.ntmps25
  go_wp2
  refine wp_loop_rounds 1 ?_
  rw [rounds_succ]
  go_wp2
  go_ret
  exact ⟨rfl, rfl⟩
/-- Ints: a new row of the same numbers. -/
theorem ints7 {w : World} {G : Nat → Prop} {v : Value} {l : List Nat} (h : Ns w G v l) (hn : l.length ≤ 1000) (hG : ∀ i, G i → i < w.heap.size) :
    Calls Tryz.prog 31 #[v] w fun e w' => ∃ v', e = .returned v' ∧ Ns w' G v' l ∧ (∀ b, v'.ownBlock = some b → w.heap.size ≤ b) ∧ Below w.heap.size w w' := by
  rcases row_nat h.row with ⟨rfl, h0⟩ | ⟨g, cap, rfl, hc⟩
  · refine (ints7_zero none 0 w).mono ?_
    rintro e w' ⟨rfl, rfl⟩
    exact ⟨_, rfl, h, fun b hb => (by cases hb), Below.refl _ _⟩
  · refine (ints7_pos g 0 cap l.length l w hn rfl (fun t ht => by rw [hc t ht]; simp [List.getD, ht])).mono ?_
    rintro e w' ⟨v', rfl, ho, hb⟩
    exact ⟨v', rfl, ⟨own_zero ho, fun b hb r => by have := hG b r; have := (ho.lt b hb).1; omega⟩, fun b hb => (ho.lt b hb).1, hb⟩
/-- copied: a new row of the same lists. -/
theorem copied7 {w : World} {G : Nat → Prop} {v : Value} {l : List It} (h : Wt w G v l) (hn : l.length ≤ 1000) (hG : ∀ i, G i → i < w.heap.size) :
    Calls Tryz.prog 25 #[v] w fun e w' => ∃ v', e = .returned v' ∧ Wt w' G v' l ∧ (∀ b, v'.ownBlock = some b → w.heap.size ≤ b) ∧ Below w.heap.size w w' := by
  rcases row_nat h.row with ⟨rfl, h0⟩ | ⟨g, cap, rfl, hc⟩
  · refine (copied7_zero none 0 w).mono ?_
    rintro e w' ⟨rfl, rfl⟩
    exact ⟨_, rfl, h, fun b hb => (by cases hb), Below.refl _ _⟩
  · refine (copied7_pos g 0 cap l.length l w hn rfl (fun t ht => by rw [hc t ht]; simp [List.getD, ht, It.val])).mono ?_
    rintro e w' ⟨v', rfl, ho, hb⟩
    exact ⟨v', rfl, ⟨own_zero ho, fun b hb r => by { have := hG b r; have := (ho.lt b hb).1; omega }, fun x hx => (h.it x hx).kp (Kp.below hb)⟩, fun b hb => (ho.lt b hb).1, hb⟩
set_option maxHeartbeats 400000 in
theorem sameInts_pos (b1 o1 c1 b2 o2 c2 n : Nat) (l : List Nat) (w : World) (hn : n ≤ 1000) (hl : l.length = n)
    (ha : ∀ t, t < n → w.cell? ⟨b1, o1 + t, none⟩ = some (.int .i64 ((l.getD t 0) : Nat))) (hb : ∀ t, t < n → w.cell? ⟨b2, o2 + t, none⟩ = some (.int .i64 ((l.getD t 0) : Nat))) :
    Calls Tryz.prog 35 #[.slice (some ⟨b1, o1, none⟩) n c1, .slice (some ⟨b2, o2, none⟩) n c2] w fun e w' => e = .returned (.bool true) ∧ ∃ m, w' = w.drewN m := by
  have hni : (n : Int) ≤ 1000 := by omega
  go_enter Tryz.func35, Tryz.ntmps35
  go_wp2
  go_loopw [5] (fun i wr => ∃ k m : Nat, k ≤ n ∧ i = .int .i64 k ∧ wr = w.drewN m) (fun i _ => n - (intOf i).toNat)
  case atStart => exact ⟨0, 0, Nat.zero_le _, rfl, rfl⟩
  case round =>
    obtain ⟨k, m, hk, rfl, rfl⟩ := hrel
    by_cases hlt : k < n
    · have ga := ha k hlt
      have gb := hb k hlt
      clear ha hb
      generalize ((l.getD k 0 : Nat) : Int) = C at *
      go_wp2
      go_quiet (fail)
      go_wp2
      go_roundw
      case rel => exact ⟨k + 1, m + nq, by omega, by go_num, by first | rfl | simp⟩
      case measure => simp [intOf]; omega
    · clear ha hb
      go_wp2
      go_ret
      exact ⟨rfl, m, rfl⟩
set_option maxHeartbeats 400000 in
theorem sameInts_zero (ao bo : Option Addr) (c1 c2 : Nat) (w : World) :
    Calls Tryz.prog 35 #[.slice ao 0 c1, .slice bo 0 c2] w fun e w' => e = .returned (.bool true) ∧ ∃ m, w' = w.drewN m := by
  go_enter Tryz.func35, Tryz.ntmps35
  go_wp2
  refine wp_loop_rounds 1 ?_
  rw [rounds_succ]
  go_wp2
  go_ret
  exact ⟨rfl, 0, rfl⟩
/-- SameInts of twice the same numbers. -/
theorem sameInts7 {w : World} {G H : Nat → Prop} {v u : Value} {l : List Nat} (h : Ns w G v l) (k : Ns w H u l) (hn : l.length ≤ 1000) :
    Calls Tryz.prog 35 #[v, u] w fun e w' => e = .returned (.bool true) ∧ Below w.heap.size w w' := by
  have fin : ∀ (e : Ending) (w' : World), (e = .returned (.bool true) ∧ ∃ m, w' = w.drewN m) → (e = .returned (.bool true) ∧ Below w.heap.size w w') := by
    rintro e w' ⟨rfl, m, rfl⟩
    exact ⟨rfl, ⟨rfl, rfl, rfl, Nat.le_refl _, fun _ _ => rfl⟩⟩
  rcases row_nat h.row with ⟨rfl, h0⟩ | ⟨g, cap, rfl, hc⟩
  · rcases row_nat k.row with ⟨rfl, _⟩ | ⟨g', cap', rfl, hc'⟩
    · exact (sameInts_zero _ _ _ _ w).mono fin
    · rw [h0]; exact (sameInts_zero _ _ _ _ w).mono fin
  · rcases row_nat k.row with ⟨rfl, h0⟩ | ⟨g', cap', rfl, hc'⟩
    · rw [h0]; exact (sameInts_zero _ _ _ _ w).mono fin
    · exact (sameInts_pos g 0 cap g' 0 cap' l.length l w hn rfl (fun t ht => by rw [hc t ht]; simp [List.getD, ht]) (fun t ht => by rw [hc' t ht]; simp [List.getD, ht])).mono fin
end Go.Proofs.YtnmdnglbpkpfdaaGreatDoor

/- place and with by their contracts. -/
namespace Go.Proofs.YtnmdnglbpkpfdaaGreatDoor
open Go.RowKit Go.Maps
set_option maxRecDepth 100000

set_option maxHeartbeats 400000 in
theorem place7 {w : World} {G : Nat → Prop} {tw db : Nat} {ov wv : Value} {os : List Nat} {xs : List It} (h : Tn w G tw db ov wv os xs) (ho : os.length = 10) (b : Int) :
    Calls Tryz.prog 26 #[.pointer (some ⟨tw, 0, none⟩), .int .i64 b] w fun e w' => ∃ k : Nat, k < 10 ∧ e = .returned (.int .i64 k) ∧ w' = w := by
  have r := h.o.row
  rw [ho] at r
  obtain ⟨g, cap, rfl, _⟩ := (row_nat r).resolve_left (fun q => by cases q.2)
  have y3 : w.cell? ⟨tw, 3, none⟩ = some (.slice (some ⟨g, 0, none⟩) 10 cap) := by simp [World.cell?, h.box]
  have t1 : b.tmod 10 < 10 := Int.tmod_lt_of_pos b (by omega)
  have t2 : -10 < b.tmod 10 := Int.lt_tmod_of_pos b (by omega)
  clear r h ho
  go_enter Tryz.func26, Tryz.ntmps26
  go_wp2_with fail
  go_ret
  exact ⟨((b.tmod 10 + 10) % 10).toNat, by omega, by rw [Int.toNat_of_nonneg (by omega)]; rfl, rfl⟩
/-- A number laid into a rising list, as with does it. -/
def wStep (b : Nat) (s : Bool × List Nat) (x : Nat) : Bool × List Nat := if s.1 = true then (true, s.2 ++ [x]) else if x = b then (true, s.2 ++ [x]) else if b < x then (true, s.2 ++ [b, x]) else (false, s.2 ++ [x])
def withF (l : List Nat) (b : Nat) : List Nat := if (l.foldl (wStep b) (false, [])).1 = true then (l.foldl (wStep b) (false, [])).2 else (l.foldl (wStep b) (false, [])).2 ++ [b]
theorem wStep_done (b : Nat) : ∀ (l acc : List Nat), l.foldl (wStep b) (true, acc) = (true, acc ++ l)
  | [], acc => by simp
  | x :: l, acc => by
    rw [List.foldl_cons, show wStep b (true, acc) x = (true, acc ++ [x]) from by simp [wStep], wStep_done b l]
    simp
theorem with_put (b g : Nat) : ∀ (m : List (Nat × Nat)) (acc : List Nat), (if ((m.map (·.1)).foldl (wStep b) (false, acc)).1 = true then ((m.map (·.1)).foldl (wStep b) (false, acc)).2 else ((m.map (·.1)).foldl (wStep b) (false, acc)).2 ++ [b]) = acc ++ (mput m b g).map (·.1)
  | [], acc => by simp [mput]
  | p :: r, acc => by
    rw [List.map_cons, List.foldl_cons]
    unfold mput
    by_cases h1 : b < p.1
    · rw [show wStep b (false, acc) p.1 = (true, acc ++ [b, p.1]) from by simp [wStep, h1, show ¬ p.1 = b by omega], wStep_done, if_pos h1]
      simp
    · by_cases h2 : b = p.1
      · rw [show wStep b (false, acc) p.1 = (true, acc ++ [p.1]) from by simp [wStep, h2], wStep_done, if_neg h1, if_pos h2]
        simp [h2]
      · rw [show wStep b (false, acc) p.1 = (false, acc ++ [p.1]) from by simp [wStep, h1, show ¬ p.1 = b by omega], with_put b g r, if_neg h1, if_neg h2]
        simp
theorem withF_put (m : List (Nat × Nat)) (b g : Nat) : withF (m.map (·.1)) b = (mput m b g).map (·.1) := by
  have := with_put b g m []
  simpa [withF] using this
theorem Nat.i64_cases (d : Bool) (x b : Nat) : (d = true ∧ x < b) ∨ (d = true ∧ x = b) ∨ (d = true ∧ b < x) ∨ (d = false ∧ x < b) ∨ (d = false ∧ x = b) ∨ (d = false ∧ b < x) := by
  cases d <;> simp <;> omega
set_option maxHeartbeats 1000000 in
theorem with7_pos (g o cap n b : Nat) (l : List Nat) (w : World) (hn : n ≤ 1000) (hbb : b ≤ 1000) (hl : l.length = n) (hc : ∀ t, t < n → w.cell? ⟨g, o + t, none⟩ = some (.int .i64 ((l.getD t 0) : Nat))) :
    Calls Tryz.prog 29 #[.slice (some ⟨g, o, none⟩) n cap, .int .i64 (b : Nat)] w fun e w' => ∃ v, e = .returned v ∧ w'.ownsRow w.heap.size 3 1 v (withF l b).length ((withF l b).map fun x => .int .i64 (x : Nat)) ∧ Below w.heap.size w w' := by
  obtain ⟨i0, hi, hz0, hz1, hz2⟩ := info_parts Tryz.info3
  have hni : (n : Int) ≤ 1000 := by omega
  go_enter Tryz.func29, Tryz.ntmps29
  go_wp2
  go_loopw [5, 6, 7] (fun v d i wr => ∃ (k N : Nat) (dn : Bool) (ms : List Nat), k ≤ n ∧ d = .bool dn ∧ i = .int .i64 k ∧ N ≤ 2 * k ∧ (l.take k).foldl (wStep b) (false, []) = (dn, ms) ∧ wr.ownsRow w.heap.size 3 1 v N (ms.map fun x => .int .i64 (x : Nat)) ∧ Below w.heap.size w wr) (fun _ _ i _ => n - (intOf i).toNat)
  case atStart => exact ⟨0, 0, false, [], Nat.zero_le _, rfl, rfl, by omega, rfl, World.ownsRow_nil _ _ _ _, Below.refl _ _⟩
  case round =>
    obtain ⟨k, N, dn, ms, hk, rfl, rfl, hN, hf, hown, hb⟩ := hrel
    have hbs := hb.size
    by_cases hlt : k < n
    · have hc0 := hc k hlt
      have hck := cell_later hb hc0
      have HS : Hid ((l.take (k + 1)).foldl (wStep b) (false, []) = wStep b (dn, ms) (l.getD k 0)) := by
        show (l.take (k + 1)).foldl (wStep b) (false, []) = wStep b (dn, ms) (l.getD k 0)
        rw [show l.take (k + 1) = l.take k ++ [l.getD k 0] from by
          rw [List.take_succ_eq_append_getElem (by omega)]
          simp [List.getD, show k < l.length by omega], List.foldl_append, hf]
        rfl
      clear hc hf
      generalize l.getD k 0 = C at *
      rcases Nat.i64_cases dn C b with hcase | hcase | hcase | hcase | hcase | hcase
      · obtain ⟨rfl, hcb⟩ := hcase
        have c1 : ((C : Nat) : Int) ≠ (b : Nat) := by omega
        have c2 : ¬ ((b : Nat) : Int) < (C : Nat) := by omega
        have c1n : Hid (¬ C = b) := (by omega : ¬ C = b)
        have c2n : Hid (¬ b < C) := (by omega : ¬ b < C)
        go_wp2_with (at_builtin; refine wpList_append_own _ rfl _ _ 40 rfl w.heap.size 3 i0 (.int .i64 0) 1 8 Tryz.underlying40 hi hz0 hz1 hz2 rfl (by decide) _ N _ rfl (hown.alloc _) ⟨wr.heap.size, 0, none⟩ 1 1 [.int .i64 (C : Nat)] rfl rfl (cell_one7 _ _ _) (by intro u hu; simp at hu; subst hu; rfl) (by unfold maxLen; omega) (by omega) (by simp; omega) ?_; intro v' w1 hown1 hgrow1 _)
        go_roundw
        case rel =>
          refine ⟨k + 1, N + 1, true, ms ++ [C], by omega, rfl, by go_num, by omega, ?_, ?_, ?_⟩
          · rw [HS.out]; simp [wStep]
          · simpa using hown1
          · exact (hb.alloc hb.size _).grown hgrow1 (by simp; omega) (fun k hk => (hown.lt k hk).1)
        case measure => simp [intOf]; omega
      · obtain ⟨rfl, rfl⟩ := hcase
        have c2 : ¬ ((C : Nat) : Int) < (C : Nat) := by omega
        go_wp2_with (at_builtin; refine wpList_append_own _ rfl _ _ 40 rfl w.heap.size 3 i0 (.int .i64 0) 1 8 Tryz.underlying40 hi hz0 hz1 hz2 rfl (by decide) _ N _ rfl (hown.alloc _) ⟨wr.heap.size, 0, none⟩ 1 1 [.int .i64 (C : Nat)] rfl rfl (cell_one7 _ _ _) (by intro u hu; simp at hu; subst hu; rfl) (by unfold maxLen; omega) (by omega) (by simp; omega) ?_; intro v' w1 hown1 hgrow1 _)
        go_roundw
        case rel =>
          refine ⟨k + 1, N + 1, true, ms ++ [C], by omega, rfl, by go_num, by omega, ?_, ?_, ?_⟩
          · rw [HS.out]; simp [wStep]
          · simpa using hown1
          · exact (hb.alloc hb.size _).grown hgrow1 (by simp; omega) (fun k hk => (hown.lt k hk).1)
        case measure => simp [intOf]; omega
      · obtain ⟨rfl, hcb⟩ := hcase
        have c1 : ((C : Nat) : Int) ≠ (b : Nat) := by omega
        have c2 : ((b : Nat) : Int) < (C : Nat) := by omega
        have c1n : Hid (¬ C = b) := (by omega : ¬ C = b)
        have c2n : Hid (b < C) := (by assumption : b < C)
        go_wp2_with (at_builtin; refine wpList_append_own _ rfl _ _ 40 rfl w.heap.size 3 i0 (.int .i64 0) 1 8 Tryz.underlying40 hi hz0 hz1 hz2 rfl (by decide) _ N _ rfl (hown.alloc _) ⟨wr.heap.size, 0, none⟩ 1 1 [.int .i64 (C : Nat)] rfl rfl (cell_one7 _ _ _) (by intro u hu; simp at hu; subst hu; rfl) (by unfold maxLen; omega) (by omega) (by simp; omega) ?_; intro v' w1 hown1 hgrow1 _)
        go_roundw
        case rel =>
          refine ⟨k + 1, N + 1, true, ms ++ [C], by omega, rfl, by go_num, by omega, ?_, ?_, ?_⟩
          · rw [HS.out]; simp [wStep]
          · simpa using hown1
          · exact (hb.alloc hb.size _).grown hgrow1 (by simp; omega) (fun k hk => (hown.lt k hk).1)
        case measure => simp [intOf]; omega
      · obtain ⟨rfl, hcb⟩ := hcase
        have c1 : ((C : Nat) : Int) ≠ (b : Nat) := by omega
        have c2 : ¬ ((b : Nat) : Int) < (C : Nat) := by omega
        have c1n : Hid (¬ C = b) := (by omega : ¬ C = b)
        have c2n : Hid (¬ b < C) := (by omega : ¬ b < C)
        go_wp2_with (at_builtin; refine wpList_append_own _ rfl _ _ 40 rfl w.heap.size 3 i0 (.int .i64 0) 1 8 Tryz.underlying40 hi hz0 hz1 hz2 rfl (by decide) _ N _ rfl (hown.alloc _) ⟨wr.heap.size, 0, none⟩ 1 1 [.int .i64 (C : Nat)] rfl rfl (cell_one7 _ _ _) (by intro u hu; simp at hu; subst hu; rfl) (by unfold maxLen; omega) (by omega) (by simp; omega) ?_; intro v' w1 hown1 hgrow1 _)
        go_roundw
        case rel =>
          refine ⟨k + 1, N + 1, false, ms ++ [C], by omega, rfl, by go_num, by omega, ?_, ?_, ?_⟩
          · rw [HS.out]; simp [wStep, c1n.out, c2n.out]
          · simpa using hown1
          · exact (hb.alloc hb.size _).grown hgrow1 (by simp; omega) (fun k hk => (hown.lt k hk).1)
        case measure => simp [intOf]; omega
      · obtain ⟨rfl, rfl⟩ := hcase
        have c2 : ¬ ((C : Nat) : Int) < (C : Nat) := by omega
        go_wp2_with (at_builtin; refine wpList_append_own _ rfl _ _ 40 rfl w.heap.size 3 i0 (.int .i64 0) 1 8 Tryz.underlying40 hi hz0 hz1 hz2 rfl (by decide) _ N _ rfl (hown.alloc _) ⟨wr.heap.size, 0, none⟩ 1 1 [.int .i64 (C : Nat)] rfl rfl (cell_one7 _ _ _) (by intro u hu; simp at hu; subst hu; rfl) (by unfold maxLen; omega) (by omega) (by simp; omega) ?_; intro v' w1 hown1 hgrow1 _)
        go_roundw
        case rel =>
          refine ⟨k + 1, N + 1, true, ms ++ [C], by omega, rfl, by go_num, by omega, ?_, ?_, ?_⟩
          · rw [HS.out]; simp [wStep]
          · simpa using hown1
          · exact (hb.alloc hb.size _).grown hgrow1 (by simp; omega) (fun k hk => (hown.lt k hk).1)
        case measure => simp [intOf]; omega
      · obtain ⟨rfl, hcb⟩ := hcase
        have c1 : ((C : Nat) : Int) ≠ (b : Nat) := by omega
        have c2 : ((b : Nat) : Int) < (C : Nat) := by omega
        have c1n : Hid (¬ C = b) := (by omega : ¬ C = b)
        have c2n : Hid (b < C) := (by assumption : b < C)
        go_wp2_with (at_builtin; first | (refine wpList_append_own _ rfl _ _ 40 rfl w.heap.size 3 i0 (.int .i64 0) 1 8 Tryz.underlying40 hi hz0 hz1 hz2 rfl (by decide) _ N _ rfl (hown.alloc _) ⟨wr.heap.size, 0, none⟩ 1 1 [.int .i64 (b : Nat)] rfl rfl (cell_one7 _ _ _) (by intro u hu; simp at hu; subst hu; rfl) (by unfold maxLen; omega) (by omega) (by simp; omega) ?_; intro v' w1 hown1 hgrow1 _; have s1 := hgrow1.1; have hb1 := (hb.alloc hb.size _).grown hgrow1 (by simp; omega) (fun k hk => (hown.lt k hk).1); have hs1 := hb1.size; replace hck := cell_later hb1 hc0) | (refine wpList_append_own _ rfl _ _ 40 rfl w.heap.size 3 i0 (.int .i64 0) 1 8 Tryz.underlying40 hi hz0 hz1 hz2 rfl (by decide) _ (N + 1) _ rfl (hown1.alloc _) ⟨w1.heap.size, 0, none⟩ 1 1 [.int .i64 (C : Nat)] rfl rfl (cell_one7 _ _ _) (by intro u hu; simp at hu; subst hu; rfl) (by unfold maxLen; omega) (by omega) (by simp; omega) ?_; intro v2 w2 hown2 hgrow2 _))
        go_roundw
        case rel =>
          refine ⟨k + 1, N + 2, true, ms ++ [b, C], by omega, rfl, by go_num, by omega, ?_, ?_, ?_⟩
          · rw [HS.out]; simp [wStep, c2n.out, c1n.out]
          · simpa using hown2
          · exact (hb1.alloc hs1 _).grown hgrow2 (by simp; omega) (fun k hk => (hown1.lt k hk).1)
        case measure => simp [intOf]; omega
    · obtain rfl : k = n := by omega
      rw [List.take_of_length_le (by omega)] at hf
      have HF : Hid (withF l b = if dn = true then ms else ms ++ [b]) := by
        show withF l b = if dn = true then ms else ms ++ [b]
        unfold withF; rw [hf]
      have hlen : ms.length = N := by simpa using hown.1
      clear hc hf
      cases dn
      · go_wp2_with (at_builtin; refine wpList_append_own _ rfl _ _ 40 rfl w.heap.size 3 i0 (.int .i64 0) 1 8 Tryz.underlying40 hi hz0 hz1 hz2 rfl (by decide) _ N _ rfl (hown.alloc _) ⟨wr.heap.size, 0, none⟩ 1 1 [.int .i64 (b : Nat)] rfl rfl (cell_one7 _ _ _) (by intro u hu; simp at hu; subst hu; rfl) (by unfold maxLen; omega) (by omega) (by simp; omega) ?_; intro v' w1 hown1 hgrow1 _)
        go_ret
        refine ⟨_, rfl, ?_, (hb.alloc hb.size _).grown hgrow1 (by simp; omega) (fun k hk => (hown.lt k hk).1)⟩
        rw [HF.out]
        simpa [hlen] using hown1
      · go_wp2
        go_ret
        refine ⟨_, rfl, ?_, hb⟩
        have hm : withF l b = ms := by rw [HF.out]; rfl
        rw [hm, hlen]
        exact hown
set_option maxHeartbeats 400000 in
theorem with7_zero (ao : Option Addr) (cap b : Nat) (w : World) :
    Calls Tryz.prog 29 #[.slice ao 0 cap, .int .i64 (b : Nat)] w fun e w' => ∃ v, e = .returned v ∧ w'.ownsRow w.heap.size 3 1 v 1 [.int .i64 (b : Nat)] ∧ Below w.heap.size w w' := by
  obtain ⟨i0, hi, hz0, hz1, hz2⟩ := info_parts Tryz.info3
  go_enter Tryz.func29, Tryz.ntmps29
  go_wp2
  go_loopw [5, 6, 7] (fun v d i wr => d = .bool false ∧ i = .int .i64 0 ∧ wr.ownsRow w.heap.size 3 1 v 0 [] ∧ Below w.heap.size w wr) (fun _ _ _ _ => 0)
  case atStart => exact ⟨rfl, rfl, World.ownsRow_nil _ _ _ _, Below.refl _ _⟩
  case round =>
    obtain ⟨rfl, rfl, hown, hb⟩ := hrel
    have hbs := hb.size
    go_wp2_with (at_builtin; refine wpList_append_own _ rfl _ _ 40 rfl w.heap.size 3 i0 (.int .i64 0) 1 8 Tryz.underlying40 hi hz0 hz1 hz2 rfl (by decide) _ 0 _ rfl (hown.alloc _) ⟨wr.heap.size, 0, none⟩ 1 1 [.int .i64 (b : Nat)] rfl rfl (cell_one7 _ _ _) (by intro u hu; simp at hu; subst hu; rfl) (by unfold maxLen; omega) (by omega) (by simp; omega) ?_; intro v' w1 hown1 hgrow1 _)
    go_ret
    exact ⟨_, rfl, hown1, (hb.alloc hb.size _).grown hgrow1 (by simp; omega) (fun k hk => (hown.lt k hk).1)⟩
/-- with: a new row, the number in it. -/
theorem with7 {w : World} {G : Nat → Prop} {v : Value} {l : List Nat} (h : Ns w G v l) (hn : l.length ≤ 1000) (b : Nat) (hb : b ≤ 1000) (hG : ∀ i, G i → i < w.heap.size) :
    Calls Tryz.prog 29 #[v, .int .i64 (b : Nat)] w fun e w' => ∃ v', e = .returned v' ∧ Ns w' G v' (withF l b) ∧ (∀ b, v'.ownBlock = some b → w.heap.size ≤ b) ∧ Below w.heap.size w w' := by
  rcases row_nat h.row with ⟨rfl, h0⟩ | ⟨g, cap, rfl, hc⟩
  · obtain rfl := List.eq_nil_of_length_eq_zero h0
    refine (with7_zero none 0 b w).mono ?_
    rintro e w' ⟨v', rfl, ho, hb⟩
    exact ⟨v', rfl, ⟨own_zero ho, fun b hb r => by { have := hG b r; have := (ho.lt b hb).1; omega }⟩, fun b hb => (ho.lt b hb).1, hb⟩
  · refine (with7_pos g 0 cap l.length b l w hn hb rfl (fun t ht => by rw [hc t ht]; simp [List.getD, ht])).mono ?_
    rintro e w' ⟨v', rfl, ho, hb⟩
    exact ⟨v', rfl, ⟨own_zero ho, fun b hb r => by { have := hG b r; have := (ho.lt b hb).1; omega }⟩, fun b hb => (ho.lt b hb).1, hb⟩
end Go.Proofs.YtnmdnglbpkpfdaaGreatDoor

/- holds by its contract. -/
namespace Go.Proofs.YtnmdnglbpkpfdaaGreatDoor
open Go.RowKit Go.Maps
set_option maxRecDepth 100000

theorem outs_in {o : Nat} (h : o ∈ outs 40) : o < 40 ∧ (o < 2 ∨ 2 + 30 ≤ o) := by
  unfold outs outB7 at h
  simp at h
  omega
theorem outs_len : (outs 40).length = 10 := by rw [outs_40]; rfl
/-- Where a town's rows lie. -/
theorem Tn.form {w : World} {G : Nat → Prop} {tw db : Nat} {ov wv : Value} {xs : List It} (h : Tn w G tw db ov wv (outs 40) xs) (hx : xs.length = 10) : ∃ go co gw cw, ov = .slice (some ⟨go, 0, none⟩) 10 co ∧ wv = .slice (some ⟨gw, 0, none⟩) 10 cw := by
  have r1 := h.o.row
  rw [outs_len] at r1
  have r2 := h.x.row
  rw [hx] at r2
  obtain ⟨go, co, e1, _⟩ := (row_nat r1).resolve_left (fun q => by cases q.2)
  obtain ⟨gw, cw, e2, _⟩ := (row_nat r2).resolve_left (fun q => by cases q.2)
  exact ⟨go, co, gw, cw, e1, e2⟩
structure TnC (w : World) (tw go co gw cw k o : Nat) (x : It) : Prop where
  c3 : w.cell? ⟨tw, 3, none⟩ = some (.slice (some ⟨go, 0, none⟩) 10 co)
  c4 : w.cell? ⟨tw, 4, none⟩ = some (.slice (some ⟨gw, 0, none⟩) 10 cw)
  ck : w.cell? ⟨go, k, none⟩ = some (.int .i64 (o : Nat))
  cx : w.cell? ⟨gw, k, none⟩ = some (.slice (some ⟨x.g, 0, none⟩) 512 x.cap)
theorem Tn.cells {w : World} {G : Nat → Prop} {tw db go co gw cw k o : Nat} {x : It} {xs : List It} (h : Tn w G tw db (.slice (some ⟨go, 0, none⟩) 10 co) (.slice (some ⟨gw, 0, none⟩) 10 cw) (outs 40) xs) (hx : xs.length = 10) (hk : k < 10) (ho : (outs 40)[k]? = some o) (hxk : xs[k]? = some x) : TnC w tw go co gw cw k o x := by
  have r1 := h.o.row
  rw [outs_len] at r1
  have r2 := h.x.row
  rw [hx] at r2
  refine ⟨by simp [World.cell?, h.box], by simp [World.cell?, h.box], ?_, ?_⟩
  · rw [r1.cellAt k (by omega), List.getElem?_map, ho]; rfl
  · rw [r2.cellAt k (by omega), List.getElem?_map, hxk]; rfl
set_option maxHeartbeats 1000000 in
theorem holds7 {w : World} {S : DevS} {N : Nat} {G : Nat → Prop} {jb : Nat} {seq : Int} {place : Nat} {free : Int} {bm nd : Nat} {a : List (Nat × Nat)} {fa : Nat → List Int} {tw db : Nat} {ov wv : Value} {xs : List It} (h : Jn w db S 40 N G jb 2 30 seq place free bm nd a fa) (ho : S.off = false) (t : Tn w G tw db ov wv (outs 40) xs) (hx : xs.length = 10) (hxo : ∀ (k o : Nat) (x : It), (outs 40)[k]? = some o → xs[k]? = some x → x.bs = seesF S [] fa a fa o) {B : Nat} (hB : B ≤ w.heap.size) (hGB : ∀ i, G i → B ≤ i) (hjB : B ≤ jb) :
    Calls Tryz.prog 22 #[.pointer (some ⟨tw, 0, none⟩), .pointer (some ⟨jb, 0, none⟩)] w fun e w' => e = .returned (.bool true) ∧ Below B w w' := by
  obtain ⟨go, co, gw, cw, rfl, rfl⟩ := t.form hx
  go_enter Tryz.func22, Tryz.ntmps22
  go_wp2_with fail
  refine (Tx.begin h ho fa).mono ?_
  rintro e w1 ⟨tb, wm, rfl, l1, l2, X1, t1⟩
  have T1 := t.kp (Kp.turns t1 (fun x cs ty fz g hx ht e => e.elim g (jty_jb h.J hx ht)))
  have B1 : Below B w w1 := t1.below (fun i r => r.elim (hGB i) (fun e => by omega)) hB
  clear t1 t h
  go_wp2_with fail
  go_loopw [6] (fun i wr => ∃ k : Nat, k ≤ 10 ∧ i = .int .i64 k ∧ Tx wr db S 40 N G jb 2 30 seq place free bm nd a fa tb wm 0 [] fa (.slice none 0 0) 0 ∧ Tn wr G tw db (.slice (some ⟨go, 0, none⟩) 10 co) (.slice (some ⟨gw, 0, none⟩) 10 cw) (outs 40) xs ∧ Below B w wr) (fun i _ => 10 - (intOf i).toNat)
  case atStart => exact ⟨0, by omega, rfl, X1, T1, B1⟩
  case round =>
    clear X1 T1
    obtain ⟨k, hk, rfl, X, T, Br⟩ := hrel
    have sB := Br.size
    by_cases hlt : k < 10
    · obtain ⟨o, hok⟩ : ∃ o, (outs 40)[k]? = some o := ⟨_, List.getElem?_eq_getElem (by rw [outs_len]; exact hlt)⟩
      obtain ⟨x, hxk⟩ : ∃ x, xs[k]? = some x := ⟨_, List.getElem?_eq_getElem (by rw [hx]; exact hlt)⟩
      have HX : Hid (x.bs = seesF S [] fa a fa o) := hxo k o x hok hxk
      have HO : Hid (o < 40 ∧ (o < 2 ∨ 2 + 30 ≤ o)) := outs_in (List.mem_of_getElem? hok)
      obtain ⟨y3, _, yk, _⟩ := T.cells hx hlt hok hxk
      have hki : (k : Int) < 10 := by omega
      have hI := T.x.it x (List.mem_of_getElem? hxk)
      have hlen := hI.len
      go_wp2_with fail
      refine (Tx.read X ho (by omega) o HO.out.1 HO.out.2 (by rw [← HX.out]; exact hlen)).mono ?_
      rintro e w2 ⟨g2, rfl, lg2, h2, X2, t2⟩
      have T2 := T.kp (Kp.same t2)
      have B2 := Br.trans (t2.below hGB (by omega))
      have sB2 := B2.size
      obtain ⟨y3', y4, _, yx⟩ := T2.cells hx hlt hok hxk
      rw [← HX.out] at h2
      have Lx : Lies w2 (some ⟨x.g, 0, none⟩) 512 x.cap x.bs := (T2.x.it x (List.mem_of_getElem? hxk)).lies
      clear T X t2 y3 yk hI
      go_wp2_with fail
      refine (same7 (some ⟨g2, 0, none⟩) (some ⟨x.g, 0, none⟩) 512 x.cap x.bs w2 (Lies.full h2 hlen) Lx).mono ?_
      rintro e w3 ⟨rfl, b3⟩
      have X3 := X2.below b3
      have T3 := T2.kp (Kp.below b3)
      have B3 := B2.trans (b3.mono (by omega))
      clear X2 T2 b3 h2 Lx y3' y4 yx
      go_wp2_with (go_at_call 15; refine (num7 _ _).mono ?_; rintro e wn ⟨rfl, hwn⟩; subst wn)
      go_roundw
      case rel => exact ⟨k + 1, by omega, by simp, X3, T3, B3⟩
      case measure => simp [intOf]; omega
    · have y3 : wr.cell? ⟨tw, 3, none⟩ = some (.slice (some ⟨go, 0, none⟩) 10 co) := by simp [World.cell?, T.box]
      obtain rfl : k = 10 := by omega
      go_wp2_with fail
      refine (Tx.drop X).mono ?_
      rintro e w2 ⟨rfl, _, _, t2⟩
      have B2 := Br.trans (t2.below (fun i r => by rcases r with e | e <;> omega) (by omega))
      go_wp2_with fail
      go_ret
      exact ⟨rfl, B2⟩
end Go.Proofs.YtnmdnglbpkpfdaaGreatDoor

/- A device behind a commit, read outside the journal's region; Commit of any transaction on the new journal; open. -/
namespace Go.Proofs.YtnmdnglbpkpfdaaGreatDoor
open Go.RowKit Go.Maps
set_option maxRecDepth 100000

theorem Good.putL {S : DevS} {k : Nat} (h : Good S k) {st sz : Nat} (place i : Nat) {bs : List Int} (hs : 2 ≤ sz) (hst : st + sz ≤ k) (hl : bs.length = 512) (hy : ∀ x ∈ bs, 0 ≤ x ∧ x ≤ 255) : Good (putL S st sz place i bs) k := by
  have := Nat.mod_lt (place + i) (show 0 < sz - 1 by omega)
  exact h.burnt.wrote (by omega) hl hy
theorem rdB_putL (S : DevS) (st sz place i : Nat) (bs : List Int) (x : Nat) (hs : 2 ≤ sz) (hx : x < st ∨ st + sz ≤ x) : rdB (putL S st sz place i bs) x = rdB S x := by
  have := Nat.mod_lt (place + i) (show 0 < sz - 1 by omega)
  unfold putL
  rw [rdB_wrote, if_neg (by omega), rdB_burnt]
theorem rdB_hid (S : DevS) (st sz place : Nat) (seq : Int) (f : Nat → List Int) (m : List (Nat × Nat)) (x : Nat) (hs : 2 ≤ sz) (hx : x < st ∨ st + sz ≤ x) : ∀ i, rdB (hidS S st sz place seq f m i) x = rdB S x
  | 0 => rdB_putL _ _ _ _ _ _ x hs hx
  | i + 1 => (rdB_putL _ _ _ _ _ _ x hs hx).trans (rdB_hid S st sz place seq f m x hs hx i)
theorem Good.hid {S : DevS} {k st sz : Nat} (h : Good S k) (place : Nat) (seq : Int) (f : Nat → List Int) (m : List (Nat × Nat)) (hs : 2 ≤ sz) (hst : st + sz ≤ k) (hm : m.length ≤ 24) (hV : ∀ p ∈ m, (f p.1).length = 512 ∧ ∀ x ∈ f p.1, 0 ≤ x ∧ x ≤ 255) : ∀ i, i ≤ m.length → Good (hidS S st sz place seq f m i) k
  | 0, _ => h.putL _ _ hs hst (desB_len _ _ (by rw [lnsOf_len]; exact hm)) (desB_by _ _)
  | i + 1, hi => by
    have hg : (m.map (·.1)).getD i 0 = m[i].1 := by simp [List.getD, show i < m.length by omega]
    have hv := hV m[i] (List.getElem_mem _)
    refine (Good.hid h place seq f m hs hst hm hV i (by omega)).putL _ _ hs hst ?_ ?_
    · rw [hg]; exact hidB_len hv.1 _
    · rw [hg]; exact hidB_by hv.2 _
theorem rdB_com {S : DevS} {k st sz : Nat} (h : Good S k) (place : Nat) (seq : Int) (f : Nat → List Int) (m : List (Nat × Nat)) (hs : 2 ≤ sz) (hst : st + sz ≤ k) (hm : m.length ≤ 24) (hV : ∀ p ∈ m, (f p.1).length = 512 ∧ ∀ x ∈ f p.1, 0 ≤ x ∧ x ≤ 255) (x : Nat) (hx : x < st ∨ st + sz ≤ x) : rdB (comS S st sz place seq f m) x = rdB S x := by
  have g1 := h.hid place seq f m hs hst hm hV m.length (Nat.le_refl _)
  have g2 := g1.burnt.flushed.putL place (m.length + 1) hs hst (comB_len seq) (comB_by seq)
  unfold comS
  rw [rdB_flushed g2.burnt, rdB_burnt, rdB_putL _ _ _ _ _ _ x hs hx, rdB_flushed g1.burnt, rdB_burnt, rdB_hid _ _ _ _ _ _ _ x hs hx]
/-- A town at a device that has grown. -/
theorem Tn.to {w w' : World} {G G' : Nat → Prop} {tw db : Nat} {ov wv : Value} {os : List Nat} {xs : List It} (h : Tn w G tw db ov wv os xs) (k : Kp G w w') (hG : ∀ i, G' i → G i ∨ w.heap.size ≤ i) : Tn w' G' tw db ov wv os xs := by
  have n : ∀ i, i < w.heap.size → ¬ G i → ¬ G' i := fun i hi hg r => (hG i r).elim hg (fun q => by omega)
  have T := h.kp k
  refine ⟨T.box, ⟨T.o.row, fun b hb => n b (h.o.row.lt b hb).2 (h.o.gr b hb)⟩, ⟨T.x.row, fun b hb => n b (h.x.row.lt b hb).2 (h.x.gr b hb), fun x hx => ?_⟩, n tw (heap_lt h.box) h.gt⟩
  have hI := h.x.it x hx
  exact ⟨(T.x.it x hx).own, n x.g (hI.own.lt x.g rfl).2 hI.ng, hI.by_⟩
theorem Wt.to {w w' : World} {G G' : Nat → Prop} {v : Value} {xs : List It} (h : Wt w G v xs) (k : Kp G w w') (hG : ∀ i, G' i → G i ∨ w.heap.size ≤ i) : Wt w' G' v xs := by
  have n : ∀ i, i < w.heap.size → ¬ G i → ¬ G' i := fun i hi hg r => (hG i r).elim hg (fun q => by omega)
  have T := h.kp k
  refine ⟨T.row, fun b hb => n b (h.row.lt b hb).2 (h.gr b hb), fun x hx => ?_⟩
  have hI := h.it x hx
  exact ⟨(T.it x hx).own, n x.g (hI.own.lt x.g rfl).2 hI.ng, hI.by_⟩
/-- What a transaction's end leaves: a journal whose blocks outside are as the transaction saw them. -/
structure EndR (B : Nat) (w w' : World) (db : Nat) (G : Nat → Prop) (jb tb bm : Nat) (m : List (Nat × Nat)) (f fa : Nat → List Int) : Prop where
  td : Td w' tb
  bl : Below B w w'
  kp : Kp G w w'
  ex : ∃ S N G' seq place free nd a fa', S.off = false ∧ Jn w' db S 40 N G' jb 2 30 seq place free bm nd a fa' ∧ (∀ i, G' i → G i ∨ w.heap.size ≤ i) ∧ ∀ o, o < 2 ∨ 2 + 30 ≤ o → seesF S [] fa' a fa' o = seesF F40 m f [] fa o
theorem commit7 {w : World} {db N : Nat} {G : Nat → Prop} {jb bm tb wm ns : Nat} {m : List (Nat × Nat)} {f fa : Nat → List Int} {sv : Value} {last : Int} (h : Tx w db F40 40 N G jb 2 30 1 0 29 bm 0 [] fa tb wm ns m f sv last) (hl : m.length ≤ 10) (hm : Low m) (hN : N ≤ 1000000) {B : Nat} (hB : B ≤ w.heap.size) (hGB : ∀ i, G i → B ≤ i) (hjB : B ≤ jb) (htB : B ≤ tb) (hbB : B ≤ bm) :
    Calls Tryz.prog 14 #[.pointer (some ⟨tb, 0, none⟩)] w fun e w' => e = .returned (.int .i64 0) ∧ EndR B w w' db G jb tb bm m f fa := by
  rcases Nat.eq_zero_or_pos m.length with h0 | h1
  · obtain rfl := List.eq_nil_of_length_eq_zero h0
    refine (commit_none h.D h.T h.J h.M h.tj h.tm h.jm h.gj h.gt h.gm F40_calm.on).mono ?_
    rintro e w' ⟨rfl, T', J', D', t⟩
    refine ⟨rfl, T', t.below (fun i r => r.elim (hGB i) (fun r => by omega)) hB, Kp.turns t (fun x cs ty fz g hx ht e => ?_), F40, N, G, 1, 0, 29, 0, [], fa, F40_calm.on, ⟨D', J', h.A.turns t (fun e => ?_), (fun p hp => by cases hp), h.gj, h.ga, (fun p hp => by cases hp), h.ja⟩, fun i hi => Or.inl hi, fun o _ => rfl⟩
    · rcases e with e | e | e
      · exact g e
      · exact jty_tb h.T hx ht e
      · exact jty_jb h.J hx ht e
    · rcases e with e | e | e
      · exact h.ga e
      · exact h.ta e.symm
      · exact h.ja e.symm
  · refine (txCommit_ok h h1 (by omega) (fun p hp => by cases hp) hm (by omega) (by omega) (by omega) (by omega) (by omega) (F40_calm.lasts _) (by omega) (by omega) (by omega) (by omega)).mono ?_
    rintro e w' ⟨rfl, T', t, G', J', hG'⟩
    refine ⟨rfl, T', t.below (fun i r => r.elim (hGB i) (fun r => by omega)) hB, Kp.turns t (fun x cs ty fz g hx ht e => ?_), _, _, G', _, _, _, _, _, _, (F40_calm.com _ _ _ _ _ _).on, J', hG', fun o ho => ?_⟩
    · rcases e with e | e | e | e
      · exact g e
      · exact mp_cells h.A hx e
      · exact jty_jb h.J hx ht e
      · exact jty_tb h.T hx ht e
    · have e1 : lk (mmerge [] m) o = lk m o := by rw [lk_merge m [] o List.Pairwise.nil h.M.ris]; simp [lk]
      have e2 := rdB_com (st := 2) (sz := 30) F40_good 0 1 f m (by omega) (by omega) (by omega) (fun p hp => (h.V p hp).2) o ho
      unfold seesF
      rw [e1, e2]
      cases e : lk m o <;> simp [lk, mergeF, e]
theorem drop7 {w : World} {db N : Nat} {G : Nat → Prop} {jb bm tb wm ns : Nat} {m : List (Nat × Nat)} {f fa : Nat → List Int} {sv : Value} {last : Int} (h : Tx w db F40 40 N G jb 2 30 1 0 29 bm 0 [] fa tb wm ns m f sv last) {B : Nat} (hB : B ≤ w.heap.size) (hjB : B ≤ jb) (htB : B ≤ tb) :
    Calls Tryz.prog 36 #[.pointer (some ⟨tb, 0, none⟩)] w fun e w' => e = .returned (.tuple #[]) ∧ EndR B w w' db G jb tb bm [] f fa := by
  refine (Tx.drop h).mono ?_
  rintro e w' ⟨rfl, T', J', t⟩
  refine ⟨rfl, T', t.below (fun i r => by rcases r with e | e <;> omega) hB, Kp.turns t (fun x cs ty fz g hx ht e => ?_), F40, N, G, 1, 0, 29, 0, [], fa, F40_calm.on, J', fun i hi => Or.inl hi, fun o _ => rfl⟩
  rcases e with e | e
  · exact jty_tb h.T hx ht e
  · exact jty_jb h.J hx ht e
set_option maxHeartbeats 1000000 in
theorem open7 {w : World} {N : Nat} {F : Nat → Prop} {tw db : Nat} {ov wv : Value} {xs : List It} {er : Nat → Addr} (t : Tn w F tw db ov wv (outs 40) xs) (hD : Dev w db 0 F40 40 N F) (hEF : ∀ w', Turns F w w' → Errs w' er) (fa : Nat → List Int) :
    Calls Tryz.prog 11 #[.pointer (some ⟨tw, 0, none⟩)] w fun e w' => ∃ jb bm, e = .returned (.tuple #[.pointer (some ⟨jb, 0, none⟩), .int .i64 0, .int .i64 0]) ∧ w.heap.size ≤ jb ∧ w.heap.size ≤ bm ∧ ∃ G, Jn w' db F40 40 N G jb 2 30 1 0 29 bm 0 [] fa ∧ (∀ i, G i → F i ∨ w.heap.size ≤ i) ∧ Tn w' G tw db ov wv (outs 40) xs ∧ Turns F w w' := by
  go_enter Tryz.func11, Tryz.ntmps11
  have dr : Turns F w w.drew := Turns.drewN F w 1
  have hDd : Dev w.drew db 0 F40 40 N F := hD.below ⟨rfl, rfl, rfl, Nat.le_refl _, fun _ _ => rfl⟩
  have hcs : ∀ w' : World, w'.heap[tw]? = w.heap[tw]? → w'.cell? ⟨tw, 0, none⟩ = some (.pointer (some ⟨db, 0, none⟩)) ∧ w'.cell? ⟨tw, 1, none⟩ = some (.int .i64 2) ∧ w'.cell? ⟨tw, 2, none⟩ = some (.int .i64 30) := fun w' e => by
    rw [t.box] at e
    exact ⟨by simp [World.cell?, e], by simp [World.cell?, e], by simp [World.cell?, e]⟩
  have k0 := hcs w.drew rfl
  go_wp2_with fail
  go_region_held3 (fun w' => w'.cell? ⟨tw, 0, none⟩ = some (.pointer (some ⟨db, 0, none⟩)) ∧ w'.cell? ⟨tw, 1, none⟩ = some (.int .i64 2) ∧ w'.cell? ⟨tw, 2, none⟩ = some (.int .i64 30))
    (first | exact k0 | exact k1)
    (first
      | (go_at_call 48; refine (open40 hDd (fun w' t' => hEF w' (dr.trans t' (fun _ _ h => h))) fa).mono ?_; rintro e w1 ⟨jb, bm, rfl, lj, lb, ⟨G, J, hG⟩, t1⟩; replace t1 := dr.trans t1 (fun _ _ h => h); have k1 := hcs w1 (t1.block tw (heap_lt t.box) t.gt)))
  have HT : Hid (Tn w1 G tw db ov wv (outs 40) xs) := t.to (Kp.same t1) hG
  go_wp2_with (go_at_call 15; refine (num7 _ _).mono ?_; rintro e wn ⟨rfl, hwn⟩; subst wn)
  all_goals refine bodyPost_ret (results_tmp3 rfl _ _ _) rfl ?_
  exact ⟨jb, bm, rfl, lj, lb, G, J, hG, HT.out, t1⟩
end Go.Proofs.YtnmdnglbpkpfdaaGreatDoor

/- JournalSaves: what its loop holds. -/
namespace Go.Proofs.YtnmdnglbpkpfdaaGreatDoor
open Go.RowKit Go.Maps
set_option maxRecDepth 100000

theorem Wt.form {w : World} {G : Nat → Prop} {v : Value} {xs : List It} (h : Wt w G v xs) (hx : xs.length = 10) : ∃ g c, v = .slice (some ⟨g, 0, none⟩) 10 c := by
  have r := h.row
  rw [hx] at r
  obtain ⟨g, c, e, _⟩ := (row_nat r).resolve_left (fun q => by cases q.2)
  exact ⟨g, c, e⟩
theorem sorted_le : ∀ (r l : List Nat), l.Pairwise (· < ·) → r.Pairwise (· < ·) → (∀ x ∈ l, x ∈ r) → l.length ≤ r.length
  | [], [], _, _, _ => Nat.le_refl _
  | [], x :: l, _, _, h => by have := h x List.mem_cons_self; cases this
  | b :: r, [], _, _, _ => Nat.zero_le _
  | b :: r, a :: l, hl, hr, h => by
    obtain ⟨l1, l2⟩ := List.pairwise_cons.1 hl
    obtain ⟨r1, r2⟩ := List.pairwise_cons.1 hr
    rcases List.mem_cons.1 (h a List.mem_cons_self) with e | e
    · have := sorted_le r l l2 r2 (fun x hx => (List.mem_cons.1 (h x (List.mem_cons_of_mem _ hx))).elim (fun q => by have := l1 x hx; omega) id)
      simpa using this
    · have := sorted_le r (a :: l) hl r2 (fun x hx => by
        have h1 := r1 a e
        rcases List.mem_cons.1 (h x hx) with q | q
        · rcases List.mem_cons.1 hx with p | p
          · omega
          · have := l1 x p; omega
        · exact q)
      simp only [List.length_cons] at this ⊢
      omega
/-- A transaction that writes but blocks outside writes ten at most. -/
theorem outs_few {m : List (Nat × Nat)} (hr : Rising m) (h : ∀ p ∈ m, p.1 ∈ outs 40) : m.length ≤ 10 := by
  have := sorted_le (outs 40) (m.map (·.1)) (by rw [List.pairwise_map]; exact hr) (by rw [outs_40]; decide) (fun x hx => by
    obtain ⟨p, hp, rfl⟩ := List.mem_map.1 hx
    exact h p hp)
  rw [outs_len] at this
  simpa using this
theorem outs_low {m : List (Nat × Nat)} (h : ∀ p ∈ m, p.1 ∈ outs 40) : Low m := fun p hp => by have := outs_in (h p hp); omega
/-- A state of the statement's: its mark, its two lists. -/
structure St where
  mark : Nat
  v : Value
  u : Value
  xs : List It
def St.cells (s : St) : List Value := [.int .i64 (s.mark : Nat), s.v, s.u]
def stC (l : List St) : List Value := l.flatMap St.cells
theorem stC_snoc (l : List St) (s : St) : stC (l ++ [s]) = stC l ++ s.cells := by simp [stC]
theorem stC_len (l : List St) : (stC l).length = l.length * 3 := by
  induction l with
  | nil => rfl
  | cons x l ih => simp only [stC, List.flatMap_cons, List.length_append, List.length_cons] at ih ⊢; simp only [St.cells, List.length_cons, List.length_nil]; omega
theorem stC_at (l : List St) (i : Nat) (s : St) (h : l[i]? = some s) : (stC l)[i * 3]? = some (.int .i64 (s.mark : Nat)) ∧ (stC l)[i * 3 + 1]? = some s.v ∧ (stC l)[i * 3 + 2]? = some s.u := by
  induction l generalizing i with
  | nil => simp at h
  | cons x l ih =>
    cases i with
    | zero => simp at h; subst h; simp [stC, St.cells]
    | succ i =>
      have := ih i (by simpa using h)
      have e : stC (x :: l) = x.cells ++ stC l := by simp [stC]
      have e3 : x.cells.length = 3 := rfl
      rw [e]
      refine ⟨?_, ?_, ?_⟩
      · rw [List.getElem?_append_right (by omega), e3, show (i + 1) * 3 - 3 = i * 3 by omega]; exact this.1
      · rw [List.getElem?_append_right (by omega), e3, show (i + 1) * 3 + 1 - 3 = i * 3 + 1 by omega]; exact this.2.1
      · rw [List.getElem?_append_right (by omega), e3, show (i + 1) * 3 + 2 - 3 = i * 3 + 2 by omega]; exact this.2.2
/-- It is as a transaction is that has written so much. -/
structure StOk (w : World) (G : Nat → Prop) (s : St) (m : List (Nat × Nat)) (f : Nat → List Int) : Prop where
  x : Wt w G s.v s.xs
  len : s.xs.length = 10
  n : Ns w G s.u (m.map (·.1))
  see : ∀ (k o : Nat) (x : It), (outs 40)[k]? = some o → s.xs[k]? = some x → x.bs = seesF F40 m f [] (fun _ => []) o
theorem StOk.kp {w w' : World} {G : Nat → Prop} {s : St} {m : List (Nat × Nat)} {f : Nat → List Int} (h : StOk w G s m f) (k : Kp G w w') : StOk w' G s m f := ⟨h.x.kp k, h.len, h.n.kp k, h.see⟩
/-- What the loop holds, but for the state itself. -/
structure SvY (B : Nat) (w : World) (G : Nat → Prop) (jb bm tb db q N K : Nat) (wv svv : Value) (la wm ns : Nat) (m : List (Nat × Nat)) (f : Nat → List Int) (sv : Value) (l : List SvI) (s : St) (ss : List St) : Prop where
  X : Tx w db F40 40 N G jb 2 30 1 0 29 bm 0 [] (fun _ => []) tb wm ns m f sv (la : Int)
  V : Svs w G tb wm sv l la
  box : w.heap[q]? = some (.cells #[.int .i64 0, s.v, s.u] 54)
  gq : ¬ G q
  mo : ∀ p ∈ m, p.1 ∈ outs 40
  row : w.ownsRow 0 54 3 svv ss.length (stC ss)
  gr : ∀ b, svv.ownBlock = some b → ¬ G b
  len : ss.length = l.length
  all : ∀ (i : Nat) t e, ss[i]? = some t → l[i]? = some e → t.mark = e.mark ∧ StOk w G t e.m e.f ∧ (∀ p ∈ e.m, p.1 ∈ outs 40) ∧ e.hn ≤ K
  ap : ∀ t ∈ ss, t.v.ownBlock ≠ s.v.ownBlock
  aw : wv.ownBlock ≠ s.v.ownBlock
  qs : svv.ownBlock ≠ some q
  lw : B ≤ wm
  lv : ∀ b, sv.ownBlock = some b → B ≤ b
  ls : ∀ b, s.v.ownBlock = some b → B ≤ b
  lr : ∀ b, svv.ownBlock = some b → B ≤ b
  kn : ns ≤ K ∧ la ≤ K ∧ l.length ≤ K
section
variable {B : Nat} {w w' : World} {G : Nat → Prop} {jb bm tb db q N K : Nat} {wv svv : Value} {la wm ns : Nat} {m : List (Nat × Nat)} {f : Nat → List Int} {sv : Value} {l : List SvI} {s : St} {ss : List St}
/-- The statement's own part, where it is kept. -/
theorem SvY.kept (h : SvY B w G jb bm tb db q N K wv svv la wm ns m f sv l s ss) (k : Kp G w w') {wm' ns' la' : Nat} {m' : List (Nat × Nat)} {f' : Nat → List Int} {sv' : Value} (X' : Tx w' db F40 40 N G jb 2 30 1 0 29 bm 0 [] (fun _ => []) tb wm' ns' m' f' sv' (la' : Int)) (V' : Svs w' G tb wm' sv' l la') (mo' : ∀ p ∈ m', p.1 ∈ outs 40) (lw' : B ≤ wm') (lv' : ∀ b, sv'.ownBlock = some b → B ≤ b) {K' : Nat} (hK : K ≤ K') (kn' : ns' ≤ K' ∧ la' ≤ K' ∧ l.length ≤ K') : SvY B w' G jb bm tb db q N K' wv svv la' wm' ns' m' f' sv' l s ss :=
  ⟨X', V', k.block _ _ _ _ h.gq h.box (by decide), h.gq, mo', k.row h.row (by decide) h.gr, h.gr, h.len, fun i t e ht he => by
    obtain ⟨a, b, c, d⟩ := h.all i t e ht he
    exact ⟨a, b.kp k, c, by omega⟩, h.ap, h.aw, h.qs, lw', lv', h.ls, h.lr, kn'⟩
theorem SvY.same (h : SvY B w G jb bm tb db q N K wv svv la wm ns m f sv l s ss) (r : Same0 w w' db F40 40 N G) : SvY B w' G jb bm tb db q N K wv svv la wm ns m f sv l s ss :=
  h.kept (Kp.same r.2) (h.X.same r) (h.V.same r.2) h.mo h.lw h.lv (Nat.le_refl _) h.kn
theorem SvY.below (h : SvY B w G jb bm tb db q N K wv svv la wm ns m f sv l s ss) (b : Below w.heap.size w w') : SvY B w' G jb bm tb db q N K wv svv la wm ns m f sv l s ss :=
  h.same ⟨h.X.D.below b, Below.turns b G⟩
/-- Behind a Write. -/
theorem SvY.wrote (h : SvY B w G jb bm tb db q N K wv svv la wm ns m f sv l s ss) {b g : Nat} {ds : List Int} (X' : Tx w' db F40 40 N G jb 2 30 1 0 29 bm 0 [] (fun _ => []) tb wm (ns + 1) (mput m b g) (updF f b ds) sv (la : Int)) (t : Turns (fun i => G i ∨ i = wm) w w') (ho : b ∈ outs 40) : SvY B w' G jb bm tb db q N (K + 1) wv svv la wm (ns + 1) (mput m b g) (updF f b ds) sv l s ss :=
  h.kept (Kp.turns t (fun x cs ty fz gx hx ht e => e.elim gx (fun e => mp_cells h.X.M hx e))) X' (h.V.step h.X.M t) (fun p hp => (mput_mem hp).elim (fun e => by rw [e]; exact ho) (h.mo p)) h.lw h.lv (by omega) (by have := h.kn; omega)
end
/-- A block of another type has turned: the transaction and its savepoints stay. -/
theorem Tx.turn1 {w w' : World} {d : Nat} {S : DevS} {k N : Nat} {G : Nat → Prop} {jb st sz : Nat} {seq : Int} {place : Nat} {free : Int} {bm nd : Nat} {a : List (Nat × Nat)} {fa : Nat → List Int} {tb wm ns : Nat} {m : List (Nat × Nat)} {f : Nat → List Int} {sv : Value} {last : Int} (h : Tx w d S k N G jb st sz seq place free bm nd a fa tb wm ns m f sv last) {g : Nat} {cs : Array Value} {t : Nat} {fz : Nat × Nat} (hg : w.heap[g]? = some (.cells cs t fz)) (ht : t ∉ jty) (hu : t ≠ 5) (gG : ¬ G g) (u : Turns (fun i => i = g) w w') : Tx w' d S k N G jb st sz seq place free bm nd a fa tb wm ns m f sv last := by
  have hb : ∀ (x : Nat) (ys : List Int), w.heap[x]? = some (bl ys) → ¬ x = g := fun x ys hx e => by
    rw [e, hg] at hx
    simp [bl] at hx
    exact hu hx.2.1
  exact h.move u (fun i hi e => gG (e ▸ hi)) (fun e => jty_jb h.J hg ht e.symm) (fun e => mp_cells h.A hg e.symm) (fun e => mp_cells h.M hg e.symm) (fun p hp => hb _ _ (h.V p hp).1) (fun p hp => hb _ _ (h.VA p hp).1) ((u.block tb (heap_lt h.T) (fun e => jty_tb h.T hg ht e.symm)).trans h.T)
theorem Svs.turn1 {w w' : World} {G : Nat → Prop} {tb wm : Nat} {sv : Value} {l : List SvI} {la : Nat} (h : Svs w G tb wm sv l la) {g : Nat} {cs : Array Value} {t : Nat} {fz : Nat × Nat} (hg : w.heap[g]? = some (.cells cs t fz)) (ht : t ∉ jty) (hu : t ≠ 5) (h1 : t ≠ 99) (h2 : t ≠ 31) (u : Turns (fun i => i = g) w w') : Svs w' G tb wm sv l la := by
  have hx : ∀ (x : Nat) (c : Array Value) (t' : Nat), w.heap[x]? = some (.cells c t') → t ≠ t' → ¬ x = g := fun x c t' hx n e => by
    rw [e, hg] at hx
    simp at hx
    exact n hx.2.1
  exact h.turns u (fun b hb e => own_typeJ h.row hg (fun q => ht (by simp [q])) (by rw [hb, e])) (fun s hs => ⟨hx _ _ _ (h.sp s hs).h h1, hx _ _ _ (h.sp s hs).q h2, fun e => mp_cells (h.sp s hs).M hg e.symm, fun p hp => hx _ _ _ ((h.sp s hs).V p hp).1 hu⟩)
/-- A row of lists has turned; another one stays. -/
theorem Wt.turnN {G : Nat → Prop} {w w' : World} {v : Value} {xs : List It} {g : Nat} {cs : Array Value} {fz : Nat × Nat} (h : Wt w G v xs) (hg : w.heap[g]? = some (.cells cs 56 fz)) (hn : v.ownBlock ≠ some g) (u : Turns (fun i => i = g) w w') : Wt w' G v xs := ⟨own_turns h.row u (fun b hb e => hn (by rw [hb, e])), h.gr, fun x hx => (h.it x hx).turn1 hg (by decide) u⟩
theorem Tn.turnN {w w' : World} {G : Nat → Prop} {tw db : Nat} {ov wv : Value} {os : List Nat} {xs : List It} {g : Nat} {cs : Array Value} {fz : Nat × Nat} (h : Tn w G tw db ov wv os xs) (hg : w.heap[g]? = some (.cells cs 56 fz)) (hn : wv.ownBlock ≠ some g) (u : Turns (fun i => i = g) w w') : Tn w' G tw db ov wv os xs :=
  ⟨(u.block tw (heap_lt h.box) (fun e => by rw [← e, h.box] at hg; simp at hg)).trans h.box, h.o.turn1 hg (by decide) u, h.x.turnN hg hn u, h.gt⟩
theorem Tn.turnQ {w w' : World} {G : Nat → Prop} {tw db : Nat} {ov wv : Value} {os : List Nat} {xs : List It} {g : Nat} {cs : Array Value} {fz : Nat × Nat} (h : Tn w G tw db ov wv os xs) (hg : w.heap[g]? = some (.cells cs 54 fz)) (u : Turns (fun i => i = g) w w') : Tn w' G tw db ov wv os xs :=
  ⟨(u.block tw (heap_lt h.box) (fun e => by rw [← e, h.box] at hg; simp at hg)).trans h.box, h.o.turn1 hg (by decide) u, h.x.turn1 hg (by decide) (by decide) u, h.gt⟩
theorem StOk.turnN {w w' : World} {G : Nat → Prop} {s : St} {m : List (Nat × Nat)} {f : Nat → List Int} {g : Nat} {cs : Array Value} {fz : Nat × Nat} (h : StOk w G s m f) (hg : w.heap[g]? = some (.cells cs 56 fz)) (hn : s.v.ownBlock ≠ some g) (u : Turns (fun i => i = g) w w') : StOk w' G s m f := ⟨h.x.turnN hg hn u, h.len, h.n.turn1 hg (by decide) u, h.see⟩
theorem StOk.turnQ {w w' : World} {G : Nat → Prop} {s : St} {m : List (Nat × Nat)} {f : Nat → List Int} {g : Nat} {cs : Array Value} {fz : Nat × Nat} (h : StOk w G s m f) (hg : w.heap[g]? = some (.cells cs 54 fz)) (u : Turns (fun i => i = g) w w') : StOk w' G s m f := ⟨h.x.turn1 hg (by decide) (by decide) u, h.len, h.n.turn1 hg (by decide) u, h.see⟩
/-- The block that a row of its own lies in. -/
theorem own_heap {w : World} {base e sz n g cap : Nat} {xs : List Value} (h : w.ownsRow base e sz (.slice (some ⟨g, 0, none⟩) n cap) n xs) : ∃ cs fz, w.heap[g]? = some (.cells cs e fz) := by
  rcases h.2 with ⟨q, _⟩ | ⟨g', cap', cur, q, _, hh, _⟩
  · cases q
  · cases q; exact ⟨_, _, hh⟩
section
variable {B : Nat} {w w' : World} {G : Nat → Prop} {jb bm tb db q N K : Nat} {wv svv : Value} {la wm ns : Nat} {m : List (Nat × Nat)} {f : Nat → List Int} {sv : Value} {l : List SvI} {s : St} {ss : List St}
/-- now.want[k] = x. -/
theorem SvY.put (h : SvY B w G jb bm tb db q N K wv svv la wm ns m f sv l s ss) {gn cn k : Nat} {x : It} (hv : s.v = .slice (some ⟨gn, 0, none⟩) 10 cn) (hx : Wt w G s.v s.xs) (hl : s.xs.length = 10) (I : ItOk w G x) {tw : Nat} {ov : Value} {os : List Nat} {ys : List It} (T : Tn w G tw db ov wv os ys) :
    SvY B (w.setCell ⟨gn, k, none⟩ x.val) G jb bm tb db q N K wv svv la wm ns m f sv l ⟨s.mark, s.v, s.u, s.xs.set k x⟩ ss ∧ Wt (w.setCell ⟨gn, k, none⟩ x.val) G s.v (s.xs.set k x) ∧ Tn (w.setCell ⟨gn, k, none⟩ x.val) G tw db ov wv os ys ∧ Turns (fun i => i = gn) w (w.setCell ⟨gn, k, none⟩ x.val) := by
  have r := hx.row
  rw [hv, hl] at r
  obtain ⟨cs, fz, hg⟩ := own_heap r
  have u := Turns.cell w gn k x.val
  have gG : ¬ G gn := hx.gr gn (by rw [hv]; rfl)
  refine ⟨⟨h.X.turn1 hg (by decide) (by decide) gG u, h.V.turn1 hg (by decide) (by decide) (by decide) (by decide) u, (u.block q (heap_lt h.box) (fun e => by rw [← e, h.box] at hg; simp at hg)).trans h.box, h.gq, h.mo, own_turn1 h.row hg (by decide) u, h.gr, h.len, fun i t e ht he => ?_, h.ap, h.aw, h.qs, h.lw, h.lv, h.ls, h.lr, h.kn⟩, ⟨?_, hx.gr, fun y hy => ?_⟩, T.turnN hg (fun e => h.aw (by rw [e, hv]; rfl)) u, u⟩
  · obtain ⟨a, b, c, d⟩ := h.all i t e ht he
    exact ⟨a, b.turnN hg (fun e => h.ap t (List.mem_of_getElem? ht) (by rw [e, hv]; rfl)) u, c, d⟩
  · rw [List.length_set, hl, List.map_set, hv]
    exact (r.stored k x.val).1
  · rcases List.mem_or_eq_of_mem_set hy with hy | rfl
    · exact (hx.it y hy).turn1 hg (by decide) u
    · exact I.turn1 hg (by decide) u
/-- now.seen = u. -/
theorem SvY.seen (h : SvY B w G jb bm tb db q N K wv svv la wm ns m f sv l s ss) (u' : Value) {tw : Nat} {ov : Value} {os : List Nat} {ys : List It} (T : Tn w G tw db ov wv os ys) :
    SvY B (w.setCell ⟨q, 2, none⟩ u') G jb bm tb db q N K wv svv la wm ns m f sv l ⟨s.mark, s.v, u', s.xs⟩ ss ∧ Tn (w.setCell ⟨q, 2, none⟩ u') G tw db ov wv os ys ∧ Turns (fun i => i = q) w (w.setCell ⟨q, 2, none⟩ u') := by
  have u := Turns.cell w q 2 u'
  have hg := h.box
  refine ⟨⟨h.X.turn1 hg (by decide) (by decide) h.gq u, h.V.turn1 hg (by decide) (by decide) (by decide) (by decide) u, heap_setCell_same _ q 2 _ _ _ hg, h.gq, h.mo, own_turns h.row u (fun b hb e => h.qs (by rw [hb, e])), h.gr, h.len, fun i t e ht he => ?_, h.ap, h.aw, h.qs, h.lw, h.lv, h.ls, h.lr, h.kn⟩, T.turnQ hg u, u⟩
  obtain ⟨a, b, c, d⟩ := h.all i t e ht he
  exact ⟨a, b.turnQ hg u, c, d⟩
end
end Go.Proofs.YtnmdnglbpkpfdaaGreatDoor
