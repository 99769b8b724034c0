/- QueueTexts, walked whole. -/
import Derived.Test.YtkfdneohkgmmbaaR0
import Derived.Test.YtkfdneohkgmmbaaQ6s
import Derived.Deep.RegionLaw
import Derived.Deep.DrawnRows
namespace Go.Proofs.Ytkfdneohkgmmbaa
open Go.RowKit
set_option maxRecDepth 100000
attribute [local go_sem ↓] Go.wp_at_zero Go.wp_at_succ

/-- The slice value '.slice ao len cap' reads as the texts xs. -/
structure Lt (w : World) (ao : Option Addr) (len cap : Nat) (xs : List ByteArray) : Prop where
  hlen : xs.length = len
  hle : len ≤ cap
  hnone : ao = none → len = 0 ∧ cap = 0
  hcells : ∀ ad, ao = some ad → ∀ t u, (xs.map Value.string)[t]? = some u → w.cell? (ad.add t) = some u
theorem Lt.nil (w : World) : Lt w none 0 0 [] := ⟨rfl, Nat.le_refl _, fun _ => ⟨rfl, rfl⟩, fun _ h => by cases h⟩
theorem Lt.below {B : Nat} {w w' : World} {ao : Option Addr} {len cap : Nat} {bs : List ByteArray} (h : Lt w ao len cap bs) (hb : Below B w w') (hB : w.heap.size ≤ B) : Lt w' ao len cap bs :=
  ⟨h.hlen, h.hle, h.hnone, fun ad had t u hu => by
    have hc := h.hcells ad had t u hu
    exact (hb.cell (Nat.lt_of_lt_of_le (World.block_lt_of_cell? w _ hc) hB)).trans hc⟩
theorem Lt.at {w : World} {ao : Option Addr} {len cap : Nat} {xs : List ByteArray} (h : Lt w ao len cap xs) (hp : 0 < len) :
    ∃ b o, ao = some ⟨b, o, none⟩ ∧ ∀ t, t < len → w.cell? ⟨b, o + t, none⟩ = some (.string (xs.getD t ⟨#[]⟩)) := by
  cases ao with
  | none => have := (h.hnone rfl).1; omega
  | some ad =>
    have hc : ∀ i, i < len → w.cell? (ad.add i) = some (.string (xs.getD i ⟨#[]⟩)) := fun i hi => h.hcells ad rfl i _ (by simp [List.getD, h.hlen, hi])
    obtain ⟨b, o, sp⟩ := ad
    have hsp : sp = none := by simpa [Addr.add] using World.cell?_spot (hc 0 hp)
    subst hsp
    exact ⟨b, o, rfl, fun t ht => by have := hc t ht; rwa [Addr.add_lit] at this⟩
/-- The numbers of those that wait of the client r. -/
def ix (n r a m : Nat) : List Nat := (List.range' a m).filter (fun j => j % n == r)
theorem ix_push (n r a m : Nat) : ix n r a (m + 1) = if (a + m) % n = r then ix n r a m ++ [a + m] else ix n r a m := by
  unfold ix
  rw [List.range'_concat, List.filter_append]
  by_cases h : (a + m) % n = r <;> simp [h]
theorem ix_pop (n r a m : Nat) : ix n r a (m + 1) = if a % n = r then a :: ix n r (a + 1) m else ix n r (a + 1) m := by
  unfold ix
  rw [List.range'_succ]
  by_cases h : a % n = r <;> simp [h]
theorem ix_len (n r a m : Nat) : (ix n r a m).length ≤ m := by
  unfold ix
  have := List.length_filter_le (fun j => j % n == r) (List.range' a m)
  rwa [List.length_range'] at this
theorem ix_no (n r a : Nat) : ix n r a 0 = [] := rfl
def txF (xs : List ByteArray) (n a m r : Nat) : List ByteArray := (ix n r a m).map (fun j => xs.getD j ⟨#[]⟩)
theorem tx_push (xs : List ByteArray) (n a m : Nat) : (rows n (txF xs n a m)).set ((a + m) % n) (txF xs n a m ((a + m) % n) ++ [xs.getD (a + m) ⟨#[]⟩]) = rows n (txF xs n a (m + 1)) := by
  rw [rows_set]
  refine rows_congr (fun r _ => ?_)
  unfold txF
  rw [ix_push]
  by_cases h : r = (a + m) % n
  · subst h; simp
  · rw [if_neg h, if_neg (fun q => h q.symm)]
theorem tx_head (xs : List ByteArray) (n a m : Nat) : txF xs n a (m + 1) (a % n) = xs.getD a ⟨#[]⟩ :: txF xs n (a + 1) m (a % n) := by
  unfold txF
  rw [ix_pop, if_pos rfl]
  rfl
theorem tx_pop (xs : List ByteArray) (n a m : Nat) : (rows n (txF xs n a (m + 1))).set (a % n) (txF xs n (a + 1) m (a % n)) = rows n (txF xs n (a + 1) m) := by
  rw [rows_set]
  refine rows_congr (fun r _ => ?_)
  by_cases h : r = a % n
  · subst h; rw [if_pos rfl]
  · rw [if_neg h]
    unfold txF
    rw [ix_pop, if_neg (fun q => h q.symm)]
structure TxI (w0 w : World) (qb nx : Nat) (L : List (List ByteArray)) : Prop where
  q : ∃ lab, Qu KS w lab 1 qb 64 nx L ∧ Bk w0 lab w

set_option maxHeartbeats 4000000 in
theorem texts_any (c : Int) (ao : Option Addr) (sl sc : Nat) (xs : List ByteArray) (w : World) (hc : -9223372036854775808 ≤ c ∧ c ≤ 9223372036854775807) (hr : sl ≤ 8796093021952) (hL : Lt w ao sl sc xs) (_ : True) :
    Calls Try.prog 4 #[.int .i64 c, .slice ao sl sc] w fun e w' => e = .returned (.bool true) ∧ Below w.heap.size w w' := by
  go_enter Try.func4, Try.ntmps4
  go_wp2_with fail
  refine (known_any w).mono ?_
  rintro e w1 ⟨rfl, b1⟩
  go_wp2_with fail
  refine (bound_any c 64 w1 hc (by decide) (by decide)).mono ?_
  rintro e w2 ⟨rfl, hw2⟩
  subst w2
  have hn := bnd_le c 64 (by decide)
  generalize bnd c 64 = n at hn ⊢
  clear hc
  obtain ⟨n1, n2⟩ := hn
  go_wp2_with fail
  refine (new_okS n 64 w1 (rl (fun _ => 0) w 0) 1 n1 n2 (by decide) (by decide)).mono ?_
  rintro e w2 ⟨qb, rfl, q2, b2⟩
  have B2 := ((Bk.refl w).below b1 0).below b2 1
  rw [rows_none, show rows n (fun _ => ([] : List ByteArray)) = rows n (txF xs n 0 0) from rfl] at q2
  have I2 : TxI w w2 qb 0 (rows n (txF xs n 0 0)) := ⟨_, q2, B2⟩
  clear q2 B2 b1 b2
  have a1 : (1 : Int) ≤ n := by omega
  have a2 : (n : Int) ≤ 64 := by omega
  have a3 : (sl : Int) ≤ 8796093021952 := by omega
  go_wp2_with fail
  go_loopw [7, 8] (fun m i wr => ∃ j : Nat, j ≤ sl ∧ j ≤ 64 ∧ i = .int .i64 j ∧ m = .int .i64 j ∧ TxI w wr qb 0 (rows n (txF xs n 0 j))) (fun _ i _ => 65 - (intOf i).toNat)
  case atStart => exact ⟨0, Nat.zero_le _, Nat.zero_le _, rfl, rfl, I2⟩
  case round =>
    obtain ⟨j, hj1, hj2, rfl, rfl, I3⟩ := hrel
    clear I2
    obtain ⟨lab, q3, B3⟩ := I3.q
    have hLr := hL.below B3.b (Nat.le_refl _)
    by_cases hgo : j < sl ∧ j < 64
    · obtain ⟨hlt, hl2⟩ := hgo
      have c1 : (j : Int) < sl := by omega
      have c2 : (j : Int) < 64 := by omega
      obtain ⟨bb, oo, rfl, hcell⟩ := hLr.at (by omega)
      have hcj := hcell j hlt
      have hcap : (sl : Int) ≤ sc := by have := hLr.hle; omega
      clear hcell
      have hm : (j : Int) % (n : Int) = ((j % n : Nat) : Int) := by simp
      have hdn : j % n < n := Nat.mod_lt _ n1
      have hn0 : ¬ n = 0 := by omega
      have htm : (j : Int).tmod (n : Int) = ((j % n : Nat) : Int) := by rw [Int.tmod_eq_emod_of_nonneg (by omega)]; simp
      have hdl : j % n < (rows n (txF xs n 0 j)).length := by rw [rows_len]; exact hdn
      have hfl : ((rows n (txF xs n 0 j))[j % n]'hdl).length < 64 := by
        rw [rows_get]
        have := ix_len n (j % n) 0 j
        simp [txF]
        omega
      have HP := tx_push xs n 0 j
      rw [Nat.zero_add] at HP
      have HPP : Hid ((rows n (txF xs n 0 j)).set (j % n) (txF xs n 0 j (j % n) ++ [xs.getD j ⟨#[]⟩]) = rows n (txF xs n 0 (j + 1))) := HP
      clear HP
      generalize xs.getD j ⟨#[]⟩ = X at hcj HPP
      obtain ⟨wb, vs, h3⟩ := q3
      have HG : Hid (∀ w4 : World, Qu KS w4 (rl lab wr 1) 1 qb 64 0 ((rows n (txF xs n 0 j)).set (j % n) ((rows n (txF xs n 0 j))[j % n]'hdl ++ [X])) → Turns (fun i => lab i = 1) wr w4 → TxI w w4 qb 0 (rows n (txF xs n 0 (j + 1)))) := fun w4 q4 t4 => by
        rw [rows_get, HPP.out] at q4
        exact ⟨_, q4, B3.step t4 (by decide)⟩
      have hcl : ∀ w4 : World, Turns (fun i => lab i = 1) wr w4 → w4.cell? ⟨bb, oo + j, none⟩ = some (.string X) := fun w4 t4 => by
        have hb : bb < w.heap.size := by
          rcases Nat.lt_or_ge bb w.heap.size with r | r
          · exact r
          · exfalso
            obtain ⟨b', o', e', hc'⟩ := hL.at (by omega)
            cases e'
            have hbb : bb < w.heap.size := World.block_lt_of_cell? w _ (hc' j hlt)
            omega
        have hz := B3.z bb hb
        exact (World.cell?_of_block (w := wr) (a := ⟨bb, oo + j, none⟩) (t4.block bb (World.block_lt_of_cell? wr _ hcj) (fun q => by rw [hz] at q; cases q))).trans hcj
      generalize j % n = d at hm htm hdn hdl hfl HG HPP
      go_wp2_with fail
      go_region_law
        (first
          | (go_simp; go_at_call 17; refine (push_okS (h3.drew 1) d X hdl hfl).mono ?_; rintro e w5 ⟨rfl, q5, t5⟩; have I5 := HG.out w5 q5 ((Turns.drewN _ wr 1).trans t5 (fun _ _ h => h)); dsimp only)
          | fail)
      all_goals
        clear q5 t5 HG HPP hcl hcj htm hm h3 B3 hLr I3
        go_wp2_with (go_at_call 14; refine (num_any _ _).mono ?_; rintro e wn ⟨rfl, hwn⟩; subst wn)
        go_roundw
        case rel => exact ⟨j + 1, by omega, by omega, by go_num, by go_num, I5⟩
        case measure => simp [intOf]; omega
    · have I4 : TxI w wr qb (0 % n) (rows n (txF xs n 0 (j - 0))) := by rw [Nat.zero_mod]; exact I3
      have HL : Hid (Lt w ao sl sc xs) := hL
      clear I3 q3 B3 hLr
      have c2 : (j : Int) ≤ 64 := by omega
      by_cases hlt : j < sl
      all_goals
        go_wp2_with fail
        go_loopw [10] (fun i wr => ∃ a : Nat, a ≤ j ∧ i = .int .i64 a ∧ TxI w wr qb (a % n) (rows n (txF xs n a (j - a)))) (fun i _ => j + 1 - (intOf i).toNat)
        case atStart => exact ⟨0, Nat.zero_le _, rfl, I4⟩
        case round =>
          obtain ⟨a, ha, rfl, I5⟩ := hrel
          clear I4
          obtain ⟨lab, q5, B5⟩ := I5.q
          by_cases haj : a < j
          · have d1 : (a : Int) < j := by omega
            obtain ⟨m, hm⟩ : ∃ m, j - a = m + 1 := ⟨j - a - 1, by omega⟩
            rw [hm] at q5
            have hdl : a % n < (rows n (txF xs n a (m + 1))).length := by rw [rows_len]; exact Nat.mod_lt _ n1
            have hh : (rows n (txF xs n a (m + 1)))[a % n]'hdl = xs.getD a ⟨#[]⟩ :: txF xs n (a + 1) m (a % n) := by rw [rows_get, tx_head]
            have hz : (a % n + 0) % (rows n (txF xs n a (m + 1))).length = a % n := by rw [rows_len, Nat.add_zero, Nat.mod_mod]
            have hnx : (a % n + 1) % (rows n (txF xs n a (m + 1))).length = (a + 1) % n := by rw [rows_len, Nat.mod_add_mod]
            have hlen0 : 0 < (rows n (txF xs n a (m + 1))).length := by rw [rows_len]; exact n1
            go_wp2_with fail
            refine (pop_okS q5 0 (a % n) hlen0 hdl hz (fun i hi => by omega) _ _ hh).mono ?_
            rintro e w6 ⟨rfl, q6, t6⟩
            have B6 := B5.step t6 (by decide)
            rw [hnx, tx_pop] at q6
            rw [show m = j - (a + 1) by omega] at q6
            have I6 : TxI w w6 qb ((a + 1) % n) (rows n (txF xs n (a + 1) (j - (a + 1)))) := ⟨_, q6, B6⟩
            obtain ⟨bb, oo, rfl, hcell⟩ := (HL.out.below B6.b (Nat.le_refl _)).at (by omega)
            have hca := hcell a (by omega)
            have d2 : (a : Int) < sl := by omega
            have hm2 : (a : Int) % (n : Int) = ((a % n : Nat) : Int) := by simp
            clear hcell q6 B6 t6 q5 B5 hh hz hnx hlen0 hdl hm I5
            generalize xs.getD a ⟨#[]⟩ = X at hca ⊢
            generalize a % n = d at hm2 ⊢
            go_wp2_with fail
            go_roundw
            case rel => exact ⟨a + 1, by omega, by go_num, I6⟩
            case measure => simp [intOf]; omega
          · obtain rfl : a = j := by omega
            go_wp2_with fail
            refine (pop_noS q5 (fun i hi => by rw [rows_len] at hi; rw [rows_getD _ _ _ hi, Nat.sub_self]; rfl)).mono ?_
            rintro e w6 ⟨rfl, hw6⟩
            subst w6
            go_wp2_with fail
            go_ret
            exact ⟨rfl, B5.b⟩
end Go.Proofs.Ytkfdneohkgmmbaa
