/- QueueShares, walked whole. -/
import Derived.Test.YtkfdneohkgmmbaaR0
namespace Go.Proofs.Ytkfdneohkgmmbaa
open Go.RowKit
set_option maxRecDepth 100000

/-- What one client pushes. -/
def fullS (r k : Nat) : List Int := (List.range k).map (fun j => ((1000 * r + j : Nat) : Int))
theorem fullS_len (r k : Nat) : (fullS r k).length = k := by simp [fullS]
theorem fullS_succ (r k : Nat) : fullS r (k + 1) = fullS r k ++ [((1000 * r + k : Nat) : Int)] := by simp [fullS, List.range_succ]
theorem fullS_drop (r P q : Nat) (h : q < P) : (fullS r P).drop q = ((1000 * r + q : Nat) : Int) :: (fullS r P).drop (q + 1) := by
  rw [List.drop_eq_getElem_cons (by rw [fullS_len]; exact h)]
  simp [fullS]
/-- While they are pushed. -/
def shF (P c k r : Nat) : List Int := if r < c then fullS r P else if r = c then fullS r k else []
theorem shF_next (n P c : Nat) : rows n (shF P c P) = rows n (shF P (c + 1) 0) := rows_congr (fun r _ => by
  unfold shF
  by_cases h1 : r < c
  · rw [if_pos h1, if_pos (by omega)]
  · by_cases h2 : r = c
    · rw [if_neg h1, if_pos h2, if_pos (by omega)]
    · rw [if_neg h1, if_neg h2, if_neg (by omega)]
      split <;> rfl)
theorem shF_push (n P c k : Nat) : (rows n (shF P c k)).set c (shF P c k c ++ [((1000 * c + k : Nat) : Int)]) = rows n (shF P c (k + 1)) := by
  rw [rows_set]
  refine rows_congr (fun r _ => ?_)
  unfold shF
  by_cases h : r = c
  · subst h; simp [fullS_succ]
  · rw [if_neg h, if_neg h, if_neg h]
theorem sh_zero (n P : Nat) : rows n (fun _ => ([] : List Int)) = rows n (shF P 0 0) := rows_congr (fun r _ => by
  unfold shF
  rw [if_neg (by omega)]
  split <;> rfl)
theorem shF_at (P c k : Nat) : shF P c k c = fullS c k := by simp [shF]
/-- While they are popped. -/
def poF (P n i r : Nat) : List Int := (fullS r P).drop ((i + n - 1 - r) / n)
theorem po_zero (n P : Nat) : rows n (shF P n 0) = rows n (poF P n 0) := rows_congr (fun r hr => by
  unfold shF poF
  rw [if_pos hr, Nat.div_eq_of_lt (by omega)]
  rfl)
theorem po_at (n i : Nat) (hn : 0 < n) : (i + n - 1 - i % n) / n = i / n := by
  have h1 := Nat.div_add_mod i n
  have h2 := Nat.mod_lt i hn
  rw [show i + n - 1 - i % n = (n - 1) + n * (i / n) by omega, Nat.add_mul_div_left _ _ hn, Nat.div_eq_of_lt (by omega), Nat.zero_add]
theorem po_next (n i r : Nat) (hn : 0 < n) (hr : r < n) : (i + 1 + n - 1 - r) / n = if r = i % n then i / n + 1 else (i + n - 1 - r) / n := by
  have h1 := Nat.div_add_mod i n
  have h2 := Nat.mod_lt i hn
  generalize i / n = q at h1 ⊢
  generalize i % n = c at h1 h2 ⊢
  subst h1
  split
  · next e => subst e; rw [show n * q + r + 1 + n - 1 - r = n * (q + 1) by rw [Nat.mul_add]; omega, Nat.mul_div_cancel_left _ hn]
  · next e =>
    by_cases h : r < c
    · rw [show n * q + c + 1 + n - 1 - r = (c - r) + n * (q + 1) by rw [Nat.mul_add]; omega, show n * q + c + n - 1 - r = (c - r - 1) + n * (q + 1) by rw [Nat.mul_add]; omega, Nat.add_mul_div_left _ _ hn, Nat.add_mul_div_left _ _ hn, Nat.div_eq_of_lt (by omega), Nat.div_eq_of_lt (by omega)]
    · rw [show n * q + c + 1 + n - 1 - r = (c + n - r) + n * q by omega, show n * q + c + n - 1 - r = (c + n - r - 1) + n * q by omega, Nat.add_mul_div_left _ _ hn, Nat.add_mul_div_left _ _ hn, Nat.div_eq_of_lt (by omega), Nat.div_eq_of_lt (by omega)]
theorem po_pop (n P i : Nat) (hn : 0 < n) : (rows n (poF P n i)).set (i % n) ((fullS (i % n) P).drop (i / n + 1)) = rows n (poF P n (i + 1)) := by
  rw [rows_set]
  refine rows_congr (fun r hr => ?_)
  unfold poF
  rw [po_next n i r hn hr]
  by_cases e : r = i % n
  · rw [if_pos e, if_pos e, e]
  · rw [if_neg e, if_neg e]
theorem po_head (n P i : Nat) (hn : 0 < n) (h : i / n < P) : poF P n i (i % n) = ((1000 * (i % n) + i / n : Nat) : Int) :: (fullS (i % n) P).drop (i / n + 1) := by
  unfold poF
  rw [po_at n i hn, fullS_drop _ _ _ h]
structure ShI (w0 w : World) (qb P nx : Nat) (L : List (List Int)) (s : Nat) : Prop where
  q : ∃ lab, Qu KI w lab 1 qb P nx L ∧ Bk w0 lab w
  t : tot L = s

set_option maxHeartbeats 4000000 in
theorem shares_any (c p x : Int) (w : World) (hc : -9223372036854775808 ≤ c ∧ c ≤ 9223372036854775807) (hp : -9223372036854775808 ≤ p ∧ p ≤ 9223372036854775807) (hx : -9223372036854775808 ≤ x ∧ x ≤ 9223372036854775807) :
    Calls Try.prog 6 #[.int .i64 c, .int .i64 p, .int .i64 x] w fun e w' => e = .returned (.bool true) ∧ Below w.heap.size w w' := by
  go_enter Try.func6, Try.ntmps6
  go_wp2_with fail
  refine (known_any w).mono ?_
  rintro e w1 ⟨rfl, b1⟩
  go_wp2_with fail
  refine (bound_any c 64 w1 hc (by decide) (by decide)).mono ?_
  rintro e w2 ⟨rfl, hw2⟩
  subst w2
  have hn := bnd_le c 64 (by decide)
  generalize bnd c 64 = n at hn ⊢
  go_wp2_with fail
  refine (bound_any p 64 w1 hp (by decide) (by decide)).mono ?_
  rintro e w2 ⟨rfl, hw2⟩
  subst w2
  have hP := bnd_le p 64 (by decide)
  generalize bnd p 64 = P at hP ⊢
  clear hc hp
  obtain ⟨n1, n2⟩ := hn
  obtain ⟨P1, P2⟩ := hP
  go_wp2_with fail
  refine (new_okI n P w1 (rl (fun _ => 0) w 0) 1 n1 n2 P1 P2).mono ?_
  rintro e w2 ⟨qb, rfl, q2, b2⟩
  have B2 := ((Bk.refl w).below b1 0).below b2 1
  rw [rows_none, sh_zero n P] at q2
  have I2 : ShI w w2 qb P 0 (rows n (shF P 0 0)) (0 * P + 0) := ⟨⟨_, q2, B2⟩, by rw [← sh_zero, tot_none]; omega⟩
  clear q2 B2 b1 b2
  have a1 : (1 : Int) ≤ n := by omega
  have a2 : (n : Int) ≤ 64 := by omega
  have a3 : (1 : Int) ≤ P := by omega
  have a4 : (P : Int) ≤ 64 := by omega
  go_wp2_with fail
  go_loopw [9] (fun i wr => ∃ j : Nat, j ≤ n ∧ i = .int .i64 j ∧ ShI w wr qb P 0 (rows n (shF P j 0)) (j * P)) (fun i _ => n + 1 - (intOf i).toNat)
  case atStart => exact ⟨0, Nat.zero_le _, rfl, I2⟩
  case round =>
    obtain ⟨j, hj, rfl, I3⟩ := hrel
    clear I2
    by_cases hlt : j < n
    · have b1 : (j : Int) < n := by omega
      obtain ⟨wb, h⟩ : ∃ wb, wb = wr := ⟨wr, rfl⟩
      subst h
      go_wp2_with fail
      go_loopw [10, 11] (fun i _ wr => ∃ k : Nat, k ≤ P ∧ i = .int .i64 k ∧ ShI w wr qb P 0 (rows n (shF P j k)) (j * P + k)) (fun i _ _ => P + 1 - (intOf i).toNat)
      case atStart => exact ⟨0, Nat.zero_le _, rfl, I3⟩
      case round =>
        obtain ⟨k, hk, rfl, I4⟩ := hrel
        by_cases hlk : k < P
        · have b2 : (k : Int) < P := by omega
          obtain ⟨⟨lab, q4, B4⟩, t4⟩ := I4
          have hjl : j < (rows n (shF P j k)).length := by rw [rows_len]; exact hlt
          have hle : ((rows n (shF P j k))[j]'hjl).length < P := by rw [rows_get, shF_at, fullS_len]; exact hlk
          go_wp2_with fail
          rw [show (1000 * (j : Int) + (k : Int)) = ((1000 * j + k : Nat) : Int) by omega]
          refine (pushI q4 j ((1000 * j + k : Nat) : Int) hjl hle).mono ?_
          rintro e w5 ⟨rfl, q5, t5⟩
          have B5 := B4.step t5 (by decide)
          have hts := tot_set (rows n (shF P j k)) j ((rows n (shF P j k))[j]'hjl ++ [((1000 * j + k : Nat) : Int)]) hjl
          rw [List.length_append, t4, rows_get, shF_push] at hts
          rw [rows_get, shF_push] at q5
          have I5 : ShI w w5 qb P 0 (rows n (shF P j (k + 1))) (j * P + (k + 1)) := ⟨⟨_, q5, B5⟩, by simp at hts; omega⟩
          clear q5 B5 t5 hts q4 B4 t4
          go_wp2_with (go_at_call 14; refine (num_any _ _).mono ?_; rintro e wn ⟨rfl, hwn⟩; subst wn)
          go_roundw
          case rel => exact ⟨k + 1, by omega, by go_num, I5⟩
          case measure => simp [intOf]; omega
        · obtain rfl : k = P := by omega
          rw [shF_next] at I4
          have e : j * k + k = (j + 1) * k := by rw [Nat.add_mul, Nat.one_mul]
          rw [e] at I4
          clear e
          go_wp2_with fail
          go_roundw
          case rel => exact ⟨j + 1, by omega, by go_num, I4⟩
          case measure => simp [intOf]; omega
    · obtain rfl : j = n := by omega
      rw [po_zero] at I3
      have hm1 : 1 ≤ j * P := Nat.mul_pos n1 P1
      have hm2 : j * P ≤ 64 * 64 := Nat.mul_le_mul n2 P2
      have a5 : (1 : Int) ≤ (j : Int) * P := by exact_mod_cast hm1
      have a6 : (j : Int) * P ≤ 4096 := by exact_mod_cast hm2
      go_wp2_with fail
      rw [show (j : Int) * (P : Int) = ((j * P : Nat) : Int) by simp]
      refine (bound_any x (j * P) wr hx hm1 hm2).mono ?_
      rintro e w4 ⟨rfl, hw4⟩
      subst w4
      have hb := bnd_le x (j * P) hm1
      generalize bnd x (j * P) = m at hb ⊢
      obtain ⟨hb1, hb2⟩ := hb
      have b5 : (m : Int) ≤ 4096 := by omega
      have I4 : ShI w wr qb P (0 % j) (rows j (poF P j 0)) (j * P - 0) := by rw [Nat.zero_mod]; exact I3
      clear I3
      go_wp2_with fail
      go_loopw [12] (fun i wr => ∃ k : Nat, k ≤ m ∧ i = .int .i64 k ∧ ShI w wr qb P (k % j) (rows j (poF P j k)) (j * P - k)) (fun i _ => m + 1 - (intOf i).toNat)
      case atStart => exact ⟨0, Nat.zero_le _, rfl, I4⟩
      case round =>
        obtain ⟨k, hk, rfl, I5⟩ := hrel
        clear I4
        by_cases hlk : k < m
        · have b2 : (k : Int) < m := by omega
          obtain ⟨⟨lab, q5, B5⟩, t5⟩ := I5
          have hkj : k % j < j := Nat.mod_lt _ n1
          have hkl : k % j < (rows j (poF P j k)).length := by rw [rows_len]; exact hkj
          have hkd : k / j < P := (Nat.div_lt_iff_lt_mul n1).2 (by rw [Nat.mul_comm]; omega)
          have hh : (rows j (poF P j k))[k % j]'hkl = ((1000 * (k % j) + k / j : Nat) : Int) :: (fullS (k % j) P).drop (k / j + 1) := by rw [rows_get]; exact po_head j P k n1 hkd
          have hz : (k % j + 0) % (rows j (poF P j k)).length = k % j := by rw [rows_len, Nat.add_zero, Nat.mod_mod]
          have hnx : (k % j + 1) % (rows j (poF P j k)).length = (k + 1) % j := by rw [rows_len, Nat.mod_add_mod]
          have hts := tot_set (rows j (poF P j k)) (k % j) ((fullS (k % j) P).drop (k / j + 1)) hkl
          have hlen0 : 0 < (rows j (poF P j k)).length := by rw [rows_len]; exact n1
          go_wp2_with fail
          refine (pop_okI q5 0 (k % j) hlen0 hkl hz (fun i hi => by omega) _ _ hh).mono ?_
          rintro e w6 ⟨rfl, q6, t6⟩
          have B6 := B5.step t6 (by decide)
          rw [hnx, po_pop j P k n1] at q6
          rw [hh, po_pop j P k n1, t5] at hts
          have I6 : ShI w w6 qb P ((k + 1) % j) (rows j (poF P j (k + 1))) (j * P - (k + 1)) := ⟨⟨_, q6, B6⟩, by simp at hts; omega⟩
          clear q6 B6 t6 hts q5 B5 t5 hh hz hnx hlen0 hkl
          have hm : (k : Int) % (j : Int) = ((k % j : Nat) : Int) := by simp
          have hd : (k : Int) / (j : Int) = ((k / j : Nat) : Int) := by simp
          have hv : ((1000 * (k % j) + k / j : Nat) : Int) = 1000 * ((k % j : Nat) : Int) + ((k / j : Nat) : Int) := by omega
          rw [hv]
          clear hv
          generalize k % j = d at hm hkj ⊢
          generalize k / j = q at hd hkd ⊢
          have c1 : (d : Int) < 64 := by omega
          have c2 : (q : Int) < 64 := by omega
          go_wp2_with fail
          go_roundw
          case rel => exact ⟨k + 1, by omega, by go_num, I6⟩
          case measure => simp [intOf]; omega
        · obtain rfl : k = m := by omega
          obtain ⟨⟨lab, q5, B5⟩, t5⟩ := I5
          have he : ((j * P - k : Nat) : Int) = (j : Int) * P - k := by
            rw [Int.ofNat_sub (by omega)]
            simp
          go_wp2_with fail
          refine (total_ok q5).mono ?_
          rw [t5, he]
          rintro e w6 ⟨rfl, hw6⟩
          subst w6
          clear he
          go_wp2_with fail
          go_ret
          exact ⟨rfl, B5.b⟩
end Go.Proofs.Ytkfdneohkgmmbaa
