/- The document's Wait and Expire. -/
import Derived.Test.YtjaheoccofcklabDoorR12
namespace Go.Proofs.YtjaheoccofcklabDoor
open Go.RowKit
set_option maxRecDepth 100000

theorem pow_le {r : Int} {k m : Nat} (hr : 0 ≤ r) (h : k ≤ m) : r * 2 ^ k ≤ r * 2 ^ m := by
  refine Int.mul_le_mul_of_nonneg_left ?_ hr
  have h1 : 2 ^ k ≤ 2 ^ m := Nat.pow_le_pow_right (by decide) h
  have a : (2 : Int) ^ k = ((2 ^ k : Nat) : Int) := by simp
  have b : (2 : Int) ^ m = ((2 ^ m : Nat) : Int) := by simp
  rw [a, b]
  exact Int.ofNat_le.2 h1

set_option maxHeartbeats 2000000 in
theorem dWait_any (p : Par) (e : Est) (w : World) :
    Calls Tryd.prog 8 #[paV p, esV e] w fun r w' => r = .returned (.int .i64 (waitF p e)) ∧ Below w.heap.size w w' := by
  have hp := PBox.of (heap_new1 w (paO p) (esO e))
  have he := EBox.of (heap_new2 w (paO p) (esO e))
  have hb := newBox2 w (paO p) (esO e)
  have hs : w.heap.size + 1 < ((w.alloc (paO p)).alloc (esO e)).heap.size := by simp
  go_enter Tryd.func8, Tryd.ntmps8
  go_wp2_with fail
  refine (dFits_any p e ((w.alloc (paO p)).alloc (esO e))).mono ?_
  rintro R w1 ⟨rfl, hb1⟩
  obtain ⟨p0, p1, p2⟩ := hp.later hb1 (by omega)
  obtain ⟨e0, e1, e2, e3, e4, _, _, _, _, _⟩ := he.later hb1 hs
  have hq := hb.trans (hb1.mono hb.size)
  clear hb hb1 hs hp he
  rcases (Decidable.em (May p e)).symm with ho | ho
  · rw [decide_eq_false ho]
    go_wp2
    go_ret
    exact ⟨by unfold waitF; rw [if_neg ho]; rfl, hq⟩
  rw [decide_eq_true ho]
  have hbig := rto_big ho
  have hn0 : 0 ≤ e.n := ho.2.2.2.2.2.2.2.1
  have hr0 : 1 ≤ e.r := by have := ho.1.1; have := ho.2.2.2.2.2.1; omega
  have hwF : waitF p e = min p.ma (e.r * 2 ^ e.n.toNat) := by unfold waitF; rw [if_pos ho]
  obtain ⟨N, hN⟩ : ∃ N : Nat, e.n = N := ⟨e.n.toNat, by omega⟩
  have hNt : e.n.toNat = N := by omega
  have hN20 : N ≤ 20 := by have := ho.2.2.2.2.2.2.2.2.1; omega
  rw [hNt] at hbig hwF
  rw [hN] at e3
  have HF := Hid.mk hwF
  clear hwF hNt hN hn0
  go_wp2_with fail
  go_loopw [6, 7] (fun u v wr => ∃ k : Nat, k ≤ N ∧ v = .int .i64 k ∧ u = .int .i64 (e.r * 2 ^ k) ∧ wr = w1) (fun _ v _ => N - (intOf v).toNat)
  case atStart => exact ⟨0, Nat.zero_le _, rfl, by simp, rfl⟩
  case round =>
    obtain ⟨k, hk, rfl, rfl, rfl⟩ := hrel
    have hpk := pow_le (r := e.r) (k := k) (m := N) (by omega) hk
    have hp0 := pow_le (r := e.r) (k := 0) (m := k) (by omega) (Nat.zero_le _)
    rw [Int.pow_zero, Int.mul_one] at hp0
    have hps : 2 * (e.r * 2 ^ k) = e.r * 2 ^ (k + 1) := by rw [Int.pow_succ, ← Int.mul_assoc e.r, Int.mul_comm 2 (e.r * 2 ^ k)]
    have HPS := Hid.mk hps
    clear hps
    generalize hY : e.r * 2 ^ k = Y at *
    generalize hZ : e.r * 2 ^ N = Z at *
    by_cases c0 : (k : Int) < N
    · have d0 : decide ((k : Int) < (N : Int)) = true := decide_eq_true c0
      by_cases c1 : Y < p.ma
      · have d1 : decide (Y < p.ma) = true := decide_eq_true c1
        clear hY hZ
        go_wp2
        go_roundw
        case rel => exact ⟨k + 1, by omega, by go_num, by rw [HPS.out], by first | rfl | trivial⟩
        case measure => simp [intOf]; omega
      · have d1 : decide (Y < p.ma) = false := decide_eq_false c1
        by_cases c2 : p.ma < Y
        · have d2 : decide (p.ma < Y) = true := decide_eq_true c2
          clear hY hZ
          go_wp2
          go_ret
          exact ⟨by rw [HF.out, Int.min_eq_left (by omega)]; rfl, hq⟩
        · have d2 : decide (p.ma < Y) = false := decide_eq_false c2
          obtain rfl : p.ma = Y := by omega
          clear hY hZ
          go_wp2
          go_ret
          exact ⟨by rw [HF.out, Int.min_eq_left (by omega)]; rfl, hq⟩
    · have d0 : decide ((k : Int) < (N : Int)) = false := decide_eq_false c0
      obtain rfl : k = N := by omega
      obtain rfl : Y = Z := by rw [← hY, ← hZ]
      by_cases c2 : p.ma < Y
      · have d2 : decide (p.ma < Y) = true := decide_eq_true c2
        clear hY hZ
        go_wp2
        go_ret
        exact ⟨by rw [HF.out, Int.min_eq_left (by omega)]; rfl, hq⟩
      · have d2 : decide (p.ma < Y) = false := decide_eq_false c2
        clear hY hZ
        go_wp2
        go_ret
        exact ⟨by rw [HF.out, Int.min_eq_right (by omega)]; rfl, hq⟩

set_option maxHeartbeats 2000000 in
theorem dExpire_any (p : Par) (e : Est) (w : World) :
    Calls Tryd.prog 10 #[paV p, esV e] w fun r w' => r = .returned (esV (expF p e)) ∧ Below w.heap.size w w' := by
  have hp := PBox.of (heap_new31 w (paO p) (esO e) zO)
  have he := EBox.of (e := e) (heap_new32 w (paO p) (esO e) zO)
  have hz : EBox (((w.alloc (paO p)).alloc (esO e)).alloc zO) (w.heap.size + 1 + 1) esZ := EBox.of (e := esZ) (heap_new33 w (paO p) (esO e) zO)
  have hb := newBox3 w (paO p) (esO e) zO
  have hs : w.heap.size + 1 + 1 < (((w.alloc (paO p)).alloc (esO e)).alloc zO).heap.size := by simp
  go_enter Tryd.func10, Tryd.ntmps10
  go_wp2_with fail
  refine (dFits_any p e (((w.alloc (paO p)).alloc (esO e)).alloc zO)).mono ?_
  rintro R w1 ⟨rfl, hb1⟩
  have hp1 := hp.later hb1 (by omega)
  have he1 := he.later hb1 (by omega)
  have hz1 := hz.later hb1 hs
  have hq1 := hb.trans (hb1.mono hb.size)
  have hs1 := Nat.lt_of_lt_of_le hs hb1.size
  clear hp he hz hb hs hb1
  rcases (Decidable.em (May p e)).symm with ho | ho
  · rw [decide_eq_false ho]
    have hzk := hz1
    obtain ⟨z0, z1, z2, z3, z4, g0, g1, g2, g3, g4⟩ := hz1
    go_wp2
    refine end_est rfl rfl hzk ⟨?_, below_eset hq1 (show w.heap.size ≤ w.heap.size + 1 + 1 by omega) _⟩
    simp only [expF, if_neg ho]
    rfl
  rw [decide_eq_true ho]
  have hpk := hp1
  have hek := he1
  obtain ⟨p0, p1, p2⟩ := hpk
  obtain ⟨e0, e1, e2, e3, e4, f0, f1, f2, f3, f4⟩ := hek
  go_wp2_with fail
  clear p0 p1 p2 e0 e1 e2 e3 e4 f0 f1 f2 f3 f4
  refine (dWait_any p e w1).mono ?_
  rintro R w2 ⟨rfl, hb2⟩
  have hp2 := hp1.later hb2 (by omega)
  have he2 := he1.later hb2 (by omega)
  have hz2 := hz1.later hb2 hs1
  have hq2 := hq1.trans (hb2.mono hq1.size)
  clear hp1 he1 hz1 hq1 hs1 hb2
  have hzk := hz2
  have hek := he2
  obtain ⟨p0, p1, p2⟩ := hp2
  obtain ⟨e0, e1, e2, e3, e4, f0, f1, f2, f3, f4⟩ := he2
  obtain ⟨z0, z1, z2, z3, z4, g0, g1, g2, g3, g4⟩ := hz2
  by_cases hw : waitF p e < p.ma
  · have hn := (exp_keep ho hw).2
    have hn0 : 0 ≤ e.n := ho.2.2.2.2.2.2.2.1
    have dw : decide (waitF p e < p.ma) = true := decide_eq_true hw
    go_wp2
    refine end_est rfl rfl (hzk.off (b' := w.heap.size + 1) (by omega) _) ⟨?_, below_eset (hq2.setCell (p := ⟨w.heap.size + 1, 3, none⟩) (Nat.le_succ _) _) (show w.heap.size ≤ w.heap.size + 1 + 1 by omega) _⟩
    simp only [expF, if_pos ho, if_pos hw]
  · have dw : decide (waitF p e < p.ma) = false := decide_eq_false hw
    have HW := Hid.mk hw
    go_wp2
    refine end_est rfl rfl hzk ⟨?_, below_eset hq2 (show w.heap.size ≤ w.heap.size + 1 + 1 by omega) _⟩
    simp only [expF, if_pos ho, if_neg (Int.not_lt.2 HW.out)]
end Go.Proofs.YtjaheoccofcklabDoor
