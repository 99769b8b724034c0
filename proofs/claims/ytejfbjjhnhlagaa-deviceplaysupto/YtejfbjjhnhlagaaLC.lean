/- known answers true. -/
import Derived.Test.YtejfbjjhnhlagaaLB
namespace Go.Proofs.Ytejfbjjhnhlagaa
open Go.RowKit Go.Maps
set_option maxRecDepth 100000

theorem zeros_dec (n m : Nat) : decide (∀ t, t < m → (List.replicate n (0 : Int)).getD t 0 = 0) = true := by
  rw [decide_eq_true]
  intro t ht
  rw [List.getD_eq_getElem?_getD, List.getElem?_replicate]
  split <;> rfl
theorem same_true (ao bo : Option Addr) (n m c1 c2 : Nat) (xs : List Int) (w : World) (hn : n ≤ 200000000000000) (hA : Lies w ao n c1 xs) (hB : Lies w bo m c2 xs) :
    Calls Try.prog 19 #[.slice ao n c1, .slice bo m c2] w fun e w' => e = .returned (.bool true) ∧ ∃ m, w' = w.drewN m := by
  refine (same_any ao bo n m c1 c2 xs xs w hn hA hB).mono ?_
  rintro e w' ⟨rfl, h⟩
  exact ⟨by simp, h⟩
theorem Lies.heap {w w' : World} {ao : Option Addr} {n c : Nat} {bs : List Int} (h : Lies w ao n c bs) (e : w'.heap = w.heap) : Lies w' ao n c bs :=
  ⟨h.hlen, h.hle, h.hnone, fun ad had t u hu => by
    have hc := h.hcells ad had t u hu
    simpa [World.cell?, e] using hc⟩
theorem Below.drewN {B : Nat} {w w' : World} (h : Below B w w') (m : Nat) : Below B w (w'.drewN m) := ⟨h.os, h.tape, h.output, h.size, h.block⟩
theorem Below.from_drewN {w w' : World} {m : Nat} (h : Below (w.drewN m).heap.size (w.drewN m) w') : Below w.heap.size w w' := ⟨h.os, h.tape, h.output, h.size, h.block⟩
theorem Below.from_drew {w w' : World} (h : Below w.drew.heap.size w.drew w') : Below w.heap.size w w' := ⟨h.os, h.tape, h.output, h.size, h.block⟩
def kS0 : DevS := fresh (List.replicate (512 * 2) 0)
def kS1 : DevS := wrote kS0 1 (List.replicate 512 7)
def kS2 : DevS := flushed kS1
def kS3 : DevS := wrote kS2 0 (List.replicate 512 9)
def kS4 : DevS := fresh kS2.last
theorem kS2_last : kS2.last = List.replicate 512 0 ++ List.replicate 512 7 := by
  show splice (List.replicate (512 * 2) 0) (512 * 1) (List.replicate 512 7) = _
  unfold splice
  rw [List.take_replicate, List.drop_replicate, List.length_replicate]
  rw [show min (512 * 1) (512 * 2) = 512 by omega, show 512 * 2 - (512 * 1 + 512) = 0 by omega]
  simp
theorem k_read : rdB kS1 1 = List.replicate 512 7 := by
  have e : newest kS1.pend 1 = some (List.replicate 512 7) := rfl
  unfold rdB
  rw [e]; rfl
theorem k_read4 : rdB kS4 0 = List.replicate 512 0 := by
  show ((kS2.last.drop (512 * 0)).take 512) = _
  rw [kS2_last]
  rw [show 512 * 0 = 0 by omega, List.drop_zero, List.take_append_of_le_length (by simp)]
  simp

set_option maxHeartbeats 8000000 in
theorem known_any (w : World) : Calls Try.prog 4 #[] w fun e w' => e = .returned (.bool true) ∧ Below w.heap.size w w' := by
  go_enter Try.func4, Try.ntmps4
  go_wp2_with fail
  refine (new_good 2 w (by omega) (by omega)).mono ?_
  rintro e w1 ⟨db, rfl, D1, B1⟩
  have hF1 : ∀ i, grow (fun _ => False) w w1 i → w.heap.size ≤ i := fun i h => h.elim False.elim (fun h => h.1)
  replace D1 : Dev w1 db 0 kS0 2 0 (grow (fun _ => False) w w1) := D1
  generalize grow (fun _ => False) w w1 = F1 at *
  go_wp2_with fail
  refine (full_on D1.lt 7).mono ?_
  rintro e w2 ⟨g2, rfl, o2, hb2, _⟩
  have D2 := D1.below hb2
  have B2 := B1.trans (hb2.mono B1.size)
  go_wp2_with fail
  refine (write_on D2 rfl rfl 1 (by omega) g2 _ o2 (by simp) (fullD 7 (by omega)) (by omega)).mono ?_
  rintro e w3 ⟨rfl, D3, t3⟩
  have B3 := B2.trans (t3.below hF1 B2.size)
  have hF3 := grow_below (w' := w3) hF1 B2.size
  replace D3 : Dev w3 db 0 kS1 2 1 (grow F1 w2 w3) := D3
  generalize grow F1 w2 w3 = F3 at *
  clear D1 D2 o2 hb2 t3 hF1
  go_wp2_with fail
  refine (read_on D3 rfl 1 (by omega)).mono ?_
  rintro e w4 ⟨ga, rfl, oa, D4, t4, _⟩
  have B4 := B3.trans (t4.below hF3 B3.size)
  rw [k_read] at oa
  clear D3 t4
  go_wp2_with fail
  refine (durable_on D4).mono ?_
  rintro e w5 ⟨gb, rfl, ob, D5, t5, _⟩
  have B5 := B4.trans (t5.below hF3 B4.size)
  replace oa := oa.same t5
  replace ob : Out w5 F3 gb (List.replicate (512 * 2) 0) := ob
  clear D4 t5
  go_wp2_with fail
  refine (flush_on D5 rfl rfl (by omega)).mono ?_
  rintro e w6 ⟨rfl, D6, t6⟩
  have B6 := B5.trans (t6.below hF3 B5.size)
  have hF6 := grow_below (w' := w6) hF3 B5.size
  replace oa := oa.went t6
  replace ob := ob.went t6
  replace D6 : Dev w6 db 0 kS2 2 1 (grow F3 w5 w6) := D6
  generalize grow F3 w5 w6 = F6 at *
  clear D5 t6 hF3
  go_wp2_with fail
  refine (durable_on D6).mono ?_
  rintro e w7 ⟨gc, rfl, oc, D7, t7, _⟩
  have B7 := B6.trans (t7.below hF6 B6.size)
  rw [kS2_last] at oc
  replace oa := oa.same t7
  replace ob := ob.same t7
  clear D6 t7
  go_wp2_with fail
  refine (full_on D7.lt 9).mono ?_
  rintro e w8 ⟨g8, rfl, o8, hb8, _⟩
  have D8 := D7.below hb8
  have B8 := B7.trans (hb8.mono B7.size)
  replace oa := oa.below hb8
  replace ob := ob.below hb8
  replace oc := oc.below hb8
  clear D7 hb8
  go_wp2_with fail
  refine (write_on D8 rfl rfl 0 (by omega) g8 _ o8 (by simp) (fullD 9 (by omega)) (by omega)).mono ?_
  rintro e w9 ⟨rfl, D9, t9⟩
  have B9 := B8.trans (t9.below hF6 B8.size)
  have hF9 := grow_below (w' := w9) hF6 B8.size
  replace oa := oa.went t9
  replace ob := ob.went t9
  replace oc := oc.went t9
  replace D9 : Dev w9 db 0 kS3 2 2 (grow F6 w8 w9) := D9
  generalize grow F6 w8 w9 = F9 at *
  clear D8 t9 hF6 o8
  go_wp2_with fail
  refine (crash_nil D9 (by omega)).mono ?_
  rintro e w10 ⟨rfl, D10, t10⟩
  have B10 := B9.trans (t10.below hF9 B9.size)
  have hF10 := grow_below (w' := w10) hF9 B9.size
  replace oa := oa.went t10
  replace ob := ob.went t10
  replace oc := oc.went t10
  replace D10 : Dev w10 db 0 kS4 2 2 (grow F9 w9 w10) := D10
  generalize grow F9 w9 w10 = F10 at *
  clear D9 t10 hF9
  go_wp2_with fail
  refine (read_on D10 rfl 0 (by omega)).mono ?_
  rintro e w11 ⟨gd, rfl, od, D11, t11, _⟩
  have B11 := B10.trans (t11.below hF10 B10.size)
  rw [k_read4] at od
  replace oa := oa.same t11
  replace ob := ob.same t11
  replace oc := oc.same t11
  clear D10 D11 t11
  have zd := zero_any (some ⟨gd, 0, none⟩) 512 512 _ w11 (by omega) (od.lies (by simp))
  have zb := zero_any (some ⟨gb, 0, none⟩) 1024 1024 _ w11 (by omega) (ob.lies (by simp))
  rw [zeros_dec] at zd zb
  go_wp2_with fail
  refine zd.mono ?_
  rintro e wn ⟨rfl, hwn⟩
  subst wn
  clear zd
  go_wp2_with fail
  refine zb.mono ?_
  rintro e wn ⟨rfl, hwn⟩
  subst wn
  clear zb
  go_wp2_with (first
    | (go_at_call 18; refine (num_id _ _).mono ?_; rintro e wn ⟨rfl, hwn⟩; subst wn))
  have la := oa.lies (n := 512) (by simp)
  have lc : Lies w11 (some ⟨gc, 512, none⟩) 512 512 (List.replicate 512 7) := by
    have q := Lies.piece (o := 512) (n := 512) (c := 512) oc.blk (by simp) (by omega)
    simpa using q
  clear oa ob oc od
  have HF : Hid (∀ W : World, Calls Try.prog 12 #[.int .u8 7] W fun e w' => ∃ g, e = .returned (.slice (some ⟨g, 0, none⟩) 512 512) ∧ Lies w' (some ⟨g, 0, none⟩) 512 512 (List.replicate 512 7) ∧ Below W.heap.size W w') := fun W => (full_any 7 W).mono (by
    rintro e w' ⟨g, rfl, hg, hgb, hb⟩
    exact ⟨g, rfl, Lies.full hgb (by simp), hb⟩)
  generalize List.replicate 512 (7 : Int) = X at *
  go_region_held3 (fun _ => True) (trivial) (first
    | (go_at_call 12; refine (HF.out w11.drew).mono ?_; rintro e w12 ⟨g12, rfl, lf12, hb12⟩; have hb12 := Below.from_drew hb12; have la12 := la.below hb12 (Nat.le_refl _); have lc12 := lc.below hb12 (Nat.le_refl _); have B12 := B11.trans (hb12.mono B11.size))
    | (go_at_call_of 19 (Value.slice (some ⟨ga, 0, none⟩) 512 512); refine (same_true (some ⟨ga, 0, none⟩) (some ⟨g12, 0, none⟩) 512 512 512 512 X w12 (by decide) la12 lf12).mono ?_; rintro e w13 ⟨rfl, t13, rfl⟩; have B13 : Below w.heap.size w (w12.drewN t13) := Below.drewN B12 t13; have lc13 : Lies (w12.drewN t13) (some ⟨gc, 512, none⟩) 512 512 X := lc12.heap rfl)
    | (go_at_call 12; refine (HF.out (w12.drewN t13)).mono ?_; rintro e w14 ⟨g14, rfl, lf14, hb14⟩; have lc14 := lc13.below hb14 (Nat.le_refl _); have B14 := B13.trans (hb14.mono B13.size))
    | (go_at_call_of 19 (Value.slice (some ⟨gc, 512, none⟩) 512 512); refine (same_true (some ⟨gc, 512, none⟩) (some ⟨g14, 0, none⟩) 512 512 512 512 X w14 (by decide) lc14 lf14).mono ?_; rintro e w15 ⟨rfl, t15, rfl⟩; have B15 : Below w.heap.size w (w14.drewN t15) := Below.drewN B14 t15))
  go_wp2_with fail
  go_ret
  exact ⟨rfl, B15⟩
end Go.Proofs.Ytejfbjjhnhlagaa
