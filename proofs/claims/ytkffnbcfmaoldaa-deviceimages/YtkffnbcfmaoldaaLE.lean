/- annexlaw5.DeviceImages by its walk. -/
import Derived.Test.YtkffnbcfmaoldaaLD
namespace Go.Proofs.Ytkffnbcfmaoldaa
open Go.RowKit Go.Maps
set_option maxRecDepth 100000

/-- A device, or none. -/
def MayDev (w w' : World) (v : Value) (p : Prop) (k : Nat) (bs : List Int) : Prop := (¬ p ∧ v = .pointer none) ∨ (p ∧ ∃ db F, v = .pointer (some ⟨db, 0, none⟩) ∧ Dev w' db 0 (fresh bs) k 0 F ∧ (∀ i, F i → w.heap.size ≤ i))
theorem pend0 {w : World} {db : Nat} {bs : List Int} {k N : Nat} {F : Nat → Prop} (h : Dev w db 0 (fresh bs) k N F) (hN : N ≤ 1099511627776) :
    Calls Try.prog 15 #[.pointer (some ⟨db, 0, none⟩)] w fun e w' => ∃ G, e = .returned (.slice (some ⟨G, 0, none⟩) 0 0) ∧ Dev w' db 0 (fresh bs) k N F ∧ Turns F w w' := by
  refine (pending_any h hN).mono ?_
  rintro e w' ⟨⟨G, gs, rfl, _⟩, hD, hT⟩
  exact ⟨G, rfl, hD, hT⟩
theorem MayDev.apart {w w1 : World} {F : Nat → Prop} {db k : Nat} {bs : List Int} (h : Dev w db 0 (fresh bs) k 0 F) (hF : ∀ i, F i → w1.heap.size ≤ i) {G : Nat → Prop} (hG : ∀ i, G i → i < w1.heap.size) {w' : World} (t : Turns G w w') : Dev w' db 0 (fresh bs) k 0 F :=
  h.turns t (fun i hi hg => by have := hF i hi; have := hG i hg; omega)

set_option maxHeartbeats 8000000 in
theorem images_any (n : Int) (ao : Option Addr) (m c : Nat) (bs : List Int) (w : World) (hn : -9223372036854775808 ≤ n ∧ n ≤ 9223372036854775807) (hm : m ≤ 140737488351232) (hL : Lies w ao m c bs) (hby : ∀ x ∈ bs, 0 ≤ x ∧ x ≤ 255) :
    Calls Try.prog 6 #[.int .i64 n, .slice ao m c] w fun e w' => e = .returned (.bool true) ∧ Below w.heap.size w w' := by
  have hmi : (m : Int) ≤ 140737488351232 := by omega
  go_enter Try.func6, Try.ntmps6
  go_wp2_with fail
  refine (known_any _).mono ?_
  rintro e w1 ⟨rfl, B1⟩
  go_wp2_with fail
  by_cases h1 : 1 ≤ n ∧ n ≤ 4096
  · obtain ⟨k, rfl⟩ : ∃ k : Nat, n = k := ⟨n.toNat, by omega⟩
    have hnew := new_good k w1 (by omega) (by omega)
    have href := fun w => refNew_good k w (by omega) (by omega)
    have hXl : (List.replicate (512 * k) (0 : Int)).length = 512 * k := by simp
    generalize List.replicate (512 * k) (0 : Int) = X at *
    refine hnew.mono ?_
    rintro e w2 ⟨db, rfl, Da, b2⟩
    clear hnew
    have hFa := Da.lt
    have hFb0 : ∀ i, grow (fun _ => False) w1 w2 i → w.heap.size ≤ i := fun i h => h.elim False.elim (fun h => Nat.le_trans B1.size h.1)
    generalize grow (fun _ => False) w1 w2 = Fa at *
    have B2 := B1.trans (b2.mono B1.size)
    have s12 := b2.size
    clear b2
    go_wp2_with fail
    refine (href _).mono ?_
    rintro e w3 ⟨⟨rb, rfl, R3⟩, b3⟩
    clear href
    have Da3 := Da.below b3
    have B3 := B2.trans (b3.mono B2.size)
    have s23 := b3.size
    clear Da b3
    by_cases h2 : imgB m
    · obtain ⟨k2, rfl⟩ : ∃ k2, m = 512 * k2 := ⟨m / 512, by unfold imgB at h2; omega⟩
      have hk2 : 1 ≤ k2 ∧ k2 ≤ 4096 := by unfold imgB at h2; omega
      have hk2i : (k2 : Int) ≤ 4096 := by omega
      go_wp2_with fail
      refine (image_good ao k2 c bs _ hk2.1 hk2.2 (hL.below B3 (Nat.le_refl _)) hby).mono ?_
      rintro e w4 ⟨dc, rfl, Dc, b4⟩
      have hFc : ∀ i, grow (fun _ => False) w3 w4 i → w3.heap.size ≤ i := fun i h => h.elim False.elim (fun h => h.1)
      generalize grow (fun _ => False) w3 w4 = Fc at *
      have hFc0 : ∀ i, Fc i → w.heap.size ≤ i := fun i hi => Nat.le_trans B3.size (hFc i hi)
      have B4 := B3.trans (b4.mono B3.size)
      have Da4 := Da3.below b4
      have R4 := R3.below b4
      clear Da3 R3
      clear b4
      go_wp2_with fail
      refine (refImage_good ao k2 c bs _ hk2.1 hk2.2 (hL.below B4 (Nat.le_refl _))).mono ?_
      rintro e w5 ⟨⟨rd, rfl⟩, b5⟩
      have Dc5 := Dc.below b5
      have B5 := B4.trans (b5.mono B4.size)
      have Da5 := Da4.below b5
      have R5 := R4.below b5
      have hFa3 : ∀ i, Fa i → i < w3.heap.size := fun i hi => by have := hFa i hi; omega
      clear Da4 R4
      clear Dc b5
      go_wp2_with (go_at_call 20; refine (num_id _ _).mono ?_; rintro e wn ⟨rfl, hwn⟩; subst wn)
      refine (durable_on Da5).mono ?_
      rintro e w6 ⟨g6, rfl, o6, Da6, t6, _⟩
      have Dc6 := MayDev.apart Dc5 hFc hFa3 t6
      have R6 := R5.turns t6 hFa
      have B6 := B5.trans (t6.below hFb0 B5.size)
      clear Da5 t6
      go_wp2_with fail
      refine (refDurable_any rb _ _ _ R6 (512 * k) hXl (by omega) (by omega)).mono ?_
      rintro e w7 ⟨⟨a7, c7, rfl, L7⟩, b7⟩
      have o7 := o6.below b7
      have Da7 := Da6.below b7
      have Dc7 := Dc6.below b7
      have B7 := B6.trans (b7.mono B6.size)
      have L6 : Lies w7 (some ⟨g6, 0, none⟩) (512 * k) (512 * k) X := o7.lies hXl
      clear Da6 b7 R6 o6
      go_wp2_with fail
      refine (same_true _ _ (512 * k) (512 * k) (512 * k) c7 X _ (by omega) L6 L7).mono ?_
      rintro e w8 ⟨rfl, t8, rfl⟩
      have Da8 := Da7.turns (Turns.drewN (fun _ => False) w7 t8) (fun _ _ => id)
      have Dc8 := Dc7.turns (Turns.drewN (fun _ => False) w7 t8) (fun _ _ => id)
      have B8 := Below.drewN B7 t8
      generalize w7.drewN t8 = w8 at *
      clear Da7 o7 L6 L7
      go_wp2_with fail
      refine (size_any Da8).mono ?_
      rintro e w9 ⟨rfl, Da9, t9⟩
      have Dc9 := MayDev.apart Dc8 hFc hFa3 t9
      have B9 := B8.trans (t9.below hFb0 B8.size)
      clear Da8 t9
      go_wp2_with fail
      refine (power_any Da9).mono ?_
      rintro e w10 ⟨rfl, Da10, t10⟩
      have Dc10 := MayDev.apart Dc9 hFc hFa3 t10
      have B10 := B9.trans (t10.below hFb0 B9.size)
      clear Da9 t10
      have hoff : (fresh X).off = false := rfl
      rw [hoff]
      go_wp2_with fail
      refine (pend0 Da10 (by omega)).mono ?_
      rintro e w11 ⟨G11, rfl, Da11, t11⟩
      have Dc11 := MayDev.apart Dc10 hFc hFa3 t11
      have B11 := B10.trans (t11.below hFb0 B10.size)
      clear Da10 Da11 t11
      go_wp2_with (go_at_call 20; refine (num_id _ _).mono ?_; rintro e wn ⟨rfl, hwn⟩; subst wn)
      refine (durable_on Dc11).mono ?_
      rintro e w12 ⟨g12, rfl, o12, Dc12, t12, _⟩
      have B12 := B11.trans (t12.below hFc0 B11.size)
      have LD := hL.below B12 (Nat.le_refl _)
      have L12 : Lies w12 (some ⟨g12, 0, none⟩) (512 * k2) (512 * k2) bs := o12.lies hL.hlen
      clear Dc11 t12
      go_wp2_with fail
      refine (same_true _ _ (512 * k2) (512 * k2) (512 * k2) c bs _ (by omega) L12 LD).mono ?_
      rintro e w13 ⟨rfl, t13, rfl⟩
      have Dc13 := Dc12.turns (Turns.drewN (fun _ => False) w12 t13) (fun _ _ => id)
      have B13 := Below.drewN B12 t13
      generalize w12.drewN t13 = w13 at *
      clear Dc12 o12 L12 LD
      go_wp2_with fail
      refine (size_any Dc13).mono ?_
      rintro e w14 ⟨rfl, Dc14, t14⟩
      have B14 := B13.trans (t14.below hFc0 B13.size)
      clear Dc13 t14
      go_wp2_with fail
      refine (power_any Dc14).mono ?_
      rintro e w15 ⟨rfl, Dc15, t15⟩
      have B15 := B14.trans (t15.below hFc0 B14.size)
      clear Dc14 t15
      have hoff2 : (fresh bs).off = false := rfl
      rw [hoff2]
      go_wp2_with fail
      refine (pend0 Dc15 (by omega)).mono ?_
      rintro e w16 ⟨G16, rfl, Dc16, t16⟩
      have B16 := B15.trans (t16.below hFc0 B15.size)
      go_wp2_with fail
      go_ret
      exact ⟨rfl, B16⟩
    · go_wp2_with fail
      refine (image_bad ao m c _ (by omega) h2).mono ?_
      rintro e w4 ⟨rfl, hw4⟩
      subst w4
      go_wp2_with fail
      refine (refImage_bad ao m c _ (by omega) h2).mono ?_
      rintro e w5 ⟨rfl, hw5⟩
      subst w5
      have B5 := B3
      have Da5 := Da3
      have R5 := R3
      clear Da3 R3
      go_wp2_with (go_at_call 20; refine (num_id _ _).mono ?_; rintro e wn ⟨rfl, hwn⟩; subst wn)
      refine (durable_on Da5).mono ?_
      rintro e w6 ⟨g6, rfl, o6, Da6, t6, _⟩
      have R6 := R5.turns t6 hFa
      have B6 := B5.trans (t6.below hFb0 B5.size)
      clear Da5 t6
      go_wp2_with fail
      refine (refDurable_any rb _ _ _ R6 (512 * k) hXl (by omega) (by omega)).mono ?_
      rintro e w7 ⟨⟨a7, c7, rfl, L7⟩, b7⟩
      have o7 := o6.below b7
      have Da7 := Da6.below b7
      have B7 := B6.trans (b7.mono B6.size)
      have L6 : Lies w7 (some ⟨g6, 0, none⟩) (512 * k) (512 * k) X := o7.lies hXl
      clear Da6 b7 R6 o6
      go_wp2_with fail
      refine (same_true _ _ (512 * k) (512 * k) (512 * k) c7 X _ (by omega) L6 L7).mono ?_
      rintro e w8 ⟨rfl, t8, rfl⟩
      have Da8 := Da7.turns (Turns.drewN (fun _ => False) w7 t8) (fun _ _ => id)
      have B8 := Below.drewN B7 t8
      generalize w7.drewN t8 = w8 at *
      clear Da7 o7 L6 L7
      go_wp2_with fail
      refine (size_any Da8).mono ?_
      rintro e w9 ⟨rfl, Da9, t9⟩
      have B9 := B8.trans (t9.below hFb0 B8.size)
      clear Da8 t9
      go_wp2_with fail
      refine (power_any Da9).mono ?_
      rintro e w10 ⟨rfl, Da10, t10⟩
      have B10 := B9.trans (t10.below hFb0 B9.size)
      clear Da9 t10
      have hoff : (fresh X).off = false := rfl
      rw [hoff]
      go_wp2_with fail
      refine (pend0 Da10 (by omega)).mono ?_
      rintro e w11 ⟨G11, rfl, Da11, t11⟩
      have B11 := B10.trans (t11.below hFb0 B10.size)
      clear Da10 Da11 t11
      go_wp2_with (go_at_call 20; refine (num_id _ _).mono ?_; rintro e wn ⟨rfl, hwn⟩; subst wn)
      go_ret
      exact ⟨rfl, B11⟩
  · refine (new_bad n _ h1).mono ?_
    rintro e w2 ⟨rfl, hw2⟩
    subst w2
    go_wp2_with fail
    refine (refNew_bad n _ h1).mono ?_
    rintro e w3 ⟨rfl, hw3⟩
    subst w3
    have B3 := B1
    obtain ⟨w3, hw3⟩ : ∃ w3, w1 = w3 := ⟨_, rfl⟩
    subst hw3
    by_cases h2 : imgB m
    · obtain ⟨k2, rfl⟩ : ∃ k2, m = 512 * k2 := ⟨m / 512, by unfold imgB at h2; omega⟩
      have hk2 : 1 ≤ k2 ∧ k2 ≤ 4096 := by unfold imgB at h2; omega
      have hk2i : (k2 : Int) ≤ 4096 := by omega
      go_wp2_with fail
      refine (image_good ao k2 c bs _ hk2.1 hk2.2 (hL.below B3 (Nat.le_refl _)) hby).mono ?_
      rintro e w4 ⟨dc, rfl, Dc, b4⟩
      have hFc : ∀ i, grow (fun _ => False) w1 w4 i → w1.heap.size ≤ i := fun i h => h.elim False.elim (fun h => h.1)
      generalize grow (fun _ => False) w1 w4 = Fc at *
      have hFc0 : ∀ i, Fc i → w.heap.size ≤ i := fun i hi => Nat.le_trans B3.size (hFc i hi)
      have B4 := B3.trans (b4.mono B3.size)
      clear b4
      go_wp2_with fail
      refine (refImage_good ao k2 c bs _ hk2.1 hk2.2 (hL.below B4 (Nat.le_refl _))).mono ?_
      rintro e w5 ⟨⟨rd, rfl⟩, b5⟩
      have Dc5 := Dc.below b5
      have B5 := B4.trans (b5.mono B4.size)
      clear Dc b5
      have B11 := B5
      have Dc11 := Dc5
      go_wp2_with (go_at_call 20; refine (num_id _ _).mono ?_; rintro e wn ⟨rfl, hwn⟩; subst wn)
      refine (durable_on Dc11).mono ?_
      rintro e w12 ⟨g12, rfl, o12, Dc12, t12, _⟩
      have B12 := B11.trans (t12.below hFc0 B11.size)
      have LD := hL.below B12 (Nat.le_refl _)
      have L12 : Lies w12 (some ⟨g12, 0, none⟩) (512 * k2) (512 * k2) bs := o12.lies hL.hlen
      clear Dc11 t12
      go_wp2_with fail
      refine (same_true _ _ (512 * k2) (512 * k2) (512 * k2) c bs _ (by omega) L12 LD).mono ?_
      rintro e w13 ⟨rfl, t13, rfl⟩
      have Dc13 := Dc12.turns (Turns.drewN (fun _ => False) w12 t13) (fun _ _ => id)
      have B13 := Below.drewN B12 t13
      generalize w12.drewN t13 = w13 at *
      clear Dc12 o12 L12 LD
      go_wp2_with fail
      refine (size_any Dc13).mono ?_
      rintro e w14 ⟨rfl, Dc14, t14⟩
      have B14 := B13.trans (t14.below hFc0 B13.size)
      clear Dc13 t14
      go_wp2_with fail
      refine (power_any Dc14).mono ?_
      rintro e w15 ⟨rfl, Dc15, t15⟩
      have B15 := B14.trans (t15.below hFc0 B14.size)
      clear Dc14 t15
      have hoff2 : (fresh bs).off = false := rfl
      rw [hoff2]
      go_wp2_with fail
      refine (pend0 Dc15 (by omega)).mono ?_
      rintro e w16 ⟨G16, rfl, Dc16, t16⟩
      have B16 := B15.trans (t16.below hFc0 B15.size)
      go_wp2_with fail
      go_ret
      exact ⟨rfl, B16⟩
    · go_wp2_with fail
      refine (image_bad ao m c _ (by omega) h2).mono ?_
      rintro e w4 ⟨rfl, hw4⟩
      subst w4
      go_wp2_with fail
      refine (refImage_bad ao m c _ (by omega) h2).mono ?_
      rintro e w5 ⟨rfl, hw5⟩
      subst w5
      have B5 := B3
      have B11 := B5
      go_wp2_with (go_at_call 20; refine (num_id _ _).mono ?_; rintro e wn ⟨rfl, hwn⟩; subst wn)
      go_ret
      exact ⟨rfl, B11⟩
end Go.Proofs.Ytkffnbcfmaoldaa
