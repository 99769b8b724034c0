/- The book: sees. -/
import Derived.Test.YtlcjkbhcbiggcaaGreatDoorB11
import Derived.Deep.RegionHeld
namespace Go.Proofs.YtlcjkbhcbiggcaaGreatDoor
open Go.RowKit Go.Maps
set_option maxRecDepth 100000

attribute [local go_sem ↓ 100000] in_load in_ex
set_option maxHeartbeats 8000000 in
theorem sees_any {w0 w : World} {wb N kb : Nat} {c : Kc} {i : Nat} {ks : List Nat} {m : Nat} {T : Nat → Rec} {L : List Ino} {G : List Int} {F : Nat → Prop} {v : Nat → List Int} {lv gv : Value} (h : Sk w0 w wb N kb c i ks m T L G F v lv gv) :
    Calls Tryz.prog 14 #[.pointer (some ⟨kb, 0, none⟩), .pointer (some ⟨wb, 0, none⟩)] w fun e w' => e = .returned (.bool true) ∧ SkR w0 w w' wb N kb c i ks m T G F lv gv := by
  have hN := h.st.n2
  go_enter Tryz.func14, Tryz.ntmps14
  go_wp2_with fail
  refine (all9_any h.st).mono ?_
  rintro e w1 ⟨uv, rfl, o1, z1⟩
  have HR : Hid (∀ w', Below w1.heap.size w1 w' → SkR w0 w w' wb N kb c i ks m T G F lv gv) := fun w' b => h.same z1 b
  obtain ⟨F1, v1, s1, bo1, nF1, t1, f1⟩ := h.stepO (o := none) (fun _ _ q => by cases q) z1
  obtain ⟨pU, cU, rfl, hpU⟩ := own_form o1
  obtain ⟨pL, cL, hlv, hpL⟩ := own_form bo1.lo
  have hlen := h.ok.perm.length_eq
  have HB := h.ok
  have hKl : (used T N).length ≤ 256 := by have := used_len T N; omega
  have hpos : ∀ (j : Nat) (x : Ino), (used T N)[j]? = some x → 0 ≤ x.id := fun j x hx => by
    obtain ⟨n, h1, h2, h3⟩ := (used_mem T x N).1 (List.mem_of_getElem? hx)
    have := (h.ok.gen n h1).1
    rw [h3]
    show 0 ≤ (T n).gen * 256 + (n : Int)
    omega
  have l0 := bo1.c0
  obtain ⟨K, hK⟩ : ∃ K, (used T N).length = K := ⟨_, rfl⟩
  have loL := bo1.lo
  rw [hlen, hK] at hlv hpL loL
  rw [hK] at hpU hKl o1
  rw [hlv] at l0 loL
  have hlenK : L.length = K := hlen.trans hK
  clear hlen hlv bo1
  go_wp2_with fail
  go_loopw [7] (fun y wr => ∃ j : Nat, j ≤ K ∧ y = .int .i64 j ∧ Below w1.heap.size w1 wr) (fun y _ => K - (intOf y).toNat)
  case atStart => exact ⟨0, by omega, rfl, Below.refl _ w1⟩
  case round =>
    obtain ⟨j, hj, rfl, b3⟩ := hrel
    by_cases hjK : j = K
    · subst hjK
      go_wp2_with fail
      go_ret
      exact ⟨rfl, HR.out _ b3⟩
    · have hlt : j < K := by omega
      have hlti : (j : Int) < (K : Int) := by omega
      obtain ⟨gU, rfl⟩ := hpU j hlt
      obtain ⟨x, hx⟩ : ∃ x, (used T N)[j]? = some x := ⟨_, List.getElem?_eq_getElem (by omega)⟩
      have o3 := own_on o1 b3
      have lo3 := own_on loL b3
      have kl := b3.size
      have l3 : wr.cell? ⟨kb, 0, none⟩ = some (.slice pL K cL) := by rw [b3.cell (by have := h.bo.lt (Or.inl rfl); have := t1.size; show kb < _; omega)]; exact l0
      have x0 := (own_in o3 hK.symm hx).c0
      have lo3' : wr.drew.ownsRow w0.heap.size 38 13 (.slice pL K cL) L.length (inLs L) := by rw [hlenK]; exact lo3.drew
      go_wp2_with fail
      go_region_law ((go_simp; go_at_call 22; refine (find_any lo3' (by omega) x.id).mono ?_; rintro e w4 ⟨r, rfl, hw4, HF⟩; obtain ⟨k, hk, hLk⟩ := HB.find hx HF.out; subst hw4 hk; dsimp only))
      all_goals
        have hk0 : ¬ ((k : Int) < 0) := by omega
        have hkl := (List.getElem?_eq_some_iff.1 hLk).1
        obtain ⟨gL, rfl⟩ := hpL k (by omega)
        have hkK : (k : Int) < (K : Int) := by omega
        have hkN : k < K := by omega
        have HE : Hid (∀ W, Below wr.heap.size wr W → W.cell? ⟨kb, 0, none⟩ = some (.slice (some ⟨gL, 0, none⟩) K cL) ∧ W.rangeAt gU (j * 13) (inA x).toList ∧ W.rangeAt gL (k * 13) (inA x).toList) := fun W b => ⟨by rw [b.cell (by have := h.bo.lt (Or.inl rfl); have := t1.size; show kb < _; omega)]; exact l3, (own_in (own_on o3 b) hK.symm hx).all, (own_in (own_on lo3 b) hlenK.symm hLk).all⟩
        by_cases hj0 : j = 0
        · subst hj0
          go_wp2_with fail
          refine wp_region_held_drew (S := fun _ => True) (by kernel_rfl) trivial (fun hHeld => ?_)
          clear hHeld
          refine wpAnyH_take (i := 0) (oi := ⟨some 43, .move (.tmp 8), 3, "free.go:148", #[], none⟩) (v := (.int .i64 (k : Nat))) rfl (by kernel_rfl) (by kernel_rfl) (by kernel_rfl) (fun _ _ _ h => h) (Or.inl ⟨by rfl, fun _ _ => by rfl⟩) trivial ?_
          simp only [Act.put, List.setIfInBounds_toArray, List.set_cons_zero, List.set_cons_succ]
          refine wpAnyH_take (i := 1) (oi := ⟨some 44, .binOp .lss 3 (.tmp 43) (.const (.int .i64 0)) 3, 4, "free.go:148", #[⟨0, .data⟩], none⟩) (v := (.bool false)) rfl (by kernel_rfl) (by kernel_rfl) (by kernel_rfl) (fun _ _ _ h => h) (Or.inl ⟨by rfl, fun w' h' => by unfold execOp; go_simp⟩) trivial ?_
          simp only [Act.put, List.setIfInBounds_toArray, List.set_cons_zero, List.set_cons_succ]
          refine wpAnyH_take (i := 2) (oi := ⟨some 45, .move (.tmp 44), 4, "free.go:148", #[⟨1, .data⟩], none⟩) (v := (.bool false)) rfl (by kernel_rfl) (by kernel_rfl) (by kernel_rfl) (fun _ _ _ h => h) (Or.inl ⟨by rfl, fun _ _ => by rfl⟩) trivial ?_
          simp only [Act.put, List.setIfInBounds_toArray, List.set_cons_zero, List.set_cons_succ]
          refine wpAnyH_take (i := 3) (oi := ⟨some 46, .move (.tmp 7), 3, "free.go:148", #[⟨2, .guard⟩], some (2, false)⟩) (v := (.int .i64 0)) rfl (by kernel_rfl) (by kernel_rfl) (by kernel_rfl) (fun _ _ _ h => h) (Or.inl ⟨by rfl, fun _ _ => by rfl⟩) trivial ?_
          simp only [Act.put, List.setIfInBounds_toArray, List.set_cons_zero, List.set_cons_succ]
          refine wpAnyH_take (i := 4) (oi := ⟨some 47, .binOp .gtr 3 (.tmp 46) (.const (.int .i64 0)) 3, 4, "free.go:148", #[⟨3, .data⟩, ⟨2, .guard⟩], some (2, false)⟩) (v := (.bool false)) rfl (by kernel_rfl) (by kernel_rfl) (by kernel_rfl) (fun _ _ _ h => h) (Or.inl ⟨by rfl, fun w' h' => by unfold execOp; go_simp⟩) trivial ?_
          simp only [Act.put, List.setIfInBounds_toArray, List.set_cons_zero, List.set_cons_succ]
          refine wpAnyH_take (i := 5) (oi := ⟨some 48, .move (.tmp 47), 4, "free.go:148", #[⟨4, .data⟩, ⟨2, .chain⟩, ⟨2, .guard⟩], some (2, false)⟩) (v := (.bool false)) rfl (by kernel_rfl) (by kernel_rfl) (by kernel_rfl) (fun _ _ _ h => h) (Or.inl ⟨by rfl, fun _ _ => by rfl⟩) trivial ?_
          simp only [Act.put, List.setIfInBounds_toArray, List.set_cons_zero, List.set_cons_succ]
          refine wpAnyH_take (i := 6) (oi := ⟨some 49, .move (.tmp 5), 27, "free.go:148", #[⟨5, .guard⟩], some (5, true)⟩) (v := undef) rfl (by kernel_rfl) (by kernel_rfl) (by kernel_rfl) (fun _ _ _ h => h) (Or.inr ⟨by rfl, rfl⟩) trivial ?_
          simp only [Act.put, List.setIfInBounds_toArray, List.set_cons_zero, List.set_cons_succ]
          refine wpAnyH_take (i := 7) (oi := ⟨some 50, .move (.tmp 7), 3, "free.go:148", #[⟨5, .guard⟩], some (5, true)⟩) (v := undef) rfl (by kernel_rfl) (by kernel_rfl) (by kernel_rfl) (fun _ _ _ h => h) (Or.inr ⟨by rfl, rfl⟩) trivial ?_
          simp only [Act.put, List.setIfInBounds_toArray, List.set_cons_zero, List.set_cons_succ]
          refine wpAnyH_take (i := 8) (oi := ⟨some 51, .binOp .sub 3 (.tmp 50) (.const (.int .i64 1)) 3, 3, "free.go:148", #[⟨7, .data⟩, ⟨5, .guard⟩], some (5, true)⟩) (v := undef) rfl (by kernel_rfl) (by kernel_rfl) (by kernel_rfl) (fun _ _ _ h => h) (Or.inr ⟨by rfl, rfl⟩) trivial ?_
          simp only [Act.put, List.setIfInBounds_toArray, List.set_cons_zero, List.set_cons_succ]
          refine wpAnyH_take (i := 9) (oi := ⟨some 52, .indexAddr 27 (.tmp 49) (.tmp 51), 0, "free.go:148", #[⟨6, .data⟩, ⟨8, .data⟩, ⟨5, .guard⟩], some (5, true)⟩) (v := undef) rfl (by kernel_rfl) (by kernel_rfl) (by kernel_rfl) (fun _ _ _ h => h) (Or.inr ⟨by rfl, rfl⟩) trivial ?_
          simp only [Act.put, List.setIfInBounds_toArray, List.set_cons_zero, List.set_cons_succ]
          refine wpAnyH_take (i := 10) (oi := ⟨some 53, .fieldAddr 38 (.tmp 52) 0, 0, "free.go:148", #[⟨9, .data⟩, ⟨5, .guard⟩], some (5, true)⟩) (v := undef) rfl (by kernel_rfl) (by kernel_rfl) (by kernel_rfl) (fun _ _ _ h => h) (Or.inr ⟨by rfl, rfl⟩) trivial ?_
          simp only [Act.put, List.setIfInBounds_toArray, List.set_cons_zero, List.set_cons_succ]
          refine wpAnyH_take (i := 11) (oi := ⟨some 54, .load 3 (.tmp 53), 3, "free.go:148", #[⟨10, .data⟩, ⟨5, .guard⟩], some (5, true)⟩) (v := undef) rfl (by kernel_rfl) (by kernel_rfl) (by kernel_rfl) (fun _ _ _ h => h) (Or.inr ⟨by rfl, rfl⟩) trivial ?_
          simp only [Act.put, List.setIfInBounds_toArray, List.set_cons_zero, List.set_cons_succ]
          refine wpAnyH_take (i := 12) (oi := ⟨some 55, .binOp .rem 3 (.tmp 54) (.const (.int .i64 256)) 3, 3, "free.go:148", #[⟨11, .data⟩, ⟨5, .guard⟩], some (5, true)⟩) (v := undef) rfl (by kernel_rfl) (by kernel_rfl) (by kernel_rfl) (fun _ _ _ h => h) (Or.inr ⟨by rfl, rfl⟩) trivial ?_
          simp only [Act.put, List.setIfInBounds_toArray, List.set_cons_zero, List.set_cons_succ]
          refine wpAnyH_take (i := 13) (oi := ⟨some 56, .move (.tmp 5), 27, "free.go:148", #[⟨5, .guard⟩], some (5, true)⟩) (v := undef) rfl (by kernel_rfl) (by kernel_rfl) (by kernel_rfl) (fun _ _ _ h => h) (Or.inr ⟨by rfl, rfl⟩) trivial ?_
          simp only [Act.put, List.setIfInBounds_toArray, List.set_cons_zero, List.set_cons_succ]
          refine wpAnyH_take (i := 14) (oi := ⟨some 57, .move (.tmp 7), 3, "free.go:148", #[⟨5, .guard⟩], some (5, true)⟩) (v := undef) rfl (by kernel_rfl) (by kernel_rfl) (by kernel_rfl) (fun _ _ _ h => h) (Or.inr ⟨by rfl, rfl⟩) trivial ?_
          simp only [Act.put, List.setIfInBounds_toArray, List.set_cons_zero, List.set_cons_succ]
          refine wpAnyH_take (i := 15) (oi := ⟨some 58, .indexAddr 27 (.tmp 56) (.tmp 57), 0, "free.go:148", #[⟨13, .data⟩, ⟨14, .data⟩, ⟨5, .guard⟩], some (5, true)⟩) (v := undef) rfl (by kernel_rfl) (by kernel_rfl) (by kernel_rfl) (fun _ _ _ h => h) (Or.inr ⟨by rfl, rfl⟩) trivial ?_
          simp only [Act.put, List.setIfInBounds_toArray, List.set_cons_zero, List.set_cons_succ]
          refine wpAnyH_take (i := 16) (oi := ⟨some 59, .fieldAddr 38 (.tmp 58) 0, 0, "free.go:148", #[⟨15, .data⟩, ⟨5, .guard⟩], some (5, true)⟩) (v := undef) rfl (by kernel_rfl) (by kernel_rfl) (by kernel_rfl) (fun _ _ _ h => h) (Or.inr ⟨by rfl, rfl⟩) trivial ?_
          simp only [Act.put, List.setIfInBounds_toArray, List.set_cons_zero, List.set_cons_succ]
          refine wpAnyH_take (i := 17) (oi := ⟨some 60, .load 3 (.tmp 59), 3, "free.go:148", #[⟨16, .data⟩, ⟨5, .guard⟩], some (5, true)⟩) (v := undef) rfl (by kernel_rfl) (by kernel_rfl) (by kernel_rfl) (fun _ _ _ h => h) (Or.inr ⟨by rfl, rfl⟩) trivial ?_
          simp only [Act.put, List.setIfInBounds_toArray, List.set_cons_zero, List.set_cons_succ]
          refine wpAnyH_take (i := 18) (oi := ⟨some 61, .binOp .rem 3 (.tmp 60) (.const (.int .i64 256)) 3, 3, "free.go:148", #[⟨17, .data⟩, ⟨5, .guard⟩], some (5, true)⟩) (v := undef) rfl (by kernel_rfl) (by kernel_rfl) (by kernel_rfl) (fun _ _ _ h => h) (Or.inr ⟨by rfl, rfl⟩) trivial ?_
          simp only [Act.put, List.setIfInBounds_toArray, List.set_cons_zero, List.set_cons_succ]
          refine wpAnyH_take (i := 19) (oi := ⟨some 62, .binOp .geq 3 (.tmp 55) (.tmp 61) 3, 4, "free.go:148", #[⟨12, .data⟩, ⟨18, .data⟩, ⟨5, .guard⟩], some (5, true)⟩) (v := undef) rfl (by kernel_rfl) (by kernel_rfl) (by kernel_rfl) (fun _ _ _ h => h) (Or.inr ⟨by rfl, rfl⟩) trivial ?_
          simp only [Act.put, List.setIfInBounds_toArray, List.set_cons_zero, List.set_cons_succ]
          refine wpAnyH_take (i := 20) (oi := ⟨some 63, .pick (.tmp 48) (.tmp 62) (.const (.bool false)), 4, "free.go:148", #[⟨5, .data⟩, ⟨19, .data⟩, ⟨2, .guard⟩], some (2, false)⟩) (v := (.bool false)) rfl (by kernel_rfl) (by kernel_rfl) (by kernel_rfl) (fun _ _ _ h => h) (Or.inl ⟨by rfl, fun w' h' => by unfold execOp; go_simp⟩) trivial ?_
          simp only [Act.put, List.setIfInBounds_toArray, List.set_cons_zero, List.set_cons_succ]
          refine wpAnyH_take (i := 21) (oi := ⟨some 64, .pick (.tmp 45) (.const (.bool true)) (.tmp 63), 4, "free.go:148", #[⟨2, .data⟩, ⟨20, .data⟩], none⟩) (v := (.bool false)) rfl (by kernel_rfl) (by kernel_rfl) (by kernel_rfl) (fun _ _ _ h => h) (Or.inl ⟨by rfl, fun w' h' => by unfold execOp; go_simp⟩) trivial ?_
          simp only [Act.put, List.setIfInBounds_toArray, List.set_cons_zero, List.set_cons_succ]
          refine wpAnyH_done (by kernel_rfl) ?_ _
          go_wp2_with fail
          have b6 : Below wr.heap.size wr wr.drew.drew.drew := (Below.refl _ wr).drew.drew.drew
          obtain ⟨m0, m1, m2⟩ := HE.out _ b6
          have e1 := InLoad.mid m1 rfl
          have e2 := InLoad.mid m2 rfl
          go_region_law ((go_simp; go_at_call 38; refine (same_self _ x).mono ?_; rintro e w7 ⟨rfl, b7⟩; dsimp only))
          all_goals
            have b8 : Below w1.heap.size w1 w7 := b3.trans ((b6.trans (b7.mono b6.size)).mono kl)
            clear e1 e2 m0 m1 m2
            go_wp2_with fail
            exact ⟨⟨0 + 1, by omega, rfl, b8⟩, by simp [intOf]; omega⟩
        · obtain ⟨i', hi'⟩ : ∃ i' : Nat, j = i' + 1 := ⟨j - 1, by omega⟩
          have hj1 : (j : Int) - 1 = (i' : Int) := by omega
          obtain ⟨xp, hxp⟩ : ∃ xp, (used T N)[i']? = some xp := ⟨_, List.getElem?_eq_getElem (by omega)⟩
          have hltp := used_lt hN hxp (by rw [← hi']; exact hx)
          have p0 := (own_in o3 hK.symm hxp).c0
          have hm1 : Int.tmod xp.id 256 = xp.id % 256 := Int.tmod_eq_emod_of_nonneg (hpos _ _ hxp)
          have hm2 : Int.tmod x.id 256 = x.id % 256 := Int.tmod_eq_emod_of_nonneg (hpos _ _ hx)
          have hge : ¬ (x.id % 256 ≤ xp.id % 256) := by omega
          have hged : decide (x.id % 256 ≤ xp.id % 256) = false := decide_eq_false hge
          have hiK : (i' : Int) < (K : Int) := by omega
          have hk0d : decide ((k : Int) < 0) = false := decide_eq_false hk0
          have hi0 : decide ((0 : Int) < (j : Int)) = true := decide_eq_true (by omega)
          have hge0 : ¬ (j : Int) < 0 := by omega
          have hig0 : ¬ (i' : Int) < 0 := by omega
          have hwr : IntKind.i64.wrap ((j : Int) - 1) = (i' : Int) := by rw [Go.IntWalk.i64_in _ ⟨by omega, by omega⟩, hj1]
          have hwi : IntKind.i64.wrap (i' : Int) = (i' : Int) := by rw [Go.IntWalk.i64_in _ ⟨by omega, by omega⟩]
          have hb0 : (0 : Int) ≤ (j : Int) - 1 := by omega
          have hb1 : (j : Int) - 1 < (K : Int) := by omega
          have hb2 : ((j : Int) - 1).toNat = i' := by omega
          have hb3 : j - 1 = i' := by omega
          have hb4 : ¬ (K : Int) ≤ (j : Int) - 1 := by omega
          have hj1' : (0 : Int) ≤ (i' : Int) := by omega
          have hjp : 0 < j := by omega
          have hjpd : decide (0 < j) = true := decide_eq_true hjp
          have hjpi : (0 : Int) < (j : Int) := by omega
          clear hi' hj0
          go_wp2_with fail
          refine wp_region_held_drew (S := fun w' => w'.cell? ⟨gU, i' * 13, none⟩ = some (.int .i64 xp.id) ∧ w'.cell? ⟨gU, j * 13, none⟩ = some (.int .i64 x.id)) (by kernel_rfl) ⟨p0, x0⟩ (fun hHeld => ?_)
          refine wpAnyH_take (i := 0) (oi := ⟨some 43, .move (.tmp 8), 3, "free.go:148", #[], none⟩) (v := (.int .i64 (k : Nat))) rfl (by kernel_rfl) (by kernel_rfl) (by kernel_rfl) (fun _ _ _ h => h) (Or.inl ⟨by rfl, fun _ _ => by rfl⟩) hHeld ?_
          simp only [Act.put, List.setIfInBounds_toArray, List.set_cons_zero, List.set_cons_succ]
          refine wpAnyH_take (i := 1) (oi := ⟨some 44, .binOp .lss 3 (.tmp 43) (.const (.int .i64 0)) 3, 4, "free.go:148", #[⟨0, .data⟩], none⟩) (v := (.bool false)) rfl (by kernel_rfl) (by kernel_rfl) (by kernel_rfl) (fun _ _ _ h => h) (Or.inl ⟨by rfl, fun w' h' => by unfold execOp; go_simp⟩) hHeld ?_
          simp only [Act.put, List.setIfInBounds_toArray, List.set_cons_zero, List.set_cons_succ]
          refine wpAnyH_take (i := 2) (oi := ⟨some 45, .move (.tmp 44), 4, "free.go:148", #[⟨1, .data⟩], none⟩) (v := (.bool false)) rfl (by kernel_rfl) (by kernel_rfl) (by kernel_rfl) (fun _ _ _ h => h) (Or.inl ⟨by rfl, fun _ _ => by rfl⟩) hHeld ?_
          simp only [Act.put, List.setIfInBounds_toArray, List.set_cons_zero, List.set_cons_succ]
          refine wpAnyH_take (i := 3) (oi := ⟨some 46, .move (.tmp 7), 3, "free.go:148", #[⟨2, .guard⟩], some (2, false)⟩) (v := (.int .i64 (j : Nat))) rfl (by kernel_rfl) (by kernel_rfl) (by kernel_rfl) (fun _ _ _ h => h) (Or.inl ⟨by rfl, fun _ _ => by rfl⟩) hHeld ?_
          simp only [Act.put, List.setIfInBounds_toArray, List.set_cons_zero, List.set_cons_succ]
          refine wpAnyH_take (i := 4) (oi := ⟨some 47, .binOp .gtr 3 (.tmp 46) (.const (.int .i64 0)) 3, 4, "free.go:148", #[⟨3, .data⟩, ⟨2, .guard⟩], some (2, false)⟩) (v := (.bool true)) rfl (by kernel_rfl) (by kernel_rfl) (by kernel_rfl) (fun _ _ _ h => h) (Or.inl ⟨by rfl, fun w' h' => by unfold execOp; go_simp⟩) hHeld ?_
          simp only [Act.put, List.setIfInBounds_toArray, List.set_cons_zero, List.set_cons_succ]
          refine wpAnyH_take (i := 5) (oi := ⟨some 48, .move (.tmp 47), 4, "free.go:148", #[⟨4, .data⟩, ⟨2, .chain⟩, ⟨2, .guard⟩], some (2, false)⟩) (v := (.bool true)) rfl (by kernel_rfl) (by kernel_rfl) (by kernel_rfl) (fun _ _ _ h => h) (Or.inl ⟨by rfl, fun _ _ => by rfl⟩) hHeld ?_
          simp only [Act.put, List.setIfInBounds_toArray, List.set_cons_zero, List.set_cons_succ]
          refine wpAnyH_take (i := 6) (oi := ⟨some 49, .move (.tmp 5), 27, "free.go:148", #[⟨5, .guard⟩], some (5, true)⟩) (v := (.slice (some ⟨gU, 0, none⟩) K cU)) rfl (by kernel_rfl) (by kernel_rfl) (by kernel_rfl) (fun _ _ _ h => h) (Or.inl ⟨by rfl, fun _ _ => by rfl⟩) hHeld ?_
          simp only [Act.put, List.setIfInBounds_toArray, List.set_cons_zero, List.set_cons_succ]
          refine wpAnyH_take (i := 7) (oi := ⟨some 50, .move (.tmp 7), 3, "free.go:148", #[⟨5, .guard⟩], some (5, true)⟩) (v := (.int .i64 (j : Nat))) rfl (by kernel_rfl) (by kernel_rfl) (by kernel_rfl) (fun _ _ _ h => h) (Or.inl ⟨by rfl, fun _ _ => by rfl⟩) hHeld ?_
          simp only [Act.put, List.setIfInBounds_toArray, List.set_cons_zero, List.set_cons_succ]
          refine wpAnyH_take (i := 8) (oi := ⟨some 51, .binOp .sub 3 (.tmp 50) (.const (.int .i64 1)) 3, 3, "free.go:148", #[⟨7, .data⟩, ⟨5, .guard⟩], some (5, true)⟩) (v := (.int .i64 (i' : Nat))) rfl (by kernel_rfl) (by kernel_rfl) (by kernel_rfl) (fun _ _ _ h => h) (Or.inl ⟨by rfl, fun w' h' => by unfold execOp; go_simp⟩) hHeld ?_
          simp only [Act.put, List.setIfInBounds_toArray, List.set_cons_zero, List.set_cons_succ]
          refine wpAnyH_take (i := 9) (oi := ⟨some 52, .indexAddr 27 (.tmp 49) (.tmp 51), 0, "free.go:148", #[⟨6, .data⟩, ⟨8, .data⟩, ⟨5, .guard⟩], some (5, true)⟩) (v := (.pointer (some ⟨gU, i' * 13, none⟩))) rfl (by kernel_rfl) (by kernel_rfl) (by kernel_rfl) (fun _ _ _ h => h) (Or.inl ⟨by rfl, fun w' h' => by unfold execOp; go_simp⟩) hHeld ?_
          simp only [Act.put, List.setIfInBounds_toArray, List.set_cons_zero, List.set_cons_succ]
          refine wpAnyH_take (i := 10) (oi := ⟨some 53, .fieldAddr 38 (.tmp 52) 0, 0, "free.go:148", #[⟨9, .data⟩, ⟨5, .guard⟩], some (5, true)⟩) (v := (.pointer (some ⟨gU, i' * 13, none⟩))) rfl (by kernel_rfl) (by kernel_rfl) (by kernel_rfl) (fun _ _ _ h => h) (Or.inl ⟨by rfl, fun w' h' => by unfold execOp; go_simp⟩) hHeld ?_
          simp only [Act.put, List.setIfInBounds_toArray, List.set_cons_zero, List.set_cons_succ]
          refine wpAnyH_take (i := 11) (oi := ⟨some 54, .load 3 (.tmp 53), 3, "free.go:148", #[⟨10, .data⟩, ⟨5, .guard⟩], some (5, true)⟩) (v := (.int .i64 xp.id)) rfl (by kernel_rfl) (by kernel_rfl) (by kernel_rfl) (fun _ _ _ h => h) (Or.inl ⟨by rfl, fun w' h' => by have c0 := h'.1; unfold execOp; go_simp⟩) hHeld ?_
          simp only [Act.put, List.setIfInBounds_toArray, List.set_cons_zero, List.set_cons_succ]
          refine wpAnyH_take (i := 12) (oi := ⟨some 55, .binOp .rem 3 (.tmp 54) (.const (.int .i64 256)) 3, 3, "free.go:148", #[⟨11, .data⟩, ⟨5, .guard⟩], some (5, true)⟩) (v := (.int .i64 (xp.id % 256))) rfl (by kernel_rfl) (by kernel_rfl) (by kernel_rfl) (fun _ _ _ h => h) (Or.inl ⟨by rfl, fun w' h' => by unfold execOp; go_simp⟩) hHeld ?_
          simp only [Act.put, List.setIfInBounds_toArray, List.set_cons_zero, List.set_cons_succ]
          refine wpAnyH_take (i := 13) (oi := ⟨some 56, .move (.tmp 5), 27, "free.go:148", #[⟨5, .guard⟩], some (5, true)⟩) (v := (.slice (some ⟨gU, 0, none⟩) K cU)) rfl (by kernel_rfl) (by kernel_rfl) (by kernel_rfl) (fun _ _ _ h => h) (Or.inl ⟨by rfl, fun _ _ => by rfl⟩) hHeld ?_
          simp only [Act.put, List.setIfInBounds_toArray, List.set_cons_zero, List.set_cons_succ]
          refine wpAnyH_take (i := 14) (oi := ⟨some 57, .move (.tmp 7), 3, "free.go:148", #[⟨5, .guard⟩], some (5, true)⟩) (v := (.int .i64 (j : Nat))) rfl (by kernel_rfl) (by kernel_rfl) (by kernel_rfl) (fun _ _ _ h => h) (Or.inl ⟨by rfl, fun _ _ => by rfl⟩) hHeld ?_
          simp only [Act.put, List.setIfInBounds_toArray, List.set_cons_zero, List.set_cons_succ]
          refine wpAnyH_take (i := 15) (oi := ⟨some 58, .indexAddr 27 (.tmp 56) (.tmp 57), 0, "free.go:148", #[⟨13, .data⟩, ⟨14, .data⟩, ⟨5, .guard⟩], some (5, true)⟩) (v := (.pointer (some ⟨gU, j * 13, none⟩))) rfl (by kernel_rfl) (by kernel_rfl) (by kernel_rfl) (fun _ _ _ h => h) (Or.inl ⟨by rfl, fun w' h' => by unfold execOp; go_simp⟩) hHeld ?_
          simp only [Act.put, List.setIfInBounds_toArray, List.set_cons_zero, List.set_cons_succ]
          refine wpAnyH_take (i := 16) (oi := ⟨some 59, .fieldAddr 38 (.tmp 58) 0, 0, "free.go:148", #[⟨15, .data⟩, ⟨5, .guard⟩], some (5, true)⟩) (v := (.pointer (some ⟨gU, j * 13, none⟩))) rfl (by kernel_rfl) (by kernel_rfl) (by kernel_rfl) (fun _ _ _ h => h) (Or.inl ⟨by rfl, fun w' h' => by unfold execOp; go_simp⟩) hHeld ?_
          simp only [Act.put, List.setIfInBounds_toArray, List.set_cons_zero, List.set_cons_succ]
          refine wpAnyH_take (i := 17) (oi := ⟨some 60, .load 3 (.tmp 59), 3, "free.go:148", #[⟨16, .data⟩, ⟨5, .guard⟩], some (5, true)⟩) (v := (.int .i64 x.id)) rfl (by kernel_rfl) (by kernel_rfl) (by kernel_rfl) (fun _ _ _ h => h) (Or.inl ⟨by rfl, fun w' h' => by have c0 := h'.2; unfold execOp; go_simp⟩) hHeld ?_
          simp only [Act.put, List.setIfInBounds_toArray, List.set_cons_zero, List.set_cons_succ]
          refine wpAnyH_take (i := 18) (oi := ⟨some 61, .binOp .rem 3 (.tmp 60) (.const (.int .i64 256)) 3, 3, "free.go:148", #[⟨17, .data⟩, ⟨5, .guard⟩], some (5, true)⟩) (v := (.int .i64 (x.id % 256))) rfl (by kernel_rfl) (by kernel_rfl) (by kernel_rfl) (fun _ _ _ h => h) (Or.inl ⟨by rfl, fun w' h' => by unfold execOp; go_simp⟩) hHeld ?_
          simp only [Act.put, List.setIfInBounds_toArray, List.set_cons_zero, List.set_cons_succ]
          refine wpAnyH_take (i := 19) (oi := ⟨some 62, .binOp .geq 3 (.tmp 55) (.tmp 61) 3, 4, "free.go:148", #[⟨12, .data⟩, ⟨18, .data⟩, ⟨5, .guard⟩], some (5, true)⟩) (v := (.bool false)) rfl (by kernel_rfl) (by kernel_rfl) (by kernel_rfl) (fun _ _ _ h => h) (Or.inl ⟨by rfl, fun w' h' => by unfold execOp; go_simp⟩) hHeld ?_
          simp only [Act.put, List.setIfInBounds_toArray, List.set_cons_zero, List.set_cons_succ]
          refine wpAnyH_take (i := 20) (oi := ⟨some 63, .pick (.tmp 48) (.tmp 62) (.const (.bool false)), 4, "free.go:148", #[⟨5, .data⟩, ⟨19, .data⟩, ⟨2, .guard⟩], some (2, false)⟩) (v := (.bool false)) rfl (by kernel_rfl) (by kernel_rfl) (by kernel_rfl) (fun _ _ _ h => h) (Or.inl ⟨by rfl, fun w' h' => by unfold execOp; go_simp⟩) hHeld ?_
          simp only [Act.put, List.setIfInBounds_toArray, List.set_cons_zero, List.set_cons_succ]
          refine wpAnyH_take (i := 21) (oi := ⟨some 64, .pick (.tmp 45) (.const (.bool true)) (.tmp 63), 4, "free.go:148", #[⟨2, .data⟩, ⟨20, .data⟩], none⟩) (v := (.bool false)) rfl (by kernel_rfl) (by kernel_rfl) (by kernel_rfl) (fun _ _ _ h => h) (Or.inl ⟨by rfl, fun w' h' => by unfold execOp; go_simp⟩) hHeld ?_
          simp only [Act.put, List.setIfInBounds_toArray, List.set_cons_zero, List.set_cons_succ]
          refine wpAnyH_done (by kernel_rfl) ?_ _
          go_wp2_with fail
          have b6 : Below wr.heap.size wr wr.drew.drew.drew := (Below.refl _ wr).drew.drew.drew
          obtain ⟨m0, m1, m2⟩ := HE.out _ b6
          have e1 := InLoad.mid m1 rfl
          have e2 := InLoad.mid m2 rfl
          go_region_law ((go_simp; go_at_call 38; refine (same_self _ x).mono ?_; rintro e w7 ⟨rfl, b7⟩; dsimp only))
          all_goals
            have b8 : Below w1.heap.size w1 w7 := b3.trans ((b6.trans (b7.mono b6.size)).mono kl)
            clear e1 e2 m0 m1 m2
            go_wp2_with fail
            exact ⟨⟨j + 1, by omega, rfl, b8⟩, by simp [intOf]; omega⟩
end Go.Proofs.YtlcjkbhcbiggcaaGreatDoor
