/- Whether the blocks of a descriptor may be: mayBe by its contract. -/
import Derived.Test.YtlcjkbhcbiggcaaGreatDoorPk14
namespace Go.Proofs.YtlcjkbhcbiggcaaGreatDoor
open Go.RowKit Go.Maps
set_option maxRecDepth 100000

/-- The line t is right: its block is outside, and above the one ahead of it. -/
def mayT (k st sz : Nat) (ls : List (Nat × Nat)) (t : Nat) : Bool := outB k st sz ((ls.getD t (0, 0)).1 : Nat) && (decide (t = 0) || decide ((ls.getD (t - 1) (0, 0)).1 < (ls.getD t (0, 0)).1))
def mayB (k st sz : Nat) (ls : List (Nat × Nat)) : Bool := (List.range ls.length).all (mayT k st sz ls)
set_option maxHeartbeats 4000000 in
theorem mayBe_any {w : World} {d : Nat} {S : DevS} {k N : Nat} {F : Nat → Prop} (hD : Dev w d 0 S k N F) (st sz : Nat) (hst : st ≤ 4096) (hsz : sz ≤ 4096) (a : Option Addr) (n c : Nat) (ls : List (Nat × Nat)) (hn : n = ls.length) (hn24 : n ≤ 24) (hL : Lns w (.slice a n c) ls) (hF0 : ∀ b, (Value.slice a n c).ownBlock = some b → ¬ F b) :
    Calls Tryz.prog 239 #[rgV d st sz, .slice a n c] w fun e w' => e = .returned (.bool (mayB k st sz ls)) ∧ Same0 w w' d S k N F := by
  obtain ⟨W, hW⟩ : ∃ W, w.alloc (.cells #[.pointer (some ⟨d, 0, none⟩), .int .i64 st, .int .i64 sz] 118) = W := ⟨_, rfl⟩
  have hb : Below w.heap.size w W := by rw [← hW]; exact (Below.refl _ w).alloc (Nat.le_refl _) _
  have hx : W.heap[w.heap.size]? = some (.cells #[.pointer (some ⟨d, 0, none⟩), .int .i64 st, .int .i64 sz] 118) := by rw [← hW]; exact (MapKept.heap_alloc w _).1
  have hs : w.heap.size < W.heap.size := by rw [← hW]; simp
  have hDW := hD.below hb
  have hF := hD.lt
  have hni : (n : Int) ≤ 24 := by omega
  have HN : Hid (n = ls.length) := hn
  clear hn
  obtain ⟨r, hr⟩ : ∃ r, w.heap.size = r := ⟨_, rfl⟩
  rw [hr] at hx hs
  have hLW : Lns W (.slice a n c) ls := hL.below hb
  go_enter Tryz.func239, Tryz.ntmps239
  go_wp2_with fail
  try rw [hW]
  try rw [hr]
  go_loopw [9] (fun i wr => ∃ t : Nat, t ≤ n ∧ i = .int .i64 t ∧ Dev wr d 0 S k N F ∧ Turns F W wr ∧ wr.heap[r]? = some (.cells #[.pointer (some ⟨d, 0, none⟩), .int .i64 st, .int .i64 sz] 118) ∧ Lns wr (.slice a n c) ls ∧ Hid ((List.range t).all (mayT k st sz ls) = true)) (fun i _ => n - (intOf i).toNat)
  case atStart => exact ⟨0, Nat.zero_le _, rfl, hDW, Turns.refl _ _, hx, hLW, (rfl : (List.range 0).all (mayT k st sz ls) = true)⟩
  case round =>
    clear hLW hDW
    obtain ⟨t, htn, rfl, hDr, hTr, hxr, hLr, HA⟩ := hrel
    by_cases hlt : t < n
    · have hti : (t : Int) < n := by omega
      have htl : t < ls.length := by rw [← HN.out]; exact hlt
      obtain ⟨p, hp⟩ : ∃ p, ls[t]? = some p := ⟨_, List.getElem?_eq_getElem htl⟩
      obtain ⟨g, c', hgv, x0, x1⟩ := hLr.get hp
      obtain rfl : a = some ⟨g, 0, none⟩ := by injection hgv
      clear hgv
      obtain ⟨b, f⟩ := p
      simp only at x0 x1
      have HD : Hid (ls.getD t (0, 0) = (b, f)) := by show ls.getD t (0, 0) = (b, f); simp [List.getD, hp]
      have HSZ := hTr.size
      obtain ⟨W1, hW1⟩ : ∃ W1, wr.alloc (.cells #[.int .i64 (b : Nat), .int .i64 (f : Nat)] 250) = W1 := ⟨_, rfl⟩
      have b1 : Below wr.heap.size wr W1 := by rw [← hW1]; exact (Below.refl _ wr).alloc (Nat.le_refl _) _
      have bD : Below wr.heap.size wr W1.drew := b1.trans ⟨rfl, rfl, rfl, Nat.le_refl _, fun _ _ => rfl⟩
      obtain ⟨q, hq⟩ : ∃ q, wr.heap.size = q := ⟨_, rfl⟩
      have yD : W1.drew.heap[q]? = some (.cells #[.int .i64 (b : Nat), .int .i64 (f : Nat)] 250) := by rw [← hq, ← hW1]; exact (MapKept.heap_alloc wr _).1
      have xD := (bD.block r (heap_lt hxr)).trans hxr
      have hLD := hLr.below bD
      have hDD := hDr.below bD
      have m1 := outside_any hDD st sz hst hsz b
      have HM0 : Hid (mayT k st sz ls t = (outB k st sz b && (decide (t = 0) || decide ((ls.getD (t - 1) (0, 0)).1 < b)))) := by
        show mayT k st sz ls t = _
        unfold mayT
        rw [HD.out]
      have HF9 : Hid (mayT k st sz ls t = false → mayB k st sz ls = false) := fun h => by
        unfold mayB
        rw [Bool.eq_false_iff]
        intro e
        have := List.all_eq_true.1 e t (List.mem_range.2 htl)
        rw [h] at this
        cases this
      have HM1 : Hid (mayT k st sz ls t = true → (List.range (t + 1)).all (mayT k st sz ls) = true) := fun h => by
        rw [List.range_succ, List.all_append, HA.out]
        simp [h]
      have HSM : Hid (∀ w2, Same0 W1.drew w2 d S k N F → Same0 w w2 d S k N F) := fun w2 q2 => ⟨q2.1, (Below.turns hb F).trans ((hTr.trans (Below.turns bD _) (fun _ _ h => h)).trans q2.2 (fun _ _ h => h)) (fun _ _ h => h)⟩
      have HRL : Hid (∀ w2, Same0 W1.drew w2 d S k N F → Turns F W w2 ∧ w2.heap[r]? = some (.cells #[.pointer (some ⟨d, 0, none⟩), .int .i64 st, .int .i64 sz] 118) ∧ Lns w2 (.slice (some ⟨g, 0, none⟩) n c) ls) := fun w2 q2 => ⟨(hTr.trans (Below.turns bD _) (fun _ _ h => h)).trans q2.2 (fun _ _ h => h), (q2.2.block r (heap_lt xD) (fun e => by have := hF _ e; omega)).trans xD, hLD.turns q2.2 hF0⟩
      have hqF : ¬ F q := fun e => by have := hDr.lt _ e; omega
      have hrF : ¬ F r := fun e => by have := hF _ e; omega
      cases t with
      | zero =>
        rw [show (((0 : Nat) : Int)) = 0 from rfl]
        by_cases ho : outB k st sz b = true
        · have hKc : ∀ w'' : World, w''.heap[r]? = some (.cells #[.pointer (some ⟨d, 0, none⟩), .int .i64 st, .int .i64 sz] 118) → w''.heap[q]? = some (.cells #[.int .i64 (b : Nat), .int .i64 (f : Nat)] 250) → Lns w'' (.slice (some ⟨g, 0, none⟩) n c) ls → (w''.cell? ⟨r, 0, none⟩ = some (.pointer (some ⟨d, 0, none⟩)) ∧ w''.cell? ⟨r, 1, none⟩ = some (.int .i64 st) ∧ w''.cell? ⟨r, 2, none⟩ = some (.int .i64 sz) ∧ w''.cell? ⟨q, 0, none⟩ = some (.int .i64 (b : Nat))) := fun w'' h1 h2 h3 => ⟨by simp [World.cell?, h1], by simp [World.cell?, h1], by simp [World.cell?, h1], by simp [World.cell?, h2]⟩
          have k0 := hKc _ xD yD hLD
          rw [ho] at m1
          go_wp2_with fail
          try rw [hW1]
          try rw [hq]
          refine wp_region_held_drew (S := fun w'' => w''.cell? ⟨r, 0, none⟩ = some (.pointer (some ⟨d, 0, none⟩)) ∧ w''.cell? ⟨r, 1, none⟩ = some (.int .i64 st) ∧ w''.cell? ⟨r, 2, none⟩ = some (.int .i64 sz) ∧ w''.cell? ⟨q, 0, none⟩ = some (.int .i64 (b : Nat))) (by kernel_rfl) k0 (fun hHeld => ?_)
          refine wpAnyH_take (i := 0) (oi := ⟨some 14, .load 118 (.tmp 2), 118, "log.go:63", #[], none⟩) (v := (.agg #[.pointer (some ⟨d, 0, none⟩), .int .i64 st, .int .i64 sz])) rfl (by kernel_rfl) (by kernel_rfl) (by kernel_rfl) (fun _ _ _ h => h) (Or.inl ⟨by rfl, fun w' h' => by have e0 := h'.1; have e1 := h'.2.1; have e2 := h'.2.2.1; have e3 := h'.2.2.2; unfold execOp; go_simp⟩) hHeld ?_
          simp only [Act.put, List.setIfInBounds_toArray, List.set_cons_zero, List.set_cons_succ]
          refine wpAnyH_take (i := 1) (oi := ⟨some 15, .fieldAddr 250 (.tmp 6) 0, 0, "log.go:63", #[], none⟩) (v := (.pointer (some ⟨q, 0, none⟩))) rfl (by kernel_rfl) (by kernel_rfl) (by kernel_rfl) (fun _ _ _ h => h) (Or.inl ⟨by rfl, fun _ _ => by rfl⟩) hHeld ?_
          simp only [Act.put, List.setIfInBounds_toArray, List.set_cons_zero, List.set_cons_succ]
          refine wpAnyH_take (i := 2) (oi := ⟨some 16, .load 3 (.tmp 15), 3, "log.go:63", #[⟨1, .data⟩], none⟩) (v := (.int .i64 (b : Nat))) rfl (by kernel_rfl) (by kernel_rfl) (by kernel_rfl) (fun _ _ _ h => h) (Or.inl ⟨by rfl, fun w' h' => by have e0 := h'.1; have e1 := h'.2.1; have e2 := h'.2.2.1; have e3 := h'.2.2.2; unfold execOp; go_simp⟩) hHeld ?_
          simp only [Act.put, List.setIfInBounds_toArray, List.set_cons_zero, List.set_cons_succ]
          refine wpAnyH_ready (rs := [3]) (by kernel_rfl) (by simp) ?_
          refine AllReadyH.cons (o := ⟨some 17, .call ⟨.value (.func 110), #[.tmp 14, .tmp 16], #[118, 3]⟩, 4, "log.go:63", #[⟨0, .data⟩, ⟨2, .data⟩], none⟩) rfl (fun KK hK => ?_) (AllReadyH.nil)
          go_simp
          refine m1.mono ?_
          rintro e w2 ⟨rfl, q2⟩
          have k1 := hKc w2 ((q2.2.block r (heap_lt xD) hrF).trans xD) ((q2.2.block q (heap_lt yD) hqF).trans yD) (hLD.turns q2.2 hF0)
          refine hK.out _ _ k1 (fun hHeld => ?_)
          clear hK KK
          try simp only [Act.put, List.setIfInBounds_toArray, List.set_cons_zero, List.set_cons_succ]
          refine wpAnyH_take (i := 4) (oi := ⟨some 18, .unOp UnOp.not 4 (.tmp 17), 4, "log.go:63", #[⟨3, .data⟩], none⟩) (v := (.bool false)) rfl (by kernel_rfl) (by kernel_rfl) (by kernel_rfl) (fun _ _ _ h => h) (Or.inl ⟨by rfl, fun _ _ => by rfl⟩) hHeld ?_
          simp only [Act.put, List.setIfInBounds_toArray, List.set_cons_zero, List.set_cons_succ]
          refine wpAnyH_take (i := 5) (oi := ⟨some 19, .move (.tmp 18), 4, "log.go:63", #[⟨4, .data⟩, ⟨3, .chain⟩], none⟩) (v := (.bool false)) rfl (by kernel_rfl) (by kernel_rfl) (by kernel_rfl) (fun _ _ _ h => h) (Or.inl ⟨by rfl, fun _ _ => by rfl⟩) hHeld ?_
          simp only [Act.put, List.setIfInBounds_toArray, List.set_cons_zero, List.set_cons_succ]
          refine wpAnyH_take (i := 6) (oi := ⟨some 20, .move (.tmp 5), 3, "log.go:63", #[⟨5, .guard⟩], some (5, false)⟩) (v := (.int .i64 0)) rfl (by kernel_rfl) (by kernel_rfl) (by kernel_rfl) (fun _ _ _ h => h) (Or.inl ⟨by rfl, fun _ _ => by rfl⟩) hHeld ?_
          simp only [Act.put, List.setIfInBounds_toArray, List.set_cons_zero, List.set_cons_succ]
          refine wpAnyH_take (i := 7) (oi := ⟨some 21, .binOp .gtr 3 (.tmp 20) (.const (.int .i64 0)) 3, 4, "log.go:63", #[⟨6, .data⟩, ⟨5, .guard⟩], some (5, false)⟩) (v := (.bool false)) rfl (by kernel_rfl) (by kernel_rfl) (by kernel_rfl) (fun _ _ _ h => h) (Or.inl ⟨by rfl, fun _ _ => by rfl⟩) hHeld ?_
          simp only [Act.put, List.setIfInBounds_toArray, List.set_cons_zero, List.set_cons_succ]
          refine wpAnyH_take (i := 8) (oi := ⟨some 22, .move (.tmp 21), 4, "log.go:63", #[⟨7, .data⟩, ⟨5, .chain⟩, ⟨5, .guard⟩], some (5, false)⟩) (v := (.bool false)) rfl (by kernel_rfl) (by kernel_rfl) (by kernel_rfl) (fun _ _ _ h => h) (Or.inl ⟨by rfl, fun _ _ => by rfl⟩) hHeld ?_
          simp only [Act.put, List.setIfInBounds_toArray, List.set_cons_zero, List.set_cons_succ]
          refine wpAnyH_take (i := 9) (oi := ⟨some 23, .fieldAddr 250 (.tmp 6) 0, 0, "log.go:63", #[⟨8, .guard⟩], some (8, true)⟩) (v := undef) rfl (by kernel_rfl) (by kernel_rfl) (by kernel_rfl) (fun _ _ _ h => h) (Or.inr ⟨by rfl, rfl⟩) hHeld ?_
          simp only [Act.put, List.setIfInBounds_toArray, List.set_cons_zero, List.set_cons_succ]
          refine wpAnyH_take (i := 10) (oi := ⟨some 24, .load 3 (.tmp 23), 3, "log.go:63", #[⟨9, .data⟩, ⟨8, .guard⟩], some (8, true)⟩) (v := undef) rfl (by kernel_rfl) (by kernel_rfl) (by kernel_rfl) (fun _ _ _ h => h) (Or.inr ⟨by rfl, rfl⟩) hHeld ?_
          simp only [Act.put, List.setIfInBounds_toArray, List.set_cons_zero, List.set_cons_succ]
          refine wpAnyH_take (i := 11) (oi := ⟨some 25, .move (.tmp 1), 248, "log.go:63", #[⟨8, .guard⟩], some (8, true)⟩) (v := undef) rfl (by kernel_rfl) (by kernel_rfl) (by kernel_rfl) (fun _ _ _ h => h) (Or.inr ⟨by rfl, rfl⟩) hHeld ?_
          simp only [Act.put, List.setIfInBounds_toArray, List.set_cons_zero, List.set_cons_succ]
          refine wpAnyH_take (i := 12) (oi := ⟨some 26, .move (.tmp 5), 3, "log.go:63", #[⟨8, .guard⟩], some (8, true)⟩) (v := undef) rfl (by kernel_rfl) (by kernel_rfl) (by kernel_rfl) (fun _ _ _ h => h) (Or.inr ⟨by rfl, rfl⟩) hHeld ?_
          simp only [Act.put, List.setIfInBounds_toArray, List.set_cons_zero, List.set_cons_succ]
          refine wpAnyH_take (i := 13) (oi := ⟨some 27, .binOp .sub 3 (.tmp 26) (.const (.int .i64 1)) 3, 3, "log.go:63", #[⟨12, .data⟩, ⟨8, .guard⟩], some (8, true)⟩) (v := undef) rfl (by kernel_rfl) (by kernel_rfl) (by kernel_rfl) (fun _ _ _ h => h) (Or.inr ⟨by rfl, rfl⟩) hHeld ?_
          simp only [Act.put, List.setIfInBounds_toArray, List.set_cons_zero, List.set_cons_succ]
          refine wpAnyH_take (i := 14) (oi := ⟨some 28, .indexAddr 248 (.tmp 25) (.tmp 27), 0, "log.go:63", #[⟨11, .data⟩, ⟨13, .data⟩, ⟨8, .guard⟩], some (8, true)⟩) (v := undef) rfl (by kernel_rfl) (by kernel_rfl) (by kernel_rfl) (fun _ _ _ h => h) (Or.inr ⟨by rfl, rfl⟩) hHeld ?_
          simp only [Act.put, List.setIfInBounds_toArray, List.set_cons_zero, List.set_cons_succ]
          refine wpAnyH_take (i := 15) (oi := ⟨some 29, .fieldAddr 250 (.tmp 28) 0, 0, "log.go:63", #[⟨14, .data⟩, ⟨8, .guard⟩], some (8, true)⟩) (v := undef) rfl (by kernel_rfl) (by kernel_rfl) (by kernel_rfl) (fun _ _ _ h => h) (Or.inr ⟨by rfl, rfl⟩) hHeld ?_
          simp only [Act.put, List.setIfInBounds_toArray, List.set_cons_zero, List.set_cons_succ]
          refine wpAnyH_take (i := 16) (oi := ⟨some 30, .load 3 (.tmp 29), 3, "log.go:63", #[⟨15, .data⟩, ⟨8, .guard⟩], some (8, true)⟩) (v := undef) rfl (by kernel_rfl) (by kernel_rfl) (by kernel_rfl) (fun _ _ _ h => h) (Or.inr ⟨by rfl, rfl⟩) hHeld ?_
          simp only [Act.put, List.setIfInBounds_toArray, List.set_cons_zero, List.set_cons_succ]
          refine wpAnyH_take (i := 17) (oi := ⟨some 31, .binOp .leq 3 (.tmp 24) (.tmp 30) 3, 4, "log.go:63", #[⟨10, .data⟩, ⟨16, .data⟩, ⟨8, .guard⟩], some (8, true)⟩) (v := undef) rfl (by kernel_rfl) (by kernel_rfl) (by kernel_rfl) (fun _ _ _ h => h) (Or.inr ⟨by rfl, rfl⟩) hHeld ?_
          simp only [Act.put, List.setIfInBounds_toArray, List.set_cons_zero, List.set_cons_succ]
          refine wpAnyH_take (i := 18) (oi := ⟨some 32, .pick (.tmp 22) (.tmp 31) (.const (.bool false)), 4, "log.go:63", #[⟨8, .data⟩, ⟨17, .data⟩, ⟨5, .guard⟩], some (5, false)⟩) (v := (.bool false)) rfl (by kernel_rfl) (by kernel_rfl) (by kernel_rfl) (fun _ _ _ h => h) (Or.inl ⟨by rfl, fun _ _ => by rfl⟩) hHeld ?_
          simp only [Act.put, List.setIfInBounds_toArray, List.set_cons_zero, List.set_cons_succ]
          refine wpAnyH_take (i := 19) (oi := ⟨some 33, .pick (.tmp 19) (.const (.bool true)) (.tmp 32), 4, "log.go:63", #[⟨5, .data⟩, ⟨18, .data⟩], none⟩) (v := (.bool false)) rfl (by kernel_rfl) (by kernel_rfl) (by kernel_rfl) (fun _ _ _ h => h) (Or.inl ⟨by rfl, fun _ _ => by rfl⟩) hHeld ?_
          simp only [Act.put, List.setIfInBounds_toArray, List.set_cons_zero, List.set_cons_succ]
          refine wpAnyH_done (by kernel_rfl) ?_ _
          go_wp2_with fail
          go_roundw
          case rel => exact ⟨0 + 1, by omega, by go_num, q2.1, (HRL.out _ q2).1, (HRL.out _ q2).2.1, (HRL.out _ q2).2.2, HM1.out (HM0.out.trans (by simp [ho]))⟩
          case measure => simp [intOf]; omega
        · have ho : outB k st sz b = false := by simpa using ho
          have hKc : ∀ w'' : World, w''.heap[r]? = some (.cells #[.pointer (some ⟨d, 0, none⟩), .int .i64 st, .int .i64 sz] 118) → w''.heap[q]? = some (.cells #[.int .i64 (b : Nat), .int .i64 (f : Nat)] 250) → Lns w'' (.slice (some ⟨g, 0, none⟩) n c) ls → (w''.cell? ⟨r, 0, none⟩ = some (.pointer (some ⟨d, 0, none⟩)) ∧ w''.cell? ⟨r, 1, none⟩ = some (.int .i64 st) ∧ w''.cell? ⟨r, 2, none⟩ = some (.int .i64 sz) ∧ w''.cell? ⟨q, 0, none⟩ = some (.int .i64 (b : Nat))) := fun w'' h1 h2 h3 => ⟨by simp [World.cell?, h1], by simp [World.cell?, h1], by simp [World.cell?, h1], by simp [World.cell?, h2]⟩
          have k0 := hKc _ xD yD hLD
          rw [ho] at m1
          go_wp2_with fail
          try rw [hW1]
          try rw [hq]
          refine wp_region_held_drew (S := fun w'' => w''.cell? ⟨r, 0, none⟩ = some (.pointer (some ⟨d, 0, none⟩)) ∧ w''.cell? ⟨r, 1, none⟩ = some (.int .i64 st) ∧ w''.cell? ⟨r, 2, none⟩ = some (.int .i64 sz) ∧ w''.cell? ⟨q, 0, none⟩ = some (.int .i64 (b : Nat))) (by kernel_rfl) k0 (fun hHeld => ?_)
          refine wpAnyH_take (i := 0) (oi := ⟨some 14, .load 118 (.tmp 2), 118, "log.go:63", #[], none⟩) (v := (.agg #[.pointer (some ⟨d, 0, none⟩), .int .i64 st, .int .i64 sz])) rfl (by kernel_rfl) (by kernel_rfl) (by kernel_rfl) (fun _ _ _ h => h) (Or.inl ⟨by rfl, fun w' h' => by have e0 := h'.1; have e1 := h'.2.1; have e2 := h'.2.2.1; have e3 := h'.2.2.2; unfold execOp; go_simp⟩) hHeld ?_
          simp only [Act.put, List.setIfInBounds_toArray, List.set_cons_zero, List.set_cons_succ]
          refine wpAnyH_take (i := 1) (oi := ⟨some 15, .fieldAddr 250 (.tmp 6) 0, 0, "log.go:63", #[], none⟩) (v := (.pointer (some ⟨q, 0, none⟩))) rfl (by kernel_rfl) (by kernel_rfl) (by kernel_rfl) (fun _ _ _ h => h) (Or.inl ⟨by rfl, fun _ _ => by rfl⟩) hHeld ?_
          simp only [Act.put, List.setIfInBounds_toArray, List.set_cons_zero, List.set_cons_succ]
          refine wpAnyH_take (i := 2) (oi := ⟨some 16, .load 3 (.tmp 15), 3, "log.go:63", #[⟨1, .data⟩], none⟩) (v := (.int .i64 (b : Nat))) rfl (by kernel_rfl) (by kernel_rfl) (by kernel_rfl) (fun _ _ _ h => h) (Or.inl ⟨by rfl, fun w' h' => by have e0 := h'.1; have e1 := h'.2.1; have e2 := h'.2.2.1; have e3 := h'.2.2.2; unfold execOp; go_simp⟩) hHeld ?_
          simp only [Act.put, List.setIfInBounds_toArray, List.set_cons_zero, List.set_cons_succ]
          refine wpAnyH_ready (rs := [3]) (by kernel_rfl) (by simp) ?_
          refine AllReadyH.cons (o := ⟨some 17, .call ⟨.value (.func 110), #[.tmp 14, .tmp 16], #[118, 3]⟩, 4, "log.go:63", #[⟨0, .data⟩, ⟨2, .data⟩], none⟩) rfl (fun KK hK => ?_) (AllReadyH.nil)
          go_simp
          refine m1.mono ?_
          rintro e w2 ⟨rfl, q2⟩
          have k1 := hKc w2 ((q2.2.block r (heap_lt xD) hrF).trans xD) ((q2.2.block q (heap_lt yD) hqF).trans yD) (hLD.turns q2.2 hF0)
          refine hK.out _ _ k1 (fun hHeld => ?_)
          clear hK KK
          try simp only [Act.put, List.setIfInBounds_toArray, List.set_cons_zero, List.set_cons_succ]
          refine wpAnyH_take (i := 4) (oi := ⟨some 18, .unOp UnOp.not 4 (.tmp 17), 4, "log.go:63", #[⟨3, .data⟩], none⟩) (v := (.bool true)) rfl (by kernel_rfl) (by kernel_rfl) (by kernel_rfl) (fun _ _ _ h => h) (Or.inl ⟨by rfl, fun _ _ => by rfl⟩) hHeld ?_
          simp only [Act.put, List.setIfInBounds_toArray, List.set_cons_zero, List.set_cons_succ]
          refine wpAnyH_take (i := 5) (oi := ⟨some 19, .move (.tmp 18), 4, "log.go:63", #[⟨4, .data⟩, ⟨3, .chain⟩], none⟩) (v := (.bool true)) rfl (by kernel_rfl) (by kernel_rfl) (by kernel_rfl) (fun _ _ _ h => h) (Or.inl ⟨by rfl, fun _ _ => by rfl⟩) hHeld ?_
          simp only [Act.put, List.setIfInBounds_toArray, List.set_cons_zero, List.set_cons_succ]
          refine wpAnyH_take (i := 6) (oi := ⟨some 20, .move (.tmp 5), 3, "log.go:63", #[⟨5, .guard⟩], some (5, false)⟩) (v := undef) rfl (by kernel_rfl) (by kernel_rfl) (by kernel_rfl) (fun _ _ _ h => h) (Or.inr ⟨by rfl, rfl⟩) hHeld ?_
          simp only [Act.put, List.setIfInBounds_toArray, List.set_cons_zero, List.set_cons_succ]
          refine wpAnyH_take (i := 7) (oi := ⟨some 21, .binOp .gtr 3 (.tmp 20) (.const (.int .i64 0)) 3, 4, "log.go:63", #[⟨6, .data⟩, ⟨5, .guard⟩], some (5, false)⟩) (v := undef) rfl (by kernel_rfl) (by kernel_rfl) (by kernel_rfl) (fun _ _ _ h => h) (Or.inr ⟨by rfl, rfl⟩) hHeld ?_
          simp only [Act.put, List.setIfInBounds_toArray, List.set_cons_zero, List.set_cons_succ]
          refine wpAnyH_take (i := 8) (oi := ⟨some 22, .move (.tmp 21), 4, "log.go:63", #[⟨7, .data⟩, ⟨5, .chain⟩, ⟨5, .guard⟩], some (5, false)⟩) (v := undef) rfl (by kernel_rfl) (by kernel_rfl) (by kernel_rfl) (fun _ _ _ h => h) (Or.inr ⟨by rfl, rfl⟩) hHeld ?_
          simp only [Act.put, List.setIfInBounds_toArray, List.set_cons_zero, List.set_cons_succ]
          refine wpAnyH_take (i := 9) (oi := ⟨some 23, .fieldAddr 250 (.tmp 6) 0, 0, "log.go:63", #[⟨8, .guard⟩], some (8, true)⟩) (v := undef) rfl (by kernel_rfl) (by kernel_rfl) (by kernel_rfl) (fun _ _ _ h => h) (Or.inr ⟨by rfl, rfl⟩) hHeld ?_
          simp only [Act.put, List.setIfInBounds_toArray, List.set_cons_zero, List.set_cons_succ]
          refine wpAnyH_take (i := 10) (oi := ⟨some 24, .load 3 (.tmp 23), 3, "log.go:63", #[⟨9, .data⟩, ⟨8, .guard⟩], some (8, true)⟩) (v := undef) rfl (by kernel_rfl) (by kernel_rfl) (by kernel_rfl) (fun _ _ _ h => h) (Or.inr ⟨by rfl, rfl⟩) hHeld ?_
          simp only [Act.put, List.setIfInBounds_toArray, List.set_cons_zero, List.set_cons_succ]
          refine wpAnyH_take (i := 11) (oi := ⟨some 25, .move (.tmp 1), 248, "log.go:63", #[⟨8, .guard⟩], some (8, true)⟩) (v := undef) rfl (by kernel_rfl) (by kernel_rfl) (by kernel_rfl) (fun _ _ _ h => h) (Or.inr ⟨by rfl, rfl⟩) hHeld ?_
          simp only [Act.put, List.setIfInBounds_toArray, List.set_cons_zero, List.set_cons_succ]
          refine wpAnyH_take (i := 12) (oi := ⟨some 26, .move (.tmp 5), 3, "log.go:63", #[⟨8, .guard⟩], some (8, true)⟩) (v := undef) rfl (by kernel_rfl) (by kernel_rfl) (by kernel_rfl) (fun _ _ _ h => h) (Or.inr ⟨by rfl, rfl⟩) hHeld ?_
          simp only [Act.put, List.setIfInBounds_toArray, List.set_cons_zero, List.set_cons_succ]
          refine wpAnyH_take (i := 13) (oi := ⟨some 27, .binOp .sub 3 (.tmp 26) (.const (.int .i64 1)) 3, 3, "log.go:63", #[⟨12, .data⟩, ⟨8, .guard⟩], some (8, true)⟩) (v := undef) rfl (by kernel_rfl) (by kernel_rfl) (by kernel_rfl) (fun _ _ _ h => h) (Or.inr ⟨by rfl, rfl⟩) hHeld ?_
          simp only [Act.put, List.setIfInBounds_toArray, List.set_cons_zero, List.set_cons_succ]
          refine wpAnyH_take (i := 14) (oi := ⟨some 28, .indexAddr 248 (.tmp 25) (.tmp 27), 0, "log.go:63", #[⟨11, .data⟩, ⟨13, .data⟩, ⟨8, .guard⟩], some (8, true)⟩) (v := undef) rfl (by kernel_rfl) (by kernel_rfl) (by kernel_rfl) (fun _ _ _ h => h) (Or.inr ⟨by rfl, rfl⟩) hHeld ?_
          simp only [Act.put, List.setIfInBounds_toArray, List.set_cons_zero, List.set_cons_succ]
          refine wpAnyH_take (i := 15) (oi := ⟨some 29, .fieldAddr 250 (.tmp 28) 0, 0, "log.go:63", #[⟨14, .data⟩, ⟨8, .guard⟩], some (8, true)⟩) (v := undef) rfl (by kernel_rfl) (by kernel_rfl) (by kernel_rfl) (fun _ _ _ h => h) (Or.inr ⟨by rfl, rfl⟩) hHeld ?_
          simp only [Act.put, List.setIfInBounds_toArray, List.set_cons_zero, List.set_cons_succ]
          refine wpAnyH_take (i := 16) (oi := ⟨some 30, .load 3 (.tmp 29), 3, "log.go:63", #[⟨15, .data⟩, ⟨8, .guard⟩], some (8, true)⟩) (v := undef) rfl (by kernel_rfl) (by kernel_rfl) (by kernel_rfl) (fun _ _ _ h => h) (Or.inr ⟨by rfl, rfl⟩) hHeld ?_
          simp only [Act.put, List.setIfInBounds_toArray, List.set_cons_zero, List.set_cons_succ]
          refine wpAnyH_take (i := 17) (oi := ⟨some 31, .binOp .leq 3 (.tmp 24) (.tmp 30) 3, 4, "log.go:63", #[⟨10, .data⟩, ⟨16, .data⟩, ⟨8, .guard⟩], some (8, true)⟩) (v := undef) rfl (by kernel_rfl) (by kernel_rfl) (by kernel_rfl) (fun _ _ _ h => h) (Or.inr ⟨by rfl, rfl⟩) hHeld ?_
          simp only [Act.put, List.setIfInBounds_toArray, List.set_cons_zero, List.set_cons_succ]
          refine wpAnyH_take (i := 18) (oi := ⟨some 32, .pick (.tmp 22) (.tmp 31) (.const (.bool false)), 4, "log.go:63", #[⟨8, .data⟩, ⟨17, .data⟩, ⟨5, .guard⟩], some (5, false)⟩) (v := undef) rfl (by kernel_rfl) (by kernel_rfl) (by kernel_rfl) (fun _ _ _ h => h) (Or.inr ⟨by rfl, rfl⟩) hHeld ?_
          simp only [Act.put, List.setIfInBounds_toArray, List.set_cons_zero, List.set_cons_succ]
          refine wpAnyH_take (i := 19) (oi := ⟨some 33, .pick (.tmp 19) (.const (.bool true)) (.tmp 32), 4, "log.go:63", #[⟨5, .data⟩, ⟨18, .data⟩], none⟩) (v := (.bool true)) rfl (by kernel_rfl) (by kernel_rfl) (by kernel_rfl) (fun _ _ _ h => h) (Or.inl ⟨by rfl, fun _ _ => by rfl⟩) hHeld ?_
          simp only [Act.put, List.setIfInBounds_toArray, List.set_cons_zero, List.set_cons_succ]
          refine wpAnyH_done (by kernel_rfl) ?_ _
          go_wp2_with fail
          go_ret
          exact ⟨by rw [HF9.out (HM0.out.trans (by simp [ho]))]; rfl, HSM.out _ q2⟩
      | succ s =>
        have hpos : (0 : Int) < (s : Int) + 1 := by omega
        have hsub : (s : Int) + 1 - 1 = (s : Int) := by omega
        have hsn : (s : Int) < n := by omega
        have hwr : IntKind.i64.wrap (s : Int) = s := Go.IntWalk.i64_in _ ⟨by omega, by omega⟩
        obtain ⟨⟨b', f'⟩, hp'⟩ : ∃ p, ls[s]? = some p := ⟨_, List.getElem?_eq_getElem (by omega)⟩
        have HPD : Hid ((ls.getD (s + 1 - 1) (0, 0)).1 = b') := by show (ls.getD (s + 1 - 1) (0, 0)).1 = b'; simp [List.getD, hp']
        have HPV : Hid (∀ w'' : World, Lns w'' (.slice (some ⟨g, 0, none⟩) n c) ls → w''.cell? ⟨g, s * 2, none⟩ = some (.int .i64 (b' : Nat))) := fun w'' h3 => by
          obtain ⟨g', c', hgv, y0, _⟩ := h3.get hp'
          injection hgv with e1 e2 e3
          injection e1 with e1
          injection e1 with e1
          rw [e1]
          exact y0
        by_cases ho : outB k st sz b = true
        · by_cases hle : b' < b
          · have hlei : ¬ (b : Int) ≤ b' := by omega
            have hKc : ∀ w'' : World, w''.heap[r]? = some (.cells #[.pointer (some ⟨d, 0, none⟩), .int .i64 st, .int .i64 sz] 118) → w''.heap[q]? = some (.cells #[.int .i64 (b : Nat), .int .i64 (f : Nat)] 250) → Lns w'' (.slice (some ⟨g, 0, none⟩) n c) ls → (w''.cell? ⟨r, 0, none⟩ = some (.pointer (some ⟨d, 0, none⟩)) ∧ w''.cell? ⟨r, 1, none⟩ = some (.int .i64 st) ∧ w''.cell? ⟨r, 2, none⟩ = some (.int .i64 sz) ∧ w''.cell? ⟨q, 0, none⟩ = some (.int .i64 (b : Nat)) ∧ w''.cell? ⟨g, s * 2, none⟩ = some (.int .i64 (b' : Nat))) := fun w'' h1 h2 h3 => ⟨by simp [World.cell?, h1], by simp [World.cell?, h1], by simp [World.cell?, h1], by simp [World.cell?, h2], HPV.out w'' h3⟩
            have k0 := hKc _ xD yD hLD
            rw [ho] at m1
            go_wp2_with fail
            try rw [hW1]
            try rw [hq]
            refine wp_region_held_drew (S := fun w'' => w''.cell? ⟨r, 0, none⟩ = some (.pointer (some ⟨d, 0, none⟩)) ∧ w''.cell? ⟨r, 1, none⟩ = some (.int .i64 st) ∧ w''.cell? ⟨r, 2, none⟩ = some (.int .i64 sz) ∧ w''.cell? ⟨q, 0, none⟩ = some (.int .i64 (b : Nat)) ∧ w''.cell? ⟨g, s * 2, none⟩ = some (.int .i64 (b' : Nat))) (by kernel_rfl) k0 (fun hHeld => ?_)
            refine wpAnyH_take (i := 0) (oi := ⟨some 14, .load 118 (.tmp 2), 118, "log.go:63", #[], none⟩) (v := (.agg #[.pointer (some ⟨d, 0, none⟩), .int .i64 st, .int .i64 sz])) rfl (by kernel_rfl) (by kernel_rfl) (by kernel_rfl) (fun _ _ _ h => h) (Or.inl ⟨by rfl, fun w' h' => by have e0 := h'.1; have e1 := h'.2.1; have e2 := h'.2.2.1; have e3 := h'.2.2.2.1; have e4 := h'.2.2.2.2; unfold execOp; go_simp⟩) hHeld ?_
            simp only [Act.put, List.setIfInBounds_toArray, List.set_cons_zero, List.set_cons_succ]
            refine wpAnyH_take (i := 1) (oi := ⟨some 15, .fieldAddr 250 (.tmp 6) 0, 0, "log.go:63", #[], none⟩) (v := (.pointer (some ⟨q, 0, none⟩))) rfl (by kernel_rfl) (by kernel_rfl) (by kernel_rfl) (fun _ _ _ h => h) (Or.inl ⟨by rfl, fun _ _ => by rfl⟩) hHeld ?_
            simp only [Act.put, List.setIfInBounds_toArray, List.set_cons_zero, List.set_cons_succ]
            refine wpAnyH_take (i := 2) (oi := ⟨some 16, .load 3 (.tmp 15), 3, "log.go:63", #[⟨1, .data⟩], none⟩) (v := (.int .i64 (b : Nat))) rfl (by kernel_rfl) (by kernel_rfl) (by kernel_rfl) (fun _ _ _ h => h) (Or.inl ⟨by rfl, fun w' h' => by have e0 := h'.1; have e1 := h'.2.1; have e2 := h'.2.2.1; have e3 := h'.2.2.2.1; have e4 := h'.2.2.2.2; unfold execOp; go_simp⟩) hHeld ?_
            simp only [Act.put, List.setIfInBounds_toArray, List.set_cons_zero, List.set_cons_succ]
            refine wpAnyH_ready (rs := [3]) (by kernel_rfl) (by simp) ?_
            refine AllReadyH.cons (o := ⟨some 17, .call ⟨.value (.func 110), #[.tmp 14, .tmp 16], #[118, 3]⟩, 4, "log.go:63", #[⟨0, .data⟩, ⟨2, .data⟩], none⟩) rfl (fun KK hK => ?_) (AllReadyH.nil)
            go_simp
            refine m1.mono ?_
            rintro e w2 ⟨rfl, q2⟩
            have k1 := hKc w2 ((q2.2.block r (heap_lt xD) hrF).trans xD) ((q2.2.block q (heap_lt yD) hqF).trans yD) (hLD.turns q2.2 hF0)
            refine hK.out _ _ k1 (fun hHeld => ?_)
            clear hK KK
            try simp only [Act.put, List.setIfInBounds_toArray, List.set_cons_zero, List.set_cons_succ]
            refine wpAnyH_take (i := 4) (oi := ⟨some 18, .unOp UnOp.not 4 (.tmp 17), 4, "log.go:63", #[⟨3, .data⟩], none⟩) (v := (.bool false)) rfl (by kernel_rfl) (by kernel_rfl) (by kernel_rfl) (fun _ _ _ h => h) (Or.inl ⟨by rfl, fun _ _ => by rfl⟩) hHeld ?_
            simp only [Act.put, List.setIfInBounds_toArray, List.set_cons_zero, List.set_cons_succ]
            refine wpAnyH_take (i := 5) (oi := ⟨some 19, .move (.tmp 18), 4, "log.go:63", #[⟨4, .data⟩, ⟨3, .chain⟩], none⟩) (v := (.bool false)) rfl (by kernel_rfl) (by kernel_rfl) (by kernel_rfl) (fun _ _ _ h => h) (Or.inl ⟨by rfl, fun _ _ => by rfl⟩) hHeld ?_
            simp only [Act.put, List.setIfInBounds_toArray, List.set_cons_zero, List.set_cons_succ]
            refine wpAnyH_take (i := 6) (oi := ⟨some 20, .move (.tmp 5), 3, "log.go:63", #[⟨5, .guard⟩], some (5, false)⟩) (v := (.int .i64 ((s : Int) + 1))) rfl (by kernel_rfl) (by kernel_rfl) (by kernel_rfl) (fun _ _ _ h => h) (Or.inl ⟨by rfl, fun _ _ => by rfl⟩) hHeld ?_
            simp only [Act.put, List.setIfInBounds_toArray, List.set_cons_zero, List.set_cons_succ]
            refine wpAnyH_take (i := 7) (oi := ⟨some 21, .binOp .gtr 3 (.tmp 20) (.const (.int .i64 0)) 3, 4, "log.go:63", #[⟨6, .data⟩, ⟨5, .guard⟩], some (5, false)⟩) (v := (.bool true)) rfl (by kernel_rfl) (by kernel_rfl) (by kernel_rfl) (fun _ _ _ h => h) (Or.inl ⟨by rfl, fun w' h' => by unfold execOp; go_simp⟩) hHeld ?_
            simp only [Act.put, List.setIfInBounds_toArray, List.set_cons_zero, List.set_cons_succ]
            refine wpAnyH_take (i := 8) (oi := ⟨some 22, .move (.tmp 21), 4, "log.go:63", #[⟨7, .data⟩, ⟨5, .chain⟩, ⟨5, .guard⟩], some (5, false)⟩) (v := (.bool true)) rfl (by kernel_rfl) (by kernel_rfl) (by kernel_rfl) (fun _ _ _ h => h) (Or.inl ⟨by rfl, fun _ _ => by rfl⟩) hHeld ?_
            simp only [Act.put, List.setIfInBounds_toArray, List.set_cons_zero, List.set_cons_succ]
            refine wpAnyH_take (i := 9) (oi := ⟨some 23, .fieldAddr 250 (.tmp 6) 0, 0, "log.go:63", #[⟨8, .guard⟩], some (8, true)⟩) (v := (.pointer (some ⟨q, 0, none⟩))) rfl (by kernel_rfl) (by kernel_rfl) (by kernel_rfl) (fun _ _ _ h => h) (Or.inl ⟨by rfl, fun _ _ => by rfl⟩) hHeld ?_
            simp only [Act.put, List.setIfInBounds_toArray, List.set_cons_zero, List.set_cons_succ]
            refine wpAnyH_take (i := 10) (oi := ⟨some 24, .load 3 (.tmp 23), 3, "log.go:63", #[⟨9, .data⟩, ⟨8, .guard⟩], some (8, true)⟩) (v := (.int .i64 (b : Nat))) rfl (by kernel_rfl) (by kernel_rfl) (by kernel_rfl) (fun _ _ _ h => h) (Or.inl ⟨by rfl, fun w' h' => by have e0 := h'.1; have e1 := h'.2.1; have e2 := h'.2.2.1; have e3 := h'.2.2.2.1; have e4 := h'.2.2.2.2; unfold execOp; go_simp⟩) hHeld ?_
            simp only [Act.put, List.setIfInBounds_toArray, List.set_cons_zero, List.set_cons_succ]
            refine wpAnyH_take (i := 11) (oi := ⟨some 25, .move (.tmp 1), 248, "log.go:63", #[⟨8, .guard⟩], some (8, true)⟩) (v := (.slice (some ⟨g, 0, none⟩) n c)) rfl (by kernel_rfl) (by kernel_rfl) (by kernel_rfl) (fun _ _ _ h => h) (Or.inl ⟨by rfl, fun _ _ => by rfl⟩) hHeld ?_
            simp only [Act.put, List.setIfInBounds_toArray, List.set_cons_zero, List.set_cons_succ]
            refine wpAnyH_take (i := 12) (oi := ⟨some 26, .move (.tmp 5), 3, "log.go:63", #[⟨8, .guard⟩], some (8, true)⟩) (v := (.int .i64 ((s : Int) + 1))) rfl (by kernel_rfl) (by kernel_rfl) (by kernel_rfl) (fun _ _ _ h => h) (Or.inl ⟨by rfl, fun _ _ => by rfl⟩) hHeld ?_
            simp only [Act.put, List.setIfInBounds_toArray, List.set_cons_zero, List.set_cons_succ]
            refine wpAnyH_take (i := 13) (oi := ⟨some 27, .binOp .sub 3 (.tmp 26) (.const (.int .i64 1)) 3, 3, "log.go:63", #[⟨12, .data⟩, ⟨8, .guard⟩], some (8, true)⟩) (v := (.int .i64 (s : Nat))) rfl (by kernel_rfl) (by kernel_rfl) (by kernel_rfl) (fun _ _ _ h => h) (Or.inl ⟨by rfl, fun w' h' => by unfold execOp; go_simp⟩) hHeld ?_
            simp only [Act.put, List.setIfInBounds_toArray, List.set_cons_zero, List.set_cons_succ]
            refine wpAnyH_take (i := 14) (oi := ⟨some 28, .indexAddr 248 (.tmp 25) (.tmp 27), 0, "log.go:63", #[⟨11, .data⟩, ⟨13, .data⟩, ⟨8, .guard⟩], some (8, true)⟩) (v := (.pointer (some ⟨g, s * 2, none⟩))) rfl (by kernel_rfl) (by kernel_rfl) (by kernel_rfl) (fun _ _ _ h => h) (Or.inl ⟨by rfl, fun w' h' => by unfold execOp; go_simp⟩) hHeld ?_
            simp only [Act.put, List.setIfInBounds_toArray, List.set_cons_zero, List.set_cons_succ]
            refine wpAnyH_take (i := 15) (oi := ⟨some 29, .fieldAddr 250 (.tmp 28) 0, 0, "log.go:63", #[⟨14, .data⟩, ⟨8, .guard⟩], some (8, true)⟩) (v := (.pointer (some ⟨g, s * 2, none⟩))) rfl (by kernel_rfl) (by kernel_rfl) (by kernel_rfl) (fun _ _ _ h => h) (Or.inl ⟨by rfl, fun _ _ => by rfl⟩) hHeld ?_
            simp only [Act.put, List.setIfInBounds_toArray, List.set_cons_zero, List.set_cons_succ]
            refine wpAnyH_take (i := 16) (oi := ⟨some 30, .load 3 (.tmp 29), 3, "log.go:63", #[⟨15, .data⟩, ⟨8, .guard⟩], some (8, true)⟩) (v := (.int .i64 (b' : Nat))) rfl (by kernel_rfl) (by kernel_rfl) (by kernel_rfl) (fun _ _ _ h => h) (Or.inl ⟨by rfl, fun w' h' => by have e0 := h'.1; have e1 := h'.2.1; have e2 := h'.2.2.1; have e3 := h'.2.2.2.1; have e4 := h'.2.2.2.2; unfold execOp; go_simp⟩) hHeld ?_
            simp only [Act.put, List.setIfInBounds_toArray, List.set_cons_zero, List.set_cons_succ]
            refine wpAnyH_take (i := 17) (oi := ⟨some 31, .binOp .leq 3 (.tmp 24) (.tmp 30) 3, 4, "log.go:63", #[⟨10, .data⟩, ⟨16, .data⟩, ⟨8, .guard⟩], some (8, true)⟩) (v := (.bool false)) rfl (by kernel_rfl) (by kernel_rfl) (by kernel_rfl) (fun _ _ _ h => h) (Or.inl ⟨by rfl, fun w' h' => by unfold execOp; go_simp⟩) hHeld ?_
            simp only [Act.put, List.setIfInBounds_toArray, List.set_cons_zero, List.set_cons_succ]
            refine wpAnyH_take (i := 18) (oi := ⟨some 32, .pick (.tmp 22) (.tmp 31) (.const (.bool false)), 4, "log.go:63", #[⟨8, .data⟩, ⟨17, .data⟩, ⟨5, .guard⟩], some (5, false)⟩) (v := (.bool false)) rfl (by kernel_rfl) (by kernel_rfl) (by kernel_rfl) (fun _ _ _ h => h) (Or.inl ⟨by rfl, fun _ _ => by rfl⟩) hHeld ?_
            simp only [Act.put, List.setIfInBounds_toArray, List.set_cons_zero, List.set_cons_succ]
            refine wpAnyH_take (i := 19) (oi := ⟨some 33, .pick (.tmp 19) (.const (.bool true)) (.tmp 32), 4, "log.go:63", #[⟨5, .data⟩, ⟨18, .data⟩], none⟩) (v := (.bool false)) rfl (by kernel_rfl) (by kernel_rfl) (by kernel_rfl) (fun _ _ _ h => h) (Or.inl ⟨by rfl, fun _ _ => by rfl⟩) hHeld ?_
            simp only [Act.put, List.setIfInBounds_toArray, List.set_cons_zero, List.set_cons_succ]
            refine wpAnyH_done (by kernel_rfl) ?_ _
            go_wp2_with fail
            go_roundw
            case rel => exact ⟨(s + 1) + 1, by omega, by go_num, q2.1, (HRL.out _ q2).1, (HRL.out _ q2).2.1, (HRL.out _ q2).2.2, HM1.out (HM0.out.trans (by rw [ho, HPD.out]; simp; omega))⟩
            case measure => simp [intOf]; omega
          · have hlei : (b : Int) ≤ b' := by omega
            have hKc : ∀ w'' : World, w''.heap[r]? = some (.cells #[.pointer (some ⟨d, 0, none⟩), .int .i64 st, .int .i64 sz] 118) → w''.heap[q]? = some (.cells #[.int .i64 (b : Nat), .int .i64 (f : Nat)] 250) → Lns w'' (.slice (some ⟨g, 0, none⟩) n c) ls → (w''.cell? ⟨r, 0, none⟩ = some (.pointer (some ⟨d, 0, none⟩)) ∧ w''.cell? ⟨r, 1, none⟩ = some (.int .i64 st) ∧ w''.cell? ⟨r, 2, none⟩ = some (.int .i64 sz) ∧ w''.cell? ⟨q, 0, none⟩ = some (.int .i64 (b : Nat)) ∧ w''.cell? ⟨g, s * 2, none⟩ = some (.int .i64 (b' : Nat))) := fun w'' h1 h2 h3 => ⟨by simp [World.cell?, h1], by simp [World.cell?, h1], by simp [World.cell?, h1], by simp [World.cell?, h2], HPV.out w'' h3⟩
            have k0 := hKc _ xD yD hLD
            rw [ho] at m1
            go_wp2_with fail
            try rw [hW1]
            try rw [hq]
            refine wp_region_held_drew (S := fun w'' => w''.cell? ⟨r, 0, none⟩ = some (.pointer (some ⟨d, 0, none⟩)) ∧ w''.cell? ⟨r, 1, none⟩ = some (.int .i64 st) ∧ w''.cell? ⟨r, 2, none⟩ = some (.int .i64 sz) ∧ w''.cell? ⟨q, 0, none⟩ = some (.int .i64 (b : Nat)) ∧ w''.cell? ⟨g, s * 2, none⟩ = some (.int .i64 (b' : Nat))) (by kernel_rfl) k0 (fun hHeld => ?_)
            refine wpAnyH_take (i := 0) (oi := ⟨some 14, .load 118 (.tmp 2), 118, "log.go:63", #[], none⟩) (v := (.agg #[.pointer (some ⟨d, 0, none⟩), .int .i64 st, .int .i64 sz])) rfl (by kernel_rfl) (by kernel_rfl) (by kernel_rfl) (fun _ _ _ h => h) (Or.inl ⟨by rfl, fun w' h' => by have e0 := h'.1; have e1 := h'.2.1; have e2 := h'.2.2.1; have e3 := h'.2.2.2.1; have e4 := h'.2.2.2.2; unfold execOp; go_simp⟩) hHeld ?_
            simp only [Act.put, List.setIfInBounds_toArray, List.set_cons_zero, List.set_cons_succ]
            refine wpAnyH_take (i := 1) (oi := ⟨some 15, .fieldAddr 250 (.tmp 6) 0, 0, "log.go:63", #[], none⟩) (v := (.pointer (some ⟨q, 0, none⟩))) rfl (by kernel_rfl) (by kernel_rfl) (by kernel_rfl) (fun _ _ _ h => h) (Or.inl ⟨by rfl, fun _ _ => by rfl⟩) hHeld ?_
            simp only [Act.put, List.setIfInBounds_toArray, List.set_cons_zero, List.set_cons_succ]
            refine wpAnyH_take (i := 2) (oi := ⟨some 16, .load 3 (.tmp 15), 3, "log.go:63", #[⟨1, .data⟩], none⟩) (v := (.int .i64 (b : Nat))) rfl (by kernel_rfl) (by kernel_rfl) (by kernel_rfl) (fun _ _ _ h => h) (Or.inl ⟨by rfl, fun w' h' => by have e0 := h'.1; have e1 := h'.2.1; have e2 := h'.2.2.1; have e3 := h'.2.2.2.1; have e4 := h'.2.2.2.2; unfold execOp; go_simp⟩) hHeld ?_
            simp only [Act.put, List.setIfInBounds_toArray, List.set_cons_zero, List.set_cons_succ]
            refine wpAnyH_ready (rs := [3]) (by kernel_rfl) (by simp) ?_
            refine AllReadyH.cons (o := ⟨some 17, .call ⟨.value (.func 110), #[.tmp 14, .tmp 16], #[118, 3]⟩, 4, "log.go:63", #[⟨0, .data⟩, ⟨2, .data⟩], none⟩) rfl (fun KK hK => ?_) (AllReadyH.nil)
            go_simp
            refine m1.mono ?_
            rintro e w2 ⟨rfl, q2⟩
            have k1 := hKc w2 ((q2.2.block r (heap_lt xD) hrF).trans xD) ((q2.2.block q (heap_lt yD) hqF).trans yD) (hLD.turns q2.2 hF0)
            refine hK.out _ _ k1 (fun hHeld => ?_)
            clear hK KK
            try simp only [Act.put, List.setIfInBounds_toArray, List.set_cons_zero, List.set_cons_succ]
            refine wpAnyH_take (i := 4) (oi := ⟨some 18, .unOp UnOp.not 4 (.tmp 17), 4, "log.go:63", #[⟨3, .data⟩], none⟩) (v := (.bool false)) rfl (by kernel_rfl) (by kernel_rfl) (by kernel_rfl) (fun _ _ _ h => h) (Or.inl ⟨by rfl, fun _ _ => by rfl⟩) hHeld ?_
            simp only [Act.put, List.setIfInBounds_toArray, List.set_cons_zero, List.set_cons_succ]
            refine wpAnyH_take (i := 5) (oi := ⟨some 19, .move (.tmp 18), 4, "log.go:63", #[⟨4, .data⟩, ⟨3, .chain⟩], none⟩) (v := (.bool false)) rfl (by kernel_rfl) (by kernel_rfl) (by kernel_rfl) (fun _ _ _ h => h) (Or.inl ⟨by rfl, fun _ _ => by rfl⟩) hHeld ?_
            simp only [Act.put, List.setIfInBounds_toArray, List.set_cons_zero, List.set_cons_succ]
            refine wpAnyH_take (i := 6) (oi := ⟨some 20, .move (.tmp 5), 3, "log.go:63", #[⟨5, .guard⟩], some (5, false)⟩) (v := (.int .i64 ((s : Int) + 1))) rfl (by kernel_rfl) (by kernel_rfl) (by kernel_rfl) (fun _ _ _ h => h) (Or.inl ⟨by rfl, fun _ _ => by rfl⟩) hHeld ?_
            simp only [Act.put, List.setIfInBounds_toArray, List.set_cons_zero, List.set_cons_succ]
            refine wpAnyH_take (i := 7) (oi := ⟨some 21, .binOp .gtr 3 (.tmp 20) (.const (.int .i64 0)) 3, 4, "log.go:63", #[⟨6, .data⟩, ⟨5, .guard⟩], some (5, false)⟩) (v := (.bool true)) rfl (by kernel_rfl) (by kernel_rfl) (by kernel_rfl) (fun _ _ _ h => h) (Or.inl ⟨by rfl, fun w' h' => by unfold execOp; go_simp⟩) hHeld ?_
            simp only [Act.put, List.setIfInBounds_toArray, List.set_cons_zero, List.set_cons_succ]
            refine wpAnyH_take (i := 8) (oi := ⟨some 22, .move (.tmp 21), 4, "log.go:63", #[⟨7, .data⟩, ⟨5, .chain⟩, ⟨5, .guard⟩], some (5, false)⟩) (v := (.bool true)) rfl (by kernel_rfl) (by kernel_rfl) (by kernel_rfl) (fun _ _ _ h => h) (Or.inl ⟨by rfl, fun _ _ => by rfl⟩) hHeld ?_
            simp only [Act.put, List.setIfInBounds_toArray, List.set_cons_zero, List.set_cons_succ]
            refine wpAnyH_take (i := 9) (oi := ⟨some 23, .fieldAddr 250 (.tmp 6) 0, 0, "log.go:63", #[⟨8, .guard⟩], some (8, true)⟩) (v := (.pointer (some ⟨q, 0, none⟩))) rfl (by kernel_rfl) (by kernel_rfl) (by kernel_rfl) (fun _ _ _ h => h) (Or.inl ⟨by rfl, fun _ _ => by rfl⟩) hHeld ?_
            simp only [Act.put, List.setIfInBounds_toArray, List.set_cons_zero, List.set_cons_succ]
            refine wpAnyH_take (i := 10) (oi := ⟨some 24, .load 3 (.tmp 23), 3, "log.go:63", #[⟨9, .data⟩, ⟨8, .guard⟩], some (8, true)⟩) (v := (.int .i64 (b : Nat))) rfl (by kernel_rfl) (by kernel_rfl) (by kernel_rfl) (fun _ _ _ h => h) (Or.inl ⟨by rfl, fun w' h' => by have e0 := h'.1; have e1 := h'.2.1; have e2 := h'.2.2.1; have e3 := h'.2.2.2.1; have e4 := h'.2.2.2.2; unfold execOp; go_simp⟩) hHeld ?_
            simp only [Act.put, List.setIfInBounds_toArray, List.set_cons_zero, List.set_cons_succ]
            refine wpAnyH_take (i := 11) (oi := ⟨some 25, .move (.tmp 1), 248, "log.go:63", #[⟨8, .guard⟩], some (8, true)⟩) (v := (.slice (some ⟨g, 0, none⟩) n c)) rfl (by kernel_rfl) (by kernel_rfl) (by kernel_rfl) (fun _ _ _ h => h) (Or.inl ⟨by rfl, fun _ _ => by rfl⟩) hHeld ?_
            simp only [Act.put, List.setIfInBounds_toArray, List.set_cons_zero, List.set_cons_succ]
            refine wpAnyH_take (i := 12) (oi := ⟨some 26, .move (.tmp 5), 3, "log.go:63", #[⟨8, .guard⟩], some (8, true)⟩) (v := (.int .i64 ((s : Int) + 1))) rfl (by kernel_rfl) (by kernel_rfl) (by kernel_rfl) (fun _ _ _ h => h) (Or.inl ⟨by rfl, fun _ _ => by rfl⟩) hHeld ?_
            simp only [Act.put, List.setIfInBounds_toArray, List.set_cons_zero, List.set_cons_succ]
            refine wpAnyH_take (i := 13) (oi := ⟨some 27, .binOp .sub 3 (.tmp 26) (.const (.int .i64 1)) 3, 3, "log.go:63", #[⟨12, .data⟩, ⟨8, .guard⟩], some (8, true)⟩) (v := (.int .i64 (s : Nat))) rfl (by kernel_rfl) (by kernel_rfl) (by kernel_rfl) (fun _ _ _ h => h) (Or.inl ⟨by rfl, fun w' h' => by unfold execOp; go_simp⟩) hHeld ?_
            simp only [Act.put, List.setIfInBounds_toArray, List.set_cons_zero, List.set_cons_succ]
            refine wpAnyH_take (i := 14) (oi := ⟨some 28, .indexAddr 248 (.tmp 25) (.tmp 27), 0, "log.go:63", #[⟨11, .data⟩, ⟨13, .data⟩, ⟨8, .guard⟩], some (8, true)⟩) (v := (.pointer (some ⟨g, s * 2, none⟩))) rfl (by kernel_rfl) (by kernel_rfl) (by kernel_rfl) (fun _ _ _ h => h) (Or.inl ⟨by rfl, fun w' h' => by unfold execOp; go_simp⟩) hHeld ?_
            simp only [Act.put, List.setIfInBounds_toArray, List.set_cons_zero, List.set_cons_succ]
            refine wpAnyH_take (i := 15) (oi := ⟨some 29, .fieldAddr 250 (.tmp 28) 0, 0, "log.go:63", #[⟨14, .data⟩, ⟨8, .guard⟩], some (8, true)⟩) (v := (.pointer (some ⟨g, s * 2, none⟩))) rfl (by kernel_rfl) (by kernel_rfl) (by kernel_rfl) (fun _ _ _ h => h) (Or.inl ⟨by rfl, fun _ _ => by rfl⟩) hHeld ?_
            simp only [Act.put, List.setIfInBounds_toArray, List.set_cons_zero, List.set_cons_succ]
            refine wpAnyH_take (i := 16) (oi := ⟨some 30, .load 3 (.tmp 29), 3, "log.go:63", #[⟨15, .data⟩, ⟨8, .guard⟩], some (8, true)⟩) (v := (.int .i64 (b' : Nat))) rfl (by kernel_rfl) (by kernel_rfl) (by kernel_rfl) (fun _ _ _ h => h) (Or.inl ⟨by rfl, fun w' h' => by have e0 := h'.1; have e1 := h'.2.1; have e2 := h'.2.2.1; have e3 := h'.2.2.2.1; have e4 := h'.2.2.2.2; unfold execOp; go_simp⟩) hHeld ?_
            simp only [Act.put, List.setIfInBounds_toArray, List.set_cons_zero, List.set_cons_succ]
            refine wpAnyH_take (i := 17) (oi := ⟨some 31, .binOp .leq 3 (.tmp 24) (.tmp 30) 3, 4, "log.go:63", #[⟨10, .data⟩, ⟨16, .data⟩, ⟨8, .guard⟩], some (8, true)⟩) (v := (.bool true)) rfl (by kernel_rfl) (by kernel_rfl) (by kernel_rfl) (fun _ _ _ h => h) (Or.inl ⟨by rfl, fun w' h' => by unfold execOp; go_simp⟩) hHeld ?_
            simp only [Act.put, List.setIfInBounds_toArray, List.set_cons_zero, List.set_cons_succ]
            refine wpAnyH_take (i := 18) (oi := ⟨some 32, .pick (.tmp 22) (.tmp 31) (.const (.bool false)), 4, "log.go:63", #[⟨8, .data⟩, ⟨17, .data⟩, ⟨5, .guard⟩], some (5, false)⟩) (v := (.bool true)) rfl (by kernel_rfl) (by kernel_rfl) (by kernel_rfl) (fun _ _ _ h => h) (Or.inl ⟨by rfl, fun _ _ => by rfl⟩) hHeld ?_
            simp only [Act.put, List.setIfInBounds_toArray, List.set_cons_zero, List.set_cons_succ]
            refine wpAnyH_take (i := 19) (oi := ⟨some 33, .pick (.tmp 19) (.const (.bool true)) (.tmp 32), 4, "log.go:63", #[⟨5, .data⟩, ⟨18, .data⟩], none⟩) (v := (.bool true)) rfl (by kernel_rfl) (by kernel_rfl) (by kernel_rfl) (fun _ _ _ h => h) (Or.inl ⟨by rfl, fun _ _ => by rfl⟩) hHeld ?_
            simp only [Act.put, List.setIfInBounds_toArray, List.set_cons_zero, List.set_cons_succ]
            refine wpAnyH_done (by kernel_rfl) ?_ _
            go_wp2_with fail
            go_ret
            exact ⟨by rw [HF9.out (HM0.out.trans (by rw [ho, HPD.out]; simp; omega))]; rfl, HSM.out _ q2⟩
        · have ho : outB k st sz b = false := by simpa using ho
          have hKc : ∀ w'' : World, w''.heap[r]? = some (.cells #[.pointer (some ⟨d, 0, none⟩), .int .i64 st, .int .i64 sz] 118) → w''.heap[q]? = some (.cells #[.int .i64 (b : Nat), .int .i64 (f : Nat)] 250) → Lns w'' (.slice (some ⟨g, 0, none⟩) n c) ls → (w''.cell? ⟨r, 0, none⟩ = some (.pointer (some ⟨d, 0, none⟩)) ∧ w''.cell? ⟨r, 1, none⟩ = some (.int .i64 st) ∧ w''.cell? ⟨r, 2, none⟩ = some (.int .i64 sz) ∧ w''.cell? ⟨q, 0, none⟩ = some (.int .i64 (b : Nat)) ∧ w''.cell? ⟨g, s * 2, none⟩ = some (.int .i64 (b' : Nat))) := fun w'' h1 h2 h3 => ⟨by simp [World.cell?, h1], by simp [World.cell?, h1], by simp [World.cell?, h1], by simp [World.cell?, h2], HPV.out w'' h3⟩
          have k0 := hKc _ xD yD hLD
          rw [ho] at m1
          go_wp2_with fail
          try rw [hW1]
          try rw [hq]
          refine wp_region_held_drew (S := fun w'' => w''.cell? ⟨r, 0, none⟩ = some (.pointer (some ⟨d, 0, none⟩)) ∧ w''.cell? ⟨r, 1, none⟩ = some (.int .i64 st) ∧ w''.cell? ⟨r, 2, none⟩ = some (.int .i64 sz) ∧ w''.cell? ⟨q, 0, none⟩ = some (.int .i64 (b : Nat)) ∧ w''.cell? ⟨g, s * 2, none⟩ = some (.int .i64 (b' : Nat))) (by kernel_rfl) k0 (fun hHeld => ?_)
          refine wpAnyH_take (i := 0) (oi := ⟨some 14, .load 118 (.tmp 2), 118, "log.go:63", #[], none⟩) (v := (.agg #[.pointer (some ⟨d, 0, none⟩), .int .i64 st, .int .i64 sz])) rfl (by kernel_rfl) (by kernel_rfl) (by kernel_rfl) (fun _ _ _ h => h) (Or.inl ⟨by rfl, fun w' h' => by have e0 := h'.1; have e1 := h'.2.1; have e2 := h'.2.2.1; have e3 := h'.2.2.2.1; have e4 := h'.2.2.2.2; unfold execOp; go_simp⟩) hHeld ?_
          simp only [Act.put, List.setIfInBounds_toArray, List.set_cons_zero, List.set_cons_succ]
          refine wpAnyH_take (i := 1) (oi := ⟨some 15, .fieldAddr 250 (.tmp 6) 0, 0, "log.go:63", #[], none⟩) (v := (.pointer (some ⟨q, 0, none⟩))) rfl (by kernel_rfl) (by kernel_rfl) (by kernel_rfl) (fun _ _ _ h => h) (Or.inl ⟨by rfl, fun _ _ => by rfl⟩) hHeld ?_
          simp only [Act.put, List.setIfInBounds_toArray, List.set_cons_zero, List.set_cons_succ]
          refine wpAnyH_take (i := 2) (oi := ⟨some 16, .load 3 (.tmp 15), 3, "log.go:63", #[⟨1, .data⟩], none⟩) (v := (.int .i64 (b : Nat))) rfl (by kernel_rfl) (by kernel_rfl) (by kernel_rfl) (fun _ _ _ h => h) (Or.inl ⟨by rfl, fun w' h' => by have e0 := h'.1; have e1 := h'.2.1; have e2 := h'.2.2.1; have e3 := h'.2.2.2.1; have e4 := h'.2.2.2.2; unfold execOp; go_simp⟩) hHeld ?_
          simp only [Act.put, List.setIfInBounds_toArray, List.set_cons_zero, List.set_cons_succ]
          refine wpAnyH_ready (rs := [3]) (by kernel_rfl) (by simp) ?_
          refine AllReadyH.cons (o := ⟨some 17, .call ⟨.value (.func 110), #[.tmp 14, .tmp 16], #[118, 3]⟩, 4, "log.go:63", #[⟨0, .data⟩, ⟨2, .data⟩], none⟩) rfl (fun KK hK => ?_) (AllReadyH.nil)
          go_simp
          refine m1.mono ?_
          rintro e w2 ⟨rfl, q2⟩
          have k1 := hKc w2 ((q2.2.block r (heap_lt xD) hrF).trans xD) ((q2.2.block q (heap_lt yD) hqF).trans yD) (hLD.turns q2.2 hF0)
          refine hK.out _ _ k1 (fun hHeld => ?_)
          clear hK KK
          try simp only [Act.put, List.setIfInBounds_toArray, List.set_cons_zero, List.set_cons_succ]
          refine wpAnyH_take (i := 4) (oi := ⟨some 18, .unOp UnOp.not 4 (.tmp 17), 4, "log.go:63", #[⟨3, .data⟩], none⟩) (v := (.bool true)) rfl (by kernel_rfl) (by kernel_rfl) (by kernel_rfl) (fun _ _ _ h => h) (Or.inl ⟨by rfl, fun _ _ => by rfl⟩) hHeld ?_
          simp only [Act.put, List.setIfInBounds_toArray, List.set_cons_zero, List.set_cons_succ]
          refine wpAnyH_take (i := 5) (oi := ⟨some 19, .move (.tmp 18), 4, "log.go:63", #[⟨4, .data⟩, ⟨3, .chain⟩], none⟩) (v := (.bool true)) rfl (by kernel_rfl) (by kernel_rfl) (by kernel_rfl) (fun _ _ _ h => h) (Or.inl ⟨by rfl, fun _ _ => by rfl⟩) hHeld ?_
          simp only [Act.put, List.setIfInBounds_toArray, List.set_cons_zero, List.set_cons_succ]
          refine wpAnyH_take (i := 6) (oi := ⟨some 20, .move (.tmp 5), 3, "log.go:63", #[⟨5, .guard⟩], some (5, false)⟩) (v := undef) rfl (by kernel_rfl) (by kernel_rfl) (by kernel_rfl) (fun _ _ _ h => h) (Or.inr ⟨by rfl, rfl⟩) hHeld ?_
          simp only [Act.put, List.setIfInBounds_toArray, List.set_cons_zero, List.set_cons_succ]
          refine wpAnyH_take (i := 7) (oi := ⟨some 21, .binOp .gtr 3 (.tmp 20) (.const (.int .i64 0)) 3, 4, "log.go:63", #[⟨6, .data⟩, ⟨5, .guard⟩], some (5, false)⟩) (v := undef) rfl (by kernel_rfl) (by kernel_rfl) (by kernel_rfl) (fun _ _ _ h => h) (Or.inr ⟨by rfl, rfl⟩) hHeld ?_
          simp only [Act.put, List.setIfInBounds_toArray, List.set_cons_zero, List.set_cons_succ]
          refine wpAnyH_take (i := 8) (oi := ⟨some 22, .move (.tmp 21), 4, "log.go:63", #[⟨7, .data⟩, ⟨5, .chain⟩, ⟨5, .guard⟩], some (5, false)⟩) (v := undef) rfl (by kernel_rfl) (by kernel_rfl) (by kernel_rfl) (fun _ _ _ h => h) (Or.inr ⟨by rfl, rfl⟩) hHeld ?_
          simp only [Act.put, List.setIfInBounds_toArray, List.set_cons_zero, List.set_cons_succ]
          refine wpAnyH_take (i := 9) (oi := ⟨some 23, .fieldAddr 250 (.tmp 6) 0, 0, "log.go:63", #[⟨8, .guard⟩], some (8, true)⟩) (v := undef) rfl (by kernel_rfl) (by kernel_rfl) (by kernel_rfl) (fun _ _ _ h => h) (Or.inr ⟨by rfl, rfl⟩) hHeld ?_
          simp only [Act.put, List.setIfInBounds_toArray, List.set_cons_zero, List.set_cons_succ]
          refine wpAnyH_take (i := 10) (oi := ⟨some 24, .load 3 (.tmp 23), 3, "log.go:63", #[⟨9, .data⟩, ⟨8, .guard⟩], some (8, true)⟩) (v := undef) rfl (by kernel_rfl) (by kernel_rfl) (by kernel_rfl) (fun _ _ _ h => h) (Or.inr ⟨by rfl, rfl⟩) hHeld ?_
          simp only [Act.put, List.setIfInBounds_toArray, List.set_cons_zero, List.set_cons_succ]
          refine wpAnyH_take (i := 11) (oi := ⟨some 25, .move (.tmp 1), 248, "log.go:63", #[⟨8, .guard⟩], some (8, true)⟩) (v := undef) rfl (by kernel_rfl) (by kernel_rfl) (by kernel_rfl) (fun _ _ _ h => h) (Or.inr ⟨by rfl, rfl⟩) hHeld ?_
          simp only [Act.put, List.setIfInBounds_toArray, List.set_cons_zero, List.set_cons_succ]
          refine wpAnyH_take (i := 12) (oi := ⟨some 26, .move (.tmp 5), 3, "log.go:63", #[⟨8, .guard⟩], some (8, true)⟩) (v := undef) rfl (by kernel_rfl) (by kernel_rfl) (by kernel_rfl) (fun _ _ _ h => h) (Or.inr ⟨by rfl, rfl⟩) hHeld ?_
          simp only [Act.put, List.setIfInBounds_toArray, List.set_cons_zero, List.set_cons_succ]
          refine wpAnyH_take (i := 13) (oi := ⟨some 27, .binOp .sub 3 (.tmp 26) (.const (.int .i64 1)) 3, 3, "log.go:63", #[⟨12, .data⟩, ⟨8, .guard⟩], some (8, true)⟩) (v := undef) rfl (by kernel_rfl) (by kernel_rfl) (by kernel_rfl) (fun _ _ _ h => h) (Or.inr ⟨by rfl, rfl⟩) hHeld ?_
          simp only [Act.put, List.setIfInBounds_toArray, List.set_cons_zero, List.set_cons_succ]
          refine wpAnyH_take (i := 14) (oi := ⟨some 28, .indexAddr 248 (.tmp 25) (.tmp 27), 0, "log.go:63", #[⟨11, .data⟩, ⟨13, .data⟩, ⟨8, .guard⟩], some (8, true)⟩) (v := undef) rfl (by kernel_rfl) (by kernel_rfl) (by kernel_rfl) (fun _ _ _ h => h) (Or.inr ⟨by rfl, rfl⟩) hHeld ?_
          simp only [Act.put, List.setIfInBounds_toArray, List.set_cons_zero, List.set_cons_succ]
          refine wpAnyH_take (i := 15) (oi := ⟨some 29, .fieldAddr 250 (.tmp 28) 0, 0, "log.go:63", #[⟨14, .data⟩, ⟨8, .guard⟩], some (8, true)⟩) (v := undef) rfl (by kernel_rfl) (by kernel_rfl) (by kernel_rfl) (fun _ _ _ h => h) (Or.inr ⟨by rfl, rfl⟩) hHeld ?_
          simp only [Act.put, List.setIfInBounds_toArray, List.set_cons_zero, List.set_cons_succ]
          refine wpAnyH_take (i := 16) (oi := ⟨some 30, .load 3 (.tmp 29), 3, "log.go:63", #[⟨15, .data⟩, ⟨8, .guard⟩], some (8, true)⟩) (v := undef) rfl (by kernel_rfl) (by kernel_rfl) (by kernel_rfl) (fun _ _ _ h => h) (Or.inr ⟨by rfl, rfl⟩) hHeld ?_
          simp only [Act.put, List.setIfInBounds_toArray, List.set_cons_zero, List.set_cons_succ]
          refine wpAnyH_take (i := 17) (oi := ⟨some 31, .binOp .leq 3 (.tmp 24) (.tmp 30) 3, 4, "log.go:63", #[⟨10, .data⟩, ⟨16, .data⟩, ⟨8, .guard⟩], some (8, true)⟩) (v := undef) rfl (by kernel_rfl) (by kernel_rfl) (by kernel_rfl) (fun _ _ _ h => h) (Or.inr ⟨by rfl, rfl⟩) hHeld ?_
          simp only [Act.put, List.setIfInBounds_toArray, List.set_cons_zero, List.set_cons_succ]
          refine wpAnyH_take (i := 18) (oi := ⟨some 32, .pick (.tmp 22) (.tmp 31) (.const (.bool false)), 4, "log.go:63", #[⟨8, .data⟩, ⟨17, .data⟩, ⟨5, .guard⟩], some (5, false)⟩) (v := undef) rfl (by kernel_rfl) (by kernel_rfl) (by kernel_rfl) (fun _ _ _ h => h) (Or.inr ⟨by rfl, rfl⟩) hHeld ?_
          simp only [Act.put, List.setIfInBounds_toArray, List.set_cons_zero, List.set_cons_succ]
          refine wpAnyH_take (i := 19) (oi := ⟨some 33, .pick (.tmp 19) (.const (.bool true)) (.tmp 32), 4, "log.go:63", #[⟨5, .data⟩, ⟨18, .data⟩], none⟩) (v := (.bool true)) rfl (by kernel_rfl) (by kernel_rfl) (by kernel_rfl) (fun _ _ _ h => h) (Or.inl ⟨by rfl, fun _ _ => by rfl⟩) hHeld ?_
          simp only [Act.put, List.setIfInBounds_toArray, List.set_cons_zero, List.set_cons_succ]
          refine wpAnyH_done (by kernel_rfl) ?_ _
          go_wp2_with fail
          go_ret
          exact ⟨by rw [HF9.out (HM0.out.trans (by simp [ho]))]; rfl, HSM.out _ q2⟩
    · have hti : ¬ (t : Int) < n := by omega
      obtain rfl : t = n := by omega
      have HZ : Hid (mayB k st sz ls = true) := by
        show mayB k st sz ls = true
        unfold mayB
        rw [← HN.out]
        exact HA.out
      go_wp2
      go_ret
      exact ⟨by rw [HZ.out]; rfl, hDr, (Below.turns hb F).trans hTr (fun _ _ h => h)⟩
end Go.Proofs.YtlcjkbhcbiggcaaGreatDoor
