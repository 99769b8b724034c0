/- plays: new. -/
import Derived.Test.YtpbanjgjljdepaaKC8
namespace Go.Proofs.Ytpbanjgjljdepaa
open Go.RowKit Go.Maps
set_option maxRecDepth 100000
variable {w w' w0 w1 : World} {lab lab' lab'' : Nat → Nat} {k j pb c xb : Nat} {a b : Nat → Nat} {v bv bv' l : Value} {st : Int} {lg : Bool} {F : Nat → Prop} {S R : Nat → St} {es : List Ke}
/-- A new net of the program's. -/
theorem Pl.newN (h : Pl w lab k pb a b bv st lg S R es) (hc : c < 2) (u : Below w.heap.size w w1) (hN : Nt w1 (rl lab w (k + c)) (k + c) xb S0) (t : Turns (fun i => i = pb) w1 w') (hb : w'.heap[pb]? = some (.cells (plC (upd2 a c xb) b bv st lg) 71 (0, 0))) : Pl w' (rl lab w (k + c)) k pb (upd2 a c xb) b bv st lg (upd2 S c S0) R es ∧ Fr k w w' lab (rl lab w (k + c)) := by
  have P1 := h.below u (k + c)
  have hl := P1.lb
  have no : ∀ m, m ≠ k + 5 → ∀ i, i < w1.heap.size → rl lab w (k + c) i = m → ¬ i = pb := fun m hm i _ q r => hm (by rw [← q, r]; exact hl)
  refine ⟨⟨hb, fun e he => ?_, fun e he => (P1.d e he).turns t (no _ (by omega)) (fun _ _ q => q), P1.bk.relab t (no _ (by omega)) (fun _ _ q => q), hl, h.few, fun q e he => ?_⟩, (Fr.below u (k + c)).trans ⟨t.mono (fun i _ q => by subst q; exact ⟨by omega, by omega⟩), fun _ _ _ => rfl⟩⟩
  · by_cases hec : e = c
    · subst hec; rw [upd2_at, upd2_at]; exact hN.turns t (no _ (by omega)) (fun _ _ q => q)
    · rw [upd2_off _ _ _ _ hec, upd2_off _ _ _ _ hec]; exact (P1.n e he).turns t (no _ (by omega)) (fun _ _ q => q)
  · by_cases hec : e = c
    · subst hec; rw [upd2_at]; intro f hf; cases hf
    · rw [upd2_off _ _ _ _ hec]; exact h.short q e he
/-- A new net of the document's. -/
theorem Pl.newD (h : Pl w lab k pb a b bv st lg S R es) (hc : c < 2) (u : Below w.heap.size w w1) (hN : Dn w1 (rl lab w (k + 2 + c)) (k + 2 + c) xb S0) (t : Turns (fun i => i = pb) w1 w') (hb : w'.heap[pb]? = some (.cells (plC a (upd2 b c xb) bv st lg) 71 (0, 0))) : Pl w' (rl lab w (k + 2 + c)) k pb a (upd2 b c xb) bv st lg S (upd2 R c S0) es ∧ Fr k w w' lab (rl lab w (k + 2 + c)) := by
  have P1 := h.below u (k + 2 + c)
  have hl := P1.lb
  have no : ∀ m, m ≠ k + 5 → ∀ i, i < w1.heap.size → rl lab w (k + 2 + c) i = m → ¬ i = pb := fun m hm i _ q r => hm (by rw [← q, r]; exact hl)
  refine ⟨⟨hb, fun e he => (P1.n e he).turns t (no _ (by omega)) (fun _ _ q => q), fun e he => ?_, P1.bk.relab t (no _ (by omega)) (fun _ _ q => q), hl, h.few, h.short⟩, (Fr.below u (k + 2 + c)).trans ⟨t.mono (fun i _ q => by subst q; exact ⟨by omega, by omega⟩), fun _ _ _ => rfl⟩⟩
  by_cases hec : e = c
  · subst hec; rw [upd2_at, upd2_at]; exact hN.turns t (no _ (by omega)) (fun _ _ q => q)
  · rw [upd2_off _ _ _ _ hec, upd2_off _ _ _ _ hec]; exact (P1.d e he).turns t (no _ (by omega)) (fun _ _ q => q)
theorem Md.renew {W W' : World} {L L' : Nat → Nat} {S' R' : Nat → St} {o : Op} {ob : Nat} {a' b' : Nat → Nat} (h : Md w0 w W lab L k pb a b bv st lg S R es o ob) (hk : 0 < k) (p : Pl W' L' k pb a' b' bv st lg S' R' es) (f : Fr k W W' L L') : Md w0 w W' lab L' k pb a' b' bv st lg S' R' es o ob :=
  ⟨p, h.fr.trans f, f.wk h.wk hk, (f.box h.op h.ob).1, (f.box h.op h.ob).2⟩
set_option maxHeartbeats 4000000 in
theorem plays_new (h : Pl w lab k pb a b bv st lg S S es) (hw : Wk w0 lab w) (hk : 0 < k) (hc : c < 2) (o : Op) (hwc : bits BinOp.and IntKind.i64 o.w 1 = (c : Int)) (h4 : o.k = 7) :
    Calls Try.prog 29 #[.pointer (some ⟨pb, 0, none⟩), .agg o.box] w fun e w' => e = .returned (.bool true) ∧ ∃ xb yb, Stepped w w' lab k pb st es (upd2 S c S0) (upd2 a c xb) (upd2 b c yb) := by
  have M1 := Md.start h hw o
  obtain ⟨W1, hW1⟩ : ∃ W, w.alloc (.cells o.box 59) = W := ⟨_, rfl⟩
  rw [hW1] at M1
  have M2 := M1.below hk (below_drewN W1 1)
  have hS := new_any (W1.drewN 1) (rl (rl lab w (k + 6)) W1 (k + 6)) (k + c)
  have o0 := M1.at 0 (.int .i64 o.k) rfl
  have o1 := M1.at 1 (.int .i64 o.w) rfl
  have HM2 : Hid (Md w0 w (W1.drewN 1) lab _ k pb a b bv st lg S S es o w.heap.size) := M2
  clear M1 M2 h hw
  rw [h4] at o0
  obtain rfl | rfl : c = 0 ∨ c = 1 := by omega
  · rw [show ((0 : Nat) : Int) = 0 from rfl] at hwc
    go_enter Try.func29, Try.ntmps29
    go_wp2_with fail
    refine wp_region_held_drew (S := fun _ => True) (by kernel_rfl) trivial (fun hHeld => ?_)
    clear hHeld
    refine wpAnyH_take (i := 0) (oi := ⟨some 23, .move (.tmp 0), 66, "law.go:155", #[], none⟩) (v := (.pointer (some ⟨pb, 0, none⟩))) rfl (by kernel_rfl) (by kernel_rfl) (by kernel_rfl) (fun _ _ _ h => h) (Or.inl ⟨by rfl, fun _ _ => by rfl⟩) trivial ?_
    simp only [Act.put, List.setIfInBounds_toArray, List.set_cons_zero, List.set_cons_succ]
    refine wpAnyH_take (i := 1) (oi := ⟨some 24, .move (.tmp 5), 3, "law.go:155", #[], none⟩) (v := (.int .i64 0)) rfl (by kernel_rfl) (by kernel_rfl) (by kernel_rfl) (fun _ _ _ h => h) (Or.inl ⟨by rfl, fun _ _ => by rfl⟩) trivial ?_
    simp only [Act.put, List.setIfInBounds_toArray, List.set_cons_zero, List.set_cons_succ]
    refine wpAnyH_take (i := 3) (oi := ⟨some 26, .nilCheck (.tmp 23), 0, "law.go:155", #[⟨0, .data⟩], none⟩) (v := (.pointer (some ⟨pb, 0, none⟩))) rfl (by kernel_rfl) (by kernel_rfl) (by kernel_rfl) (fun _ _ _ h => h) (Or.inl ⟨by rfl, fun _ _ => by rfl⟩) trivial ?_
    simp only [Act.put, List.setIfInBounds_toArray, List.set_cons_zero, List.set_cons_succ]
    refine wpAnyH_take (i := 4) (oi := ⟨some 27, .fieldAddr 71 (.tmp 26) 0, 0, "law.go:155", #[⟨3, .data⟩], none⟩) (v := (.pointer (some ⟨pb, 0, none⟩))) rfl (by kernel_rfl) (by kernel_rfl) (by kernel_rfl) (fun _ _ _ h => h) (Or.inl ⟨by rfl, fun _ _ => by rfl⟩) trivial ?_
    simp only [Act.put, List.setIfInBounds_toArray, List.set_cons_zero, List.set_cons_succ]
    refine wpAnyH_ready (rs := [2]) (by kernel_rfl) (by simp) ?_
    refine AllReadyH.cons (o := ⟨some 25, .call ⟨.value (.func 10), #[], #[]⟩, 24, "law.go:155", #[], none⟩) rfl (fun KK hK => ?_) (AllReadyH.nil)
    go_simp
    refine hS.mono ?_
    rintro e w3 ⟨xb, rfl, hN, b3⟩
    have zk := (b3.block pb (heap_lt HM2.out.pl.box)).trans HM2.out.pl.box
    have fk : w3.frozen? ⟨pb, 0, none⟩ = false := by simp [World.frozen?, zk]
    have ck : w3.cell? ⟨pb, 0, none⟩ = some (.pointer (some ⟨a 0, 0, none⟩)) := by simp [World.cell?, zk]
    have HZxb : Hid (w3.heap[pb]? = _) := zk
    have HNxb : Hid (_ ∧ Below _ _ w3) := ⟨hN, b3⟩
    clear zk hN b3 hS
    go_wp2_with fail
    refine hK.out _ _ trivial (fun hHeld => ?_)
    clear hK KK hHeld
    try simp only [Act.put, List.setIfInBounds_toArray, List.set_cons_zero, List.set_cons_succ]
    refine wpAnyH_take (i := 5) (oi := ⟨some 28, .indexAddr 67 (.tmp 27) (.tmp 24), 0, "law.go:155", #[⟨4, .data⟩, ⟨1, .data⟩, ⟨0, .phase⟩, ⟨1, .phase⟩, ⟨2, .phase⟩], none⟩) (v := (.pointer (some ⟨pb, 0, none⟩))) rfl (by kernel_rfl) (by kernel_rfl) (by kernel_rfl) (fun _ _ _ h => h) (Or.inl ⟨by rfl, fun w' h' => by unfold execOp; go_simp⟩) trivial ?_
    simp only [Act.put, List.setIfInBounds_toArray, List.set_cons_zero, List.set_cons_succ]
    refine wpAnyH_ready (rs := [6]) (by kernel_rfl) (by simp) ?_
    refine AllReadyH.cons (o := ⟨none, .store 24 (.tmp 28) (.tmp 25), 0, "law.go:155", #[⟨5, .data⟩, ⟨2, .data⟩, ⟨2, .chain⟩, ⟨0, .phase⟩, ⟨1, .phase⟩, ⟨2, .phase⟩], none⟩) rfl (fun KK hK => ?_) (AllReadyH.nil)
    go_simp
    refine hK.out _ _ trivial (fun hHeld => ?_)
    clear hK KK hHeld
    try simp only [Act.put, List.setIfInBounds_toArray, List.set_cons_zero, List.set_cons_succ]
    refine wpAnyH_done (by kernel_rfl) ?_ _
    obtain ⟨w4, hw4⟩ : ∃ x, w3.setCell ⟨pb, 0, none⟩ (.pointer (some ⟨xb, 0, none⟩)) = x := ⟨_, rfl⟩
    rw [hw4]
    have u4 : Turns (fun i => i = pb) w3 w4 := by rw [← hw4]; exact Turns.cell w3 pb 0 _
    have z4 : w4.heap[pb]? = some (.cells (plC (upd2 a 0 xb) b bv st lg) 71 (0, 0)) := by rw [← hw4]; exact heap_setCell_same _ _ _ _ _ _ HZxb.out
    obtain ⟨P4, F4⟩ := HM2.out.pl.newN hc HNxb.out.2 HNxb.out.1 u4 z4
    have M4 := HM2.out.renew hk P4 F4
    have M5 := M4.below hk (below_drewN w4 1)
    have hD := dnew_any (w4.drewN 1) (rl (rl (rl (rl lab w (k + 6)) W1 (k + 6)) (W1.drewN 1) (k + 0)) w4 (k + 6)) (k + 2 + 0)
    have HM5 : Hid (Md w0 w (w4.drewN 1) lab _ k pb (upd2 a 0 xb) b bv st lg (upd2 S 0 S0) S es o w.heap.size) := M5
    clear M4 M5 P4 F4 u4 z4 hw4 HM2 HZxb HNxb fk ck
    go_wp2_with fail
    refine wp_region_held_drew (S := fun _ => True) (by kernel_rfl) trivial (fun hHeld => ?_)
    clear hHeld
    refine wpAnyH_take (i := 0) (oi := ⟨some 29, .move (.tmp 0), 66, "law.go:156", #[], none⟩) (v := (.pointer (some ⟨pb, 0, none⟩))) rfl (by kernel_rfl) (by kernel_rfl) (by kernel_rfl) (fun _ _ _ h => h) (Or.inl ⟨by rfl, fun _ _ => by rfl⟩) trivial ?_
    simp only [Act.put, List.setIfInBounds_toArray, List.set_cons_zero, List.set_cons_succ]
    refine wpAnyH_take (i := 1) (oi := ⟨some 30, .move (.tmp 5), 3, "law.go:156", #[], none⟩) (v := (.int .i64 0)) rfl (by kernel_rfl) (by kernel_rfl) (by kernel_rfl) (fun _ _ _ h => h) (Or.inl ⟨by rfl, fun _ _ => by rfl⟩) trivial ?_
    simp only [Act.put, List.setIfInBounds_toArray, List.set_cons_zero, List.set_cons_succ]
    refine wpAnyH_take (i := 3) (oi := ⟨some 32, .nilCheck (.tmp 29), 0, "law.go:156", #[⟨0, .data⟩], none⟩) (v := (.pointer (some ⟨pb, 0, none⟩))) rfl (by kernel_rfl) (by kernel_rfl) (by kernel_rfl) (fun _ _ _ h => h) (Or.inl ⟨by rfl, fun _ _ => by rfl⟩) trivial ?_
    simp only [Act.put, List.setIfInBounds_toArray, List.set_cons_zero, List.set_cons_succ]
    refine wpAnyH_take (i := 4) (oi := ⟨some 33, .fieldAddr 71 (.tmp 32) 1, 0, "law.go:156", #[⟨3, .data⟩], none⟩) (v := (.pointer (some ⟨pb, 2, none⟩))) rfl (by kernel_rfl) (by kernel_rfl) (by kernel_rfl) (fun _ _ _ h => h) (Or.inl ⟨by rfl, fun _ _ => by rfl⟩) trivial ?_
    simp only [Act.put, List.setIfInBounds_toArray, List.set_cons_zero, List.set_cons_succ]
    refine wpAnyH_ready (rs := [2]) (by kernel_rfl) (by simp) ?_
    refine AllReadyH.cons (o := ⟨some 31, .call ⟨.value (.func 21), #[], #[]⟩, 52, "law.go:156", #[], none⟩) rfl (fun KK hK => ?_) (AllReadyH.nil)
    go_simp
    refine hD.mono ?_
    rintro e w6 ⟨yb, rfl, hN, b3⟩
    have zk := (b3.block pb (heap_lt HM5.out.pl.box)).trans HM5.out.pl.box
    have fk : w6.frozen? ⟨pb, 2, none⟩ = false := by simp [World.frozen?, zk]
    have ck : w6.cell? ⟨pb, 2, none⟩ = some (.pointer (some ⟨b 0, 0, none⟩)) := by simp [World.cell?, zk]
    have HZyb : Hid (w6.heap[pb]? = _) := zk
    have HNyb : Hid (_ ∧ Below _ _ w6) := ⟨hN, b3⟩
    clear zk hN b3 hD
    go_wp2_with fail
    refine hK.out _ _ trivial (fun hHeld => ?_)
    clear hK KK hHeld
    try simp only [Act.put, List.setIfInBounds_toArray, List.set_cons_zero, List.set_cons_succ]
    refine wpAnyH_take (i := 5) (oi := ⟨some 34, .indexAddr 68 (.tmp 33) (.tmp 30), 0, "law.go:156", #[⟨4, .data⟩, ⟨1, .data⟩, ⟨0, .phase⟩, ⟨1, .phase⟩, ⟨2, .phase⟩], none⟩) (v := (.pointer (some ⟨pb, 2, none⟩))) rfl (by kernel_rfl) (by kernel_rfl) (by kernel_rfl) (fun _ _ _ h => h) (Or.inl ⟨by rfl, fun w' h' => by unfold execOp; go_simp⟩) trivial ?_
    simp only [Act.put, List.setIfInBounds_toArray, List.set_cons_zero, List.set_cons_succ]
    refine wpAnyH_ready (rs := [6]) (by kernel_rfl) (by simp) ?_
    refine AllReadyH.cons (o := ⟨none, .store 52 (.tmp 34) (.tmp 31), 0, "law.go:156", #[⟨5, .data⟩, ⟨2, .data⟩, ⟨2, .chain⟩, ⟨0, .phase⟩, ⟨1, .phase⟩, ⟨2, .phase⟩], none⟩) rfl (fun KK hK => ?_) (AllReadyH.nil)
    go_simp
    refine hK.out _ _ trivial (fun hHeld => ?_)
    clear hK KK hHeld
    try simp only [Act.put, List.setIfInBounds_toArray, List.set_cons_zero, List.set_cons_succ]
    refine wpAnyH_done (by kernel_rfl) ?_ _
    obtain ⟨w7, hw7⟩ : ∃ x, w6.setCell ⟨pb, 2, none⟩ (.pointer (some ⟨yb, 0, none⟩)) = x := ⟨_, rfl⟩
    rw [hw7]
    have u7 : Turns (fun i => i = pb) w6 w7 := by rw [← hw7]; exact Turns.cell w6 pb 2 _
    have z7 : w7.heap[pb]? = some (.cells (plC (upd2 a 0 xb) (upd2 b 0 yb) bv st lg) 71 (0, 0)) := by rw [← hw7]; exact heap_setCell_same _ _ _ _ _ _ HZyb.out
    obtain ⟨P7, F7⟩ := HM5.out.pl.newD hc HNyb.out.2 HNyb.out.1 u7 z7
    have M7 := HM5.out.renew hk P7 F7
    have r0 : w7.cell? ⟨pb, 0, none⟩ = some (.pointer (some ⟨xb, 0, none⟩)) := P7.cell 0 _ rfl
    have HM7 : Hid (Md w0 w w7 lab _ k pb (upd2 a 0 xb) (upd2 b 0 yb) bv st lg (upd2 S 0 S0) (upd2 S 0 S0) es o w.heap.size) := M7
    clear M7 P7 F7 u7 z7 hw7 HM5 HZyb HNyb fk ck
    go_wp2_with fail
    go_ret
    exact ⟨rfl, xb, yb, _, _, _, _, HM7.out.pl, HM7.out.fr, fun q => by omega⟩
  · rw [show ((1 : Nat) : Int) = 1 from rfl] at hwc
    go_enter Try.func29, Try.ntmps29
    go_wp2_with fail
    refine wp_region_held_drew (S := fun _ => True) (by kernel_rfl) trivial (fun hHeld => ?_)
    clear hHeld
    refine wpAnyH_take (i := 0) (oi := ⟨some 23, .move (.tmp 0), 66, "law.go:155", #[], none⟩) (v := (.pointer (some ⟨pb, 0, none⟩))) rfl (by kernel_rfl) (by kernel_rfl) (by kernel_rfl) (fun _ _ _ h => h) (Or.inl ⟨by rfl, fun _ _ => by rfl⟩) trivial ?_
    simp only [Act.put, List.setIfInBounds_toArray, List.set_cons_zero, List.set_cons_succ]
    refine wpAnyH_take (i := 1) (oi := ⟨some 24, .move (.tmp 5), 3, "law.go:155", #[], none⟩) (v := (.int .i64 1)) rfl (by kernel_rfl) (by kernel_rfl) (by kernel_rfl) (fun _ _ _ h => h) (Or.inl ⟨by rfl, fun _ _ => by rfl⟩) trivial ?_
    simp only [Act.put, List.setIfInBounds_toArray, List.set_cons_zero, List.set_cons_succ]
    refine wpAnyH_take (i := 3) (oi := ⟨some 26, .nilCheck (.tmp 23), 0, "law.go:155", #[⟨0, .data⟩], none⟩) (v := (.pointer (some ⟨pb, 0, none⟩))) rfl (by kernel_rfl) (by kernel_rfl) (by kernel_rfl) (fun _ _ _ h => h) (Or.inl ⟨by rfl, fun _ _ => by rfl⟩) trivial ?_
    simp only [Act.put, List.setIfInBounds_toArray, List.set_cons_zero, List.set_cons_succ]
    refine wpAnyH_take (i := 4) (oi := ⟨some 27, .fieldAddr 71 (.tmp 26) 0, 0, "law.go:155", #[⟨3, .data⟩], none⟩) (v := (.pointer (some ⟨pb, 0, none⟩))) rfl (by kernel_rfl) (by kernel_rfl) (by kernel_rfl) (fun _ _ _ h => h) (Or.inl ⟨by rfl, fun _ _ => by rfl⟩) trivial ?_
    simp only [Act.put, List.setIfInBounds_toArray, List.set_cons_zero, List.set_cons_succ]
    refine wpAnyH_ready (rs := [2]) (by kernel_rfl) (by simp) ?_
    refine AllReadyH.cons (o := ⟨some 25, .call ⟨.value (.func 10), #[], #[]⟩, 24, "law.go:155", #[], none⟩) rfl (fun KK hK => ?_) (AllReadyH.nil)
    go_simp
    refine hS.mono ?_
    rintro e w3 ⟨xb, rfl, hN, b3⟩
    have zk := (b3.block pb (heap_lt HM2.out.pl.box)).trans HM2.out.pl.box
    have fk : w3.frozen? ⟨pb, 1, none⟩ = false := by simp [World.frozen?, zk]
    have ck : w3.cell? ⟨pb, 1, none⟩ = some (.pointer (some ⟨a 1, 0, none⟩)) := by simp [World.cell?, zk]
    have HZxb : Hid (w3.heap[pb]? = _) := zk
    have HNxb : Hid (_ ∧ Below _ _ w3) := ⟨hN, b3⟩
    clear zk hN b3 hS
    go_wp2_with fail
    refine hK.out _ _ trivial (fun hHeld => ?_)
    clear hK KK hHeld
    try simp only [Act.put, List.setIfInBounds_toArray, List.set_cons_zero, List.set_cons_succ]
    refine wpAnyH_take (i := 5) (oi := ⟨some 28, .indexAddr 67 (.tmp 27) (.tmp 24), 0, "law.go:155", #[⟨4, .data⟩, ⟨1, .data⟩, ⟨0, .phase⟩, ⟨1, .phase⟩, ⟨2, .phase⟩], none⟩) (v := (.pointer (some ⟨pb, 1, none⟩))) rfl (by kernel_rfl) (by kernel_rfl) (by kernel_rfl) (fun _ _ _ h => h) (Or.inl ⟨by rfl, fun w' h' => by unfold execOp; go_simp⟩) trivial ?_
    simp only [Act.put, List.setIfInBounds_toArray, List.set_cons_zero, List.set_cons_succ]
    refine wpAnyH_ready (rs := [6]) (by kernel_rfl) (by simp) ?_
    refine AllReadyH.cons (o := ⟨none, .store 24 (.tmp 28) (.tmp 25), 0, "law.go:155", #[⟨5, .data⟩, ⟨2, .data⟩, ⟨2, .chain⟩, ⟨0, .phase⟩, ⟨1, .phase⟩, ⟨2, .phase⟩], none⟩) rfl (fun KK hK => ?_) (AllReadyH.nil)
    go_simp
    refine hK.out _ _ trivial (fun hHeld => ?_)
    clear hK KK hHeld
    try simp only [Act.put, List.setIfInBounds_toArray, List.set_cons_zero, List.set_cons_succ]
    refine wpAnyH_done (by kernel_rfl) ?_ _
    obtain ⟨w4, hw4⟩ : ∃ x, w3.setCell ⟨pb, 1, none⟩ (.pointer (some ⟨xb, 0, none⟩)) = x := ⟨_, rfl⟩
    rw [hw4]
    have u4 : Turns (fun i => i = pb) w3 w4 := by rw [← hw4]; exact Turns.cell w3 pb 1 _
    have z4 : w4.heap[pb]? = some (.cells (plC (upd2 a 1 xb) b bv st lg) 71 (0, 0)) := by rw [← hw4]; exact heap_setCell_same _ _ _ _ _ _ HZxb.out
    obtain ⟨P4, F4⟩ := HM2.out.pl.newN hc HNxb.out.2 HNxb.out.1 u4 z4
    have M4 := HM2.out.renew hk P4 F4
    have M5 := M4.below hk (below_drewN w4 1)
    have hD := dnew_any (w4.drewN 1) (rl (rl (rl (rl lab w (k + 6)) W1 (k + 6)) (W1.drewN 1) (k + 1)) w4 (k + 6)) (k + 2 + 1)
    have HM5 : Hid (Md w0 w (w4.drewN 1) lab _ k pb (upd2 a 1 xb) b bv st lg (upd2 S 1 S0) S es o w.heap.size) := M5
    clear M4 M5 P4 F4 u4 z4 hw4 HM2 HZxb HNxb fk ck
    go_wp2_with fail
    refine wp_region_held_drew (S := fun _ => True) (by kernel_rfl) trivial (fun hHeld => ?_)
    clear hHeld
    refine wpAnyH_take (i := 0) (oi := ⟨some 29, .move (.tmp 0), 66, "law.go:156", #[], none⟩) (v := (.pointer (some ⟨pb, 0, none⟩))) rfl (by kernel_rfl) (by kernel_rfl) (by kernel_rfl) (fun _ _ _ h => h) (Or.inl ⟨by rfl, fun _ _ => by rfl⟩) trivial ?_
    simp only [Act.put, List.setIfInBounds_toArray, List.set_cons_zero, List.set_cons_succ]
    refine wpAnyH_take (i := 1) (oi := ⟨some 30, .move (.tmp 5), 3, "law.go:156", #[], none⟩) (v := (.int .i64 1)) rfl (by kernel_rfl) (by kernel_rfl) (by kernel_rfl) (fun _ _ _ h => h) (Or.inl ⟨by rfl, fun _ _ => by rfl⟩) trivial ?_
    simp only [Act.put, List.setIfInBounds_toArray, List.set_cons_zero, List.set_cons_succ]
    refine wpAnyH_take (i := 3) (oi := ⟨some 32, .nilCheck (.tmp 29), 0, "law.go:156", #[⟨0, .data⟩], none⟩) (v := (.pointer (some ⟨pb, 0, none⟩))) rfl (by kernel_rfl) (by kernel_rfl) (by kernel_rfl) (fun _ _ _ h => h) (Or.inl ⟨by rfl, fun _ _ => by rfl⟩) trivial ?_
    simp only [Act.put, List.setIfInBounds_toArray, List.set_cons_zero, List.set_cons_succ]
    refine wpAnyH_take (i := 4) (oi := ⟨some 33, .fieldAddr 71 (.tmp 32) 1, 0, "law.go:156", #[⟨3, .data⟩], none⟩) (v := (.pointer (some ⟨pb, 2, none⟩))) rfl (by kernel_rfl) (by kernel_rfl) (by kernel_rfl) (fun _ _ _ h => h) (Or.inl ⟨by rfl, fun _ _ => by rfl⟩) trivial ?_
    simp only [Act.put, List.setIfInBounds_toArray, List.set_cons_zero, List.set_cons_succ]
    refine wpAnyH_ready (rs := [2]) (by kernel_rfl) (by simp) ?_
    refine AllReadyH.cons (o := ⟨some 31, .call ⟨.value (.func 21), #[], #[]⟩, 52, "law.go:156", #[], none⟩) rfl (fun KK hK => ?_) (AllReadyH.nil)
    go_simp
    refine hD.mono ?_
    rintro e w6 ⟨yb, rfl, hN, b3⟩
    have zk := (b3.block pb (heap_lt HM5.out.pl.box)).trans HM5.out.pl.box
    have fk : w6.frozen? ⟨pb, 3, none⟩ = false := by simp [World.frozen?, zk]
    have ck : w6.cell? ⟨pb, 3, none⟩ = some (.pointer (some ⟨b 1, 0, none⟩)) := by simp [World.cell?, zk]
    have HZyb : Hid (w6.heap[pb]? = _) := zk
    have HNyb : Hid (_ ∧ Below _ _ w6) := ⟨hN, b3⟩
    clear zk hN b3 hD
    go_wp2_with fail
    refine hK.out _ _ trivial (fun hHeld => ?_)
    clear hK KK hHeld
    try simp only [Act.put, List.setIfInBounds_toArray, List.set_cons_zero, List.set_cons_succ]
    refine wpAnyH_take (i := 5) (oi := ⟨some 34, .indexAddr 68 (.tmp 33) (.tmp 30), 0, "law.go:156", #[⟨4, .data⟩, ⟨1, .data⟩, ⟨0, .phase⟩, ⟨1, .phase⟩, ⟨2, .phase⟩], none⟩) (v := (.pointer (some ⟨pb, 3, none⟩))) rfl (by kernel_rfl) (by kernel_rfl) (by kernel_rfl) (fun _ _ _ h => h) (Or.inl ⟨by rfl, fun w' h' => by unfold execOp; go_simp⟩) trivial ?_
    simp only [Act.put, List.setIfInBounds_toArray, List.set_cons_zero, List.set_cons_succ]
    refine wpAnyH_ready (rs := [6]) (by kernel_rfl) (by simp) ?_
    refine AllReadyH.cons (o := ⟨none, .store 52 (.tmp 34) (.tmp 31), 0, "law.go:156", #[⟨5, .data⟩, ⟨2, .data⟩, ⟨2, .chain⟩, ⟨0, .phase⟩, ⟨1, .phase⟩, ⟨2, .phase⟩], none⟩) rfl (fun KK hK => ?_) (AllReadyH.nil)
    go_simp
    refine hK.out _ _ trivial (fun hHeld => ?_)
    clear hK KK hHeld
    try simp only [Act.put, List.setIfInBounds_toArray, List.set_cons_zero, List.set_cons_succ]
    refine wpAnyH_done (by kernel_rfl) ?_ _
    obtain ⟨w7, hw7⟩ : ∃ x, w6.setCell ⟨pb, 3, none⟩ (.pointer (some ⟨yb, 0, none⟩)) = x := ⟨_, rfl⟩
    rw [hw7]
    have u7 : Turns (fun i => i = pb) w6 w7 := by rw [← hw7]; exact Turns.cell w6 pb 3 _
    have z7 : w7.heap[pb]? = some (.cells (plC (upd2 a 1 xb) (upd2 b 1 yb) bv st lg) 71 (0, 0)) := by rw [← hw7]; exact heap_setCell_same _ _ _ _ _ _ HZyb.out
    obtain ⟨P7, F7⟩ := HM5.out.pl.newD hc HNyb.out.2 HNyb.out.1 u7 z7
    have M7 := HM5.out.renew hk P7 F7
    have r0 : w7.cell? ⟨pb, 1, none⟩ = some (.pointer (some ⟨xb, 0, none⟩)) := P7.cell 1 _ rfl
    have HM7 : Hid (Md w0 w w7 lab _ k pb (upd2 a 1 xb) (upd2 b 1 yb) bv st lg (upd2 S 1 S0) (upd2 S 1 S0) es o w.heap.size) := M7
    clear M7 P7 F7 u7 z7 hw7 HM5 HZyb HNyb fk ck
    go_wp2_with fail
    go_ret
    exact ⟨rfl, xb, yb, _, _, _, _, HM7.out.pl, HM7.out.fr, fun q => by omega⟩
end Go.Proofs.Ytpbanjgjljdepaa
