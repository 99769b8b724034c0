/- tells: under. (Written by mkKT3.py.) -/
import Derived.Test.YtpbanjgjljdepaaKT3h
import Derived.Test.YtpbanjgjljdepaaKC9
namespace Go.Proofs.Ytpbanjgjljdepaa
open Go.RowKit Go.Maps
set_option maxRecDepth 100000
variable {w w' w0 w1 : World} {lab lab' lab'' : Nat → Nat} {k j pb c : Nat} {a b : Nat → Nat} {v bv bv' l : Value} {st : Int} {lg : Bool} {F : Nat → Prop} {S R : Nat → St} {es : List Ke}
theorem flight_cells (u : Value) (h : u.oneCell' = true) : ∀ y ∈ [Value.int .i64 (-7), .int .i64 0, u], y.oneCell' = true := fun y hy => by
  simp at hy
  rcases hy with rfl | rfl | rfl
  · rfl
  · rfl
  · exact h
set_option maxHeartbeats 8000000 in
theorem tells_under (h : Pl w lab k pb a b bv st lg S S es) (hw : Wk w0 lab w) (hk : 0 < k) (hc : c < 2) (hes : es.length ≤ 900) (o : Op) (h3 : o.k = 2) :
    Calls Try.prog 38 #[.pointer (some ⟨pb, 0, none⟩), .int .i64 c, .agg o.box] w fun e w' => e = .returned (.bool true) ∧ Stepped w w' lab k pb st es S a b := by
  obtain ⟨i1, hi1, hy0, hy1, hy2⟩ := info_parts Try.infoFL
  have hshort := h.short
  have HSh : Hid (lg = false → ∀ f ∈ (S c).l, f.d.length ≤ 4096) := fun q => hshort q c hc
  clear hshort
  have M1 := Md.start h hw o
  obtain ⟨W1, hW1⟩ : ∃ W, w.alloc (.cells o.box 59) = W := ⟨_, rfl⟩
  rw [hW1] at M1
  obtain ⟨L0, hL0⟩ : ∃ L, rl lab w (k + 6) = L := ⟨_, rfl⟩
  rw [hL0] at M1
  obtain ⟨j, hj6, hjn⟩ := fresh_label L0 (k + 6) W1.heap.size
  have hfw : w.heap.size ≤ W1.heap.size := by rw [← hW1]; simp
  have o0 := M1.at 0 (.int .i64 o.k) rfl
  rw [h3] at o0
  have hU := underN (M1.pl.n c hc) j
  have HM1 : Hid (Md w0 w W1 lab L0 k pb a b bv st lg S S es o w.heap.size) := M1
  have p0 : W1.cell? ⟨pb, 0, none⟩ = some (.pointer (some ⟨a 0, 0, none⟩)) := M1.pl.cell 0 _ rfl
  have p1 : W1.cell? ⟨pb, 1, none⟩ = some (.pointer (some ⟨a 1, 0, none⟩)) := M1.pl.cell 1 _ rfl
  clear M1 h hw hL0
  obtain rfl | rfl : c = 0 ∨ c = 1 := by omega
  · rw [show ((0 : Nat) : Int) = 0 from rfl]
    go_enter Try.func38, Try.ntmps38
    go_wp2_with fail
    refine hU.mono ?_
    rintro e W3 ⟨lv, fs, rfl, F3, hfs, b3⟩
    have M3 := HM1.out.belowJ hk b3 j
    have U3 : Un w W3 (rl L0 W1 j) j lv fs 0 := Un.of F3 hjn hfw
    have y2 : W3.cell? ⟨pb, 2, none⟩ = some (.pointer (some ⟨b 0, 0, none⟩)) := M3.pl.cell 2 _ rfl
    have hD := dunderN (M3.pl.d 0 hc) j
    have HM3 : Hid (Md w0 w W3 lab (rl L0 W1 j) k pb a b bv st lg S S es o w.heap.size) := M3
    have HU3 : Hid (Un w W3 (rl L0 W1 j) j lv fs 0) := U3
    have HF3 : Hid (FRow W3 (rl L0 W1 j) j lv fs) := F3
    have HFS : Hid (fs.map En.fl = (S 0).l) := hfs
    clear M3 U3 F3 hfs hU HM1 b3 p0 p1 hjn hfw o0
    go_wp2_with fail
    refine hD.mono ?_
    rintro e W4 ⟨mv, gs, rfl, G4, hgs, b4⟩
    have M4 := HM3.out.belowJ hk b4 (k + 6)
    have U4 := HU3.out.below b4 (k + 6)
    have F4 := HF3.out.turns (Below.turns b4 (fun _ => False)) (fun _ _ _ q => q) (fun _ hi q => (rl_old (w := W3) (k := k + 6) hi).trans q)
    have hfl : fs.length ≤ 4096 := by have h1 := (M4.pl.n 0 hc).ok.few; rw [← HFS.out, List.length_map] at h1; exact h1
    have hgl : gs.length = fs.length := by have h1 := congrArg List.length (HFS.out.trans hgs.symm); simp only [List.length_map] at h1; exact h1.symm
    have hS := sameFls_true F4 G4 (HFS.out.trans hgs.symm) (by omega)
    obtain ⟨ma, mc, rfl⟩ := own_slice G4.row
    have HM4 : Hid (Md w0 w W4 lab _ k pb a b bv st lg S S es o w.heap.size) := M4
    have HU4 : Hid (Un w W4 _ j lv fs 0) := U4
    clear M4 U4 F4 G4 hgs hD HM3 HU3 HF3 y2 b4
    rw [hgl] at hS ⊢
    have hfli : (fs.length : Int) ≤ 4096 := by omega
    clear hgl
    go_wp2_with fail
    refine hS.mono ?_
    rintro e W5 ⟨rfl, b5⟩
    have M5 := HM4.out.belowJ hk b5 (k + 6)
    have U5 := HU4.out.below b5 (k + 6)
    obtain ⟨la, lc, rfl⟩ := own_slice U5.row
    have hlc : fs.length ≤ lc := by
      rcases U5.row.2 with ⟨_, h0⟩ | ⟨g, cap, cur, q, _, _, h1, _⟩
      · omega
      · cases q; exact h1
    have L5 : Hid (Lp w0 w W5 lab k pb a b st lg S es o w.heap.size j (.slice la fs.length lc) fs 0) := ⟨⟨_, bv, es, M5, U5, by omega⟩⟩
    clear M5 U5 hS HM4 HU4 b5
    go_wp2_with fail
    go_loopw [15] (fun i wr => ∃ q : Nat, q ≤ fs.length ∧ q ≤ 100 ∧ i = .int .i64 q ∧ Lp w0 w wr lab k pb a b st lg S es o w.heap.size j (.slice la fs.length lc) fs q) (fun i _ => 100 - (intOf i).toNat)
    case atStart => exact ⟨0, Nat.zero_le _, Nat.zero_le _, rfl, L5.out⟩
    case round =>
      obtain ⟨q, hq1, hq2, rfl, hL⟩ := hrel
      clear L5
      obtain ⟨L1, bv1, es1, M6, U6, he6⟩ := hL.ex
      clear hL
      have HEs : Hid (es1.length = es.length + 3 * q) := he6
      have hes1 : es1.length ≤ 1200 := by omega
      have p6 : wr.cell? ⟨pb, 6, none⟩ = some (.bool lg) := M6.pl.cell 6 _ rfl
      have HM6 : Hid (Md w0 w wr lab L1 k pb a b bv1 st lg S S es1 o w.heap.size) := M6
      have HU6 : Hid (Un w wr L1 j (.slice la fs.length lc) fs q) := U6
      clear M6 U6 he6
      have hout : Hid (Lp w0 w wr lab k pb a b st lg S es o w.heap.size j (.slice la fs.length lc) fs q) := ⟨⟨L1, bv1, es1, HM6.out, HU6.out, HEs.out⟩⟩
      have hways : (q < fs.length ∧ q < 100 ∧ lg = false) ∨ ¬ q < fs.length ∨ (q < fs.length ∧ ¬ q < 100) ∨ (q < fs.length ∧ q < 100 ∧ lg = true) := by
        by_cases h1 : q < fs.length
        · by_cases h2 : q < 100
          · cases lg
            · exact Or.inl ⟨h1, h2, rfl⟩
            · exact Or.inr (Or.inr (Or.inr ⟨h1, h2, rfl⟩))
          · exact Or.inr (Or.inr (Or.inl ⟨h1, h2⟩))
        · exact Or.inr (Or.inl h1)
      rcases hways with ⟨h1, h2, rfl⟩ | hexit
      · have h1i : decide ((q : Int) < fs.length) = true := decide_eq_true (by omega)
        have h2i : decide ((q : Int) < 100) = true := decide_eq_true (by omega)
        clear hout
        obtain ⟨e, hee⟩ : ∃ e, fs[q]? = some e := ⟨_, List.getElem?_eq_getElem h1⟩
        have HEq : Hid (fs[q]? = some e) := hee
        obtain ⟨g, rfl⟩ : ∃ g, la = some ⟨g, 0, none⟩ := by
          rcases HU6.out.row.2 with ⟨q1, h0⟩ | ⟨g, cap, cur, q1, _⟩
          · omega
          · cases q1; exact ⟨g, rfl⟩
        obtain ⟨ba, bc, rfl⟩ := tl_slice HM6.out.pl.bk.row
        obtain ⟨D6, N6⟩ := HU6.out.da q e (Nat.le_refl _) hee
        obtain ⟨no, to, d, ev⟩ := e
        obtain ⟨ea, ec, hev⟩ := D6.slice
        simp only at hev D6 N6
        subst hev
        have hdl : d.length ≤ 4096 := by
          have := HSh.out rfl ⟨no, to, d⟩ (by rw [← HFS.out]; exact List.mem_map.2 ⟨_, List.mem_of_getElem? hee, rfl⟩)
          exact this
        obtain ⟨en, hen⟩ : ∃ n, d.length = n := ⟨_, rfl⟩
        have kq : wr.cell? ⟨g, q * 3 + 2, none⟩ = some (.slice ea d.length ec) := by
          rw [HU6.out.row.cellAt (q * 3 + 2) (by omega)]
          exact (flC_at fs q _ hee).2.2
        rw [hen] at kq D6 N6 hdl hee
        have HEq : Hid (fs[q]? = some ⟨no, to, d, .slice ea en ec⟩) := hee
        have M10 := HM6.out.belowJ hk (below_drewN wr 1) (k + 6)
        have U10 := HU6.out.below (below_drewN wr 1) (k + 6)
        have D10 := D6.turns (Below.turns (below_drewN wr 1) (fun _ => False)) (fun _ _ _ q => q) (fun _ hi q => (rl_old (w := wr) (k := k + 6) hi).trans q)
        have p4 : wr.cell? ⟨pb, 4, none⟩ = some (.slice ba es1.length bc) := HM6.out.pl.cell 4 _ rfl
        obtain ⟨L1, hL1⟩ : ∃ L, rl L1 wr (k + 6) = L := ⟨_, rfl⟩
        rw [hL1] at M10 U10 D10
        have hnb : pb ≠ g := fun q => by have h1 := M10.pl.lb; have h2 := (U10.lv g rfl).1; rw [← q] at h2; omega
        have HNB : Hid (pb ≠ g) := hnb
        have hmk := mark_any M10.pl (q : Int)
        have hkp := fun m => keep_any M10.pl.bk (.slice ea en ec) _ _ D10.own (fun i q r => by have h1 := D10.lb i q; have h2 : _ = k + 4 := r; omega) (by omega) (by omega) m
        have HM10 : Hid (Md w0 w (wr.drewN 1) lab L1 k pb a b (.slice ba es1.length bc) st false S S es1 o w.heap.size) := M10
        have HU10 : Hid (Un w (wr.drewN 1) L1 j (.slice (some ⟨g, 0, none⟩) fs.length lc) fs q) := U10
        have HD10 : Hid (Da (wr.drewN 1) L1 j d (.slice ea en ec)) := D10
        have HOu : Hid (Ours w lab k (.slice ea en ec)) := fun i r hi => by have := N6 i r; omega
        clear M10 U10 D10 D6 N6 HM6 HU6 hee hnb hL1 hen
        go_wp2_with fail
        refine wp_region_held_drew (S := fun w' => w'.cell? ⟨g, q * 3 + 2, none⟩ = some (.slice ea en ec)) (by kernel_rfl) kq (fun hHeld => ?_)
        refine wpAnyH_take (i := 0) (oi := ⟨some 117, .move (.tmp 0), 66, "law.go:141", #[], none⟩) (v := (.pointer (some ⟨pb, 0, none⟩))) rfl (by kernel_rfl) (by kernel_rfl) (by kernel_rfl) (fun _ _ _ h => h) (Or.inl ⟨by rfl, fun _ _ => by rfl⟩) hHeld ?_
        simp only [Act.put, List.setIfInBounds_toArray, List.set_cons_zero, List.set_cons_succ]
        refine wpAnyH_take (i := 1) (oi := ⟨some 118, .move (.tmp 0), 66, "law.go:141", #[], none⟩) (v := (.pointer (some ⟨pb, 0, none⟩))) rfl (by kernel_rfl) (by kernel_rfl) (by kernel_rfl) (fun _ _ _ h => h) (Or.inl ⟨by rfl, fun _ _ => by rfl⟩) hHeld ?_
        simp only [Act.put, List.setIfInBounds_toArray, List.set_cons_zero, List.set_cons_succ]
        refine wpAnyH_take (i := 2) (oi := ⟨some 119, .nilCheck (.tmp 118), 0, "law.go:141", #[⟨1, .data⟩], none⟩) (v := (.pointer (some ⟨pb, 0, none⟩))) rfl (by kernel_rfl) (by kernel_rfl) (by kernel_rfl) (fun _ _ _ h => h) (Or.inl ⟨by rfl, fun _ _ => by rfl⟩) hHeld ?_
        simp only [Act.put, List.setIfInBounds_toArray, List.set_cons_zero, List.set_cons_succ]
        refine wpAnyH_take (i := 3) (oi := ⟨some 120, .fieldAddr 71 (.tmp 119) 2, 0, "law.go:141", #[⟨2, .data⟩], none⟩) (v := (.pointer (some ⟨pb, 4, none⟩))) rfl (by kernel_rfl) (by kernel_rfl) (by kernel_rfl) (fun _ _ _ h => h) (Or.inl ⟨by rfl, fun _ _ => by rfl⟩) hHeld ?_
        simp only [Act.put, List.setIfInBounds_toArray, List.set_cons_zero, List.set_cons_succ]
        refine wpAnyH_take (i := 5) (oi := ⟨some 122, .move (.tmp 12), 34, "law.go:141", #[], none⟩) (v := (.slice (some ⟨g, 0, none⟩) fs.length lc)) rfl (by kernel_rfl) (by kernel_rfl) (by kernel_rfl) (fun _ _ _ h => h) (Or.inl ⟨by rfl, fun _ _ => by rfl⟩) hHeld ?_
        simp only [Act.put, List.setIfInBounds_toArray, List.set_cons_zero, List.set_cons_succ]
        refine wpAnyH_take (i := 6) (oi := ⟨some 123, .move (.tmp 15), 3, "law.go:141", #[], none⟩) (v := (.int .i64 q)) rfl (by kernel_rfl) (by kernel_rfl) (by kernel_rfl) (fun _ _ _ h => h) (Or.inl ⟨by rfl, fun _ _ => by rfl⟩) hHeld ?_
        simp only [Act.put, List.setIfInBounds_toArray, List.set_cons_zero, List.set_cons_succ]
        refine wpAnyH_take (i := 7) (oi := ⟨some 124, .indexAddr 34 (.tmp 122) (.tmp 123), 0, "law.go:141", #[⟨5, .data⟩, ⟨6, .data⟩], none⟩) (v := (.pointer (some ⟨g, q * 3, none⟩))) rfl (by kernel_rfl) (by kernel_rfl) (by kernel_rfl) (fun _ _ _ h => h) (Or.inl ⟨by rfl, fun w' h' => by unfold execOp; go_simp⟩) hHeld ?_
        simp only [Act.put, List.setIfInBounds_toArray, List.set_cons_zero, List.set_cons_succ]
        refine wpAnyH_take (i := 8) (oi := ⟨some 125, .fieldAddr 42 (.tmp 124) 2, 0, "law.go:141", #[⟨7, .data⟩], none⟩) (v := (.pointer (some ⟨g, q * 3 + 2, none⟩))) rfl (by kernel_rfl) (by kernel_rfl) (by kernel_rfl) (fun _ _ _ h => h) (Or.inl ⟨by rfl, fun _ _ => by rfl⟩) hHeld ?_
        simp only [Act.put, List.setIfInBounds_toArray, List.set_cons_zero, List.set_cons_succ]
        refine wpAnyH_take (i := 9) (oi := ⟨some 126, .load 22 (.tmp 125), 22, "law.go:141", #[⟨8, .data⟩], none⟩) (v := (.slice ea en ec)) rfl (by kernel_rfl) (by kernel_rfl) (by kernel_rfl) (fun _ _ _ h => h) (Or.inl ⟨by rfl, fun w' h' => by unfold execOp; go_simp⟩) hHeld ?_
        simp only [Act.put, List.setIfInBounds_toArray, List.set_cons_zero, List.set_cons_succ]
        refine wpAnyH_take (i := 10) (oi := ⟨some 127, .move (.tmp 0), 66, "law.go:141", #[], none⟩) (v := (.pointer (some ⟨pb, 0, none⟩))) rfl (by kernel_rfl) (by kernel_rfl) (by kernel_rfl) (fun _ _ _ h => h) (Or.inl ⟨by rfl, fun _ _ => by rfl⟩) hHeld ?_
        simp only [Act.put, List.setIfInBounds_toArray, List.set_cons_zero, List.set_cons_succ]
        refine wpAnyH_take (i := 11) (oi := ⟨some 128, .move (.tmp 15), 3, "law.go:141", #[], none⟩) (v := (.int .i64 q)) rfl (by kernel_rfl) (by kernel_rfl) (by kernel_rfl) (fun _ _ _ h => h) (Or.inl ⟨by rfl, fun _ _ => by rfl⟩) hHeld ?_
        simp only [Act.put, List.setIfInBounds_toArray, List.set_cons_zero, List.set_cons_succ]
        refine wpAnyH_ready (rs := [4, 12]) (by kernel_rfl) (by simp) ?_
        refine AllReadyH.cons (o := ⟨some 121, .load 69 (.tmp 120), 69, "law.go:141", #[⟨3, .data⟩], none⟩) rfl (fun KK hK => ?_) (AllReadyH.cons (o := ⟨some 129, .call ⟨.value (.func 47), #[.tmp 127, .tmp 128], #[66, 3]⟩, 5, "law.go:141", #[⟨10, .data⟩, ⟨11, .data⟩], none⟩) rfl (fun KK hK => ?_) (AllReadyH.nil))
        · go_simp
          refine hK.out _ _ hHeld (fun hHeld => ?_)
          clear hK KK
          try simp only [Act.put, List.setIfInBounds_toArray, List.set_cons_zero, List.set_cons_succ]
          refine wpAnyH_ready (rs := [12]) (by kernel_rfl) (by simp) ?_
          refine AllReadyH.cons (o := ⟨some 129, .call ⟨.value (.func 47), #[.tmp 127, .tmp 128], #[66, 3]⟩, 5, "law.go:141", #[⟨10, .data⟩, ⟨11, .data⟩], none⟩) rfl (fun KK hK => ?_) (AllReadyH.nil)
          go_simp
          refine hmk.mono ?_
          rintro e wm ⟨mm, rfl, rfl⟩
          go_wp2_with fail
          refine hK.out _ _ hHeld (fun hHeld => ?_)
          clear hK KK
          try simp only [Act.put, List.setIfInBounds_toArray, List.set_cons_zero, List.set_cons_succ]
          refine wpAnyH_ready (rs := [13]) (by kernel_rfl) (by simp) ?_
          refine AllReadyH.cons (o := ⟨some 130, .call ⟨.value (.func 46), #[.tmp 121, .tmp 126, .tmp 129], #[69, 22, 5]⟩, 69, "law.go:141", #[⟨4, .data⟩, ⟨9, .data⟩, ⟨12, .data⟩, ⟨12, .chain⟩], none⟩) rfl (fun KK hK => ?_) (AllReadyH.nil)
          go_simp
          refine (hkp mm).mono ?_
          rintro e wk ⟨bv', rfl, K3⟩
          have HK3 : Hid (Kept3 _ _ _ _ _ _ _) := K3
          obtain ⟨fs0, _, hB, hT⟩ := K3
          obtain ⟨ba', bc', hbv'⟩ := tl_slice hB.row
          generalize (es1 ++ fs0).length = E' at hbv'
          clear hB
          subst hbv'
          have nb : ¬ ((Value.slice ba es1.length bc).ownBlock = some pb ∨ (Value.slice ea en ec).ownBlock = some pb) := fun q => q.elim (fun r => by have h1 : _ = k + 4 := HM10.out.pl.bk.kb pb r; have h2 := HM10.out.pl.lb; omega) (fun r => by have h1 := HD10.out.lb pb r; have h2 := HM10.out.pl.lb; omega)
          have nx : ¬ ((Value.slice ba es1.length bc).ownBlock = some g ∨ (Value.slice ea en ec).ownBlock = some g) := fun q => q.elim (fun r => by have h1 : _ = k + 4 := HM10.out.pl.bk.kb g r; have h2 := (HU10.out.lv g rfl).1; omega) (fun r => own_apart2 HU10.out.row HD10.out.own (by decide) (b := g) rfl r)
          have zk := (hT.block pb (heap_lt HM10.out.pl.box) nb).trans HM10.out.pl.box
          have fk : wk.frozen? ⟨pb, 4, none⟩ = false := by simp [World.frozen?, zk]
          have ck : wk.cell? ⟨pb, 4, none⟩ = some (.slice ba es1.length bc) := by simp [World.cell?, zk]
          have kx : wk.cell? ⟨g, q * 3 + 2, none⟩ = some (.slice ea en ec) := cell_turns hT hHeld nx
          have kx2 : ∀ u, (wk.setCell ⟨pb, 4, none⟩ u).cell? ⟨g, q * 3 + 2, none⟩ = some (.slice ea en ec) := fun u => (World.cell?_setCell_far wk ⟨pb, 4, none⟩ ⟨g, q * 3 + 2, none⟩ u HNB.out).trans kx
          have HZk : Hid (wk.heap[pb]? = _) := zk
          clear zk hT nb nx
          go_wp2_with fail
          refine hK.out _ _ kx (fun hHeld => ?_)
          clear hK KK
          try simp only [Act.put, List.setIfInBounds_toArray, List.set_cons_zero, List.set_cons_succ]
          refine wpAnyH_take (i := 14) (oi := ⟨some 131, .nilCheck (.tmp 117), 0, "law.go:141", #[⟨0, .data⟩, ⟨0, .phase⟩, ⟨1, .phase⟩, ⟨2, .phase⟩, ⟨3, .phase⟩, ⟨4, .phase⟩, ⟨5, .phase⟩, ⟨6, .phase⟩, ⟨7, .phase⟩, ⟨8, .phase⟩, ⟨9, .phase⟩, ⟨10, .phase⟩, ⟨11, .phase⟩, ⟨12, .phase⟩, ⟨13, .phase⟩], none⟩) (v := (.pointer (some ⟨pb, 0, none⟩))) rfl (by kernel_rfl) (by kernel_rfl) (by kernel_rfl) (fun _ _ _ h => h) (Or.inl ⟨by rfl, fun _ _ => by rfl⟩) hHeld ?_
          simp only [Act.put, List.setIfInBounds_toArray, List.set_cons_zero, List.set_cons_succ]
          refine wpAnyH_take (i := 15) (oi := ⟨some 132, .fieldAddr 71 (.tmp 131) 2, 0, "law.go:141", #[⟨14, .data⟩, ⟨0, .phase⟩, ⟨1, .phase⟩, ⟨2, .phase⟩, ⟨3, .phase⟩, ⟨4, .phase⟩, ⟨5, .phase⟩, ⟨6, .phase⟩, ⟨7, .phase⟩, ⟨8, .phase⟩, ⟨9, .phase⟩, ⟨10, .phase⟩, ⟨11, .phase⟩, ⟨12, .phase⟩, ⟨13, .phase⟩], none⟩) (v := (.pointer (some ⟨pb, 4, none⟩))) rfl (by kernel_rfl) (by kernel_rfl) (by kernel_rfl) (fun _ _ _ h => h) (Or.inl ⟨by rfl, fun _ _ => by rfl⟩) hHeld ?_
          simp only [Act.put, List.setIfInBounds_toArray, List.set_cons_zero, List.set_cons_succ]
          refine wpAnyH_ready (rs := [16]) (by kernel_rfl) (by simp) ?_
          refine AllReadyH.cons (o := ⟨none, .store 69 (.tmp 132) (.tmp 130), 0, "law.go:141", #[⟨15, .data⟩, ⟨13, .data⟩, ⟨13, .chain⟩, ⟨0, .phase⟩, ⟨1, .phase⟩, ⟨2, .phase⟩, ⟨3, .phase⟩, ⟨4, .phase⟩, ⟨5, .phase⟩, ⟨6, .phase⟩, ⟨7, .phase⟩, ⟨8, .phase⟩, ⟨9, .phase⟩, ⟨10, .phase⟩, ⟨11, .phase⟩, ⟨12, .phase⟩, ⟨13, .phase⟩], none⟩) rfl (fun KK hK => ?_) (AllReadyH.nil)
          go_simp
          refine hK.out _ _ (kx2 _) (fun hHeld => ?_)
          clear hK KK
          try simp only [Act.put, List.setIfInBounds_toArray, List.set_cons_zero, List.set_cons_succ]
          refine wpAnyH_done (by kernel_rfl) ?_ _
          obtain ⟨wl, hwl⟩ : ∃ x, wk.setCell ⟨pb, 4, none⟩ (.slice ba' E' bc') = x := ⟨_, rfl⟩
          rw [hwl]
          have ul : Turns (fun i => i = pb) wk wl := by rw [← hwl]; exact Turns.cell wk pb 4 _
          have zl : wl.heap[pb]? = some (.cells (plC a b (.slice ba' E' bc') st false) 71 (0, 0)) := by rw [← hwl]; exact heap_setCell_same _ _ _ _ _ _ HZk.out
          have hB := HM10.out.bookedG hk HK3.out HD10.out.own (fun i r => by have := HD10.out.lb i r; omega) HOu.out ul zl (by omega)
          have HB : Hid (∃ L' es', es'.length = es1.length + 3 ∧ Md w0 w wl lab L' k pb a b (.slice ba' E' bc') st false S S es' o w.heap.size ∧ Turns (fun i => Mine k (L1 i) ∨ (Value.slice ea en ec).ownBlock = some i) (wr.drewN 1) wl ∧ ∀ i, i < (wr.drewN 1).heap.size → ¬ Mine k (L1 i) → (Value.slice ea en ec).ownBlock ≠ some i → L' i = L1 i) := hB
          clear hB ul zl HK3 hkp hmk HZk fk ck kx kx2 hwl hHeld
          go_wp2_with fail
          go_roundw
          case rel =>
            obtain ⟨L', es', he', M11, T11, H11⟩ := HB.out
            exact ⟨q + 1, by omega, by omega, by go_num, ⟨L', _, es', M11, HU10.out.kept HEq.out (by omega) T11 H11, by rw [he', HEs.out]; omega⟩⟩
          case measure => simp [intOf]; omega
        · go_simp
          refine hmk.mono ?_
          rintro e wm ⟨mm, rfl, rfl⟩
          go_wp2_with fail
          refine hK.out _ _ hHeld (fun hHeld => ?_)
          clear hK KK
          try simp only [Act.put, List.setIfInBounds_toArray, List.set_cons_zero, List.set_cons_succ]
          refine wpAnyH_ready (rs := [4]) (by kernel_rfl) (by simp) ?_
          refine AllReadyH.cons (o := ⟨some 121, .load 69 (.tmp 120), 69, "law.go:141", #[⟨3, .data⟩], none⟩) rfl (fun KK hK => ?_) (AllReadyH.nil)
          go_simp
          refine hK.out _ _ hHeld (fun hHeld => ?_)
          clear hK KK
          try simp only [Act.put, List.setIfInBounds_toArray, List.set_cons_zero, List.set_cons_succ]
          refine wpAnyH_ready (rs := [13]) (by kernel_rfl) (by simp) ?_
          refine AllReadyH.cons (o := ⟨some 130, .call ⟨.value (.func 46), #[.tmp 121, .tmp 126, .tmp 129], #[69, 22, 5]⟩, 69, "law.go:141", #[⟨4, .data⟩, ⟨9, .data⟩, ⟨12, .data⟩, ⟨12, .chain⟩], none⟩) rfl (fun KK hK => ?_) (AllReadyH.nil)
          go_simp
          refine (hkp mm).mono ?_
          rintro e wk ⟨bv', rfl, K3⟩
          have HK3 : Hid (Kept3 _ _ _ _ _ _ _) := K3
          obtain ⟨fs0, _, hB, hT⟩ := K3
          obtain ⟨ba', bc', hbv'⟩ := tl_slice hB.row
          generalize (es1 ++ fs0).length = E' at hbv'
          clear hB
          subst hbv'
          have nb : ¬ ((Value.slice ba es1.length bc).ownBlock = some pb ∨ (Value.slice ea en ec).ownBlock = some pb) := fun q => q.elim (fun r => by have h1 : _ = k + 4 := HM10.out.pl.bk.kb pb r; have h2 := HM10.out.pl.lb; omega) (fun r => by have h1 := HD10.out.lb pb r; have h2 := HM10.out.pl.lb; omega)
          have nx : ¬ ((Value.slice ba es1.length bc).ownBlock = some g ∨ (Value.slice ea en ec).ownBlock = some g) := fun q => q.elim (fun r => by have h1 : _ = k + 4 := HM10.out.pl.bk.kb g r; have h2 := (HU10.out.lv g rfl).1; omega) (fun r => own_apart2 HU10.out.row HD10.out.own (by decide) (b := g) rfl r)
          have zk := (hT.block pb (heap_lt HM10.out.pl.box) nb).trans HM10.out.pl.box
          have fk : wk.frozen? ⟨pb, 4, none⟩ = false := by simp [World.frozen?, zk]
          have ck : wk.cell? ⟨pb, 4, none⟩ = some (.slice ba es1.length bc) := by simp [World.cell?, zk]
          have kx : wk.cell? ⟨g, q * 3 + 2, none⟩ = some (.slice ea en ec) := cell_turns hT hHeld nx
          have kx2 : ∀ u, (wk.setCell ⟨pb, 4, none⟩ u).cell? ⟨g, q * 3 + 2, none⟩ = some (.slice ea en ec) := fun u => (World.cell?_setCell_far wk ⟨pb, 4, none⟩ ⟨g, q * 3 + 2, none⟩ u HNB.out).trans kx
          have HZk : Hid (wk.heap[pb]? = _) := zk
          clear zk hT nb nx
          go_wp2_with fail
          refine hK.out _ _ kx (fun hHeld => ?_)
          clear hK KK
          try simp only [Act.put, List.setIfInBounds_toArray, List.set_cons_zero, List.set_cons_succ]
          refine wpAnyH_take (i := 14) (oi := ⟨some 131, .nilCheck (.tmp 117), 0, "law.go:141", #[⟨0, .data⟩, ⟨0, .phase⟩, ⟨1, .phase⟩, ⟨2, .phase⟩, ⟨3, .phase⟩, ⟨4, .phase⟩, ⟨5, .phase⟩, ⟨6, .phase⟩, ⟨7, .phase⟩, ⟨8, .phase⟩, ⟨9, .phase⟩, ⟨10, .phase⟩, ⟨11, .phase⟩, ⟨12, .phase⟩, ⟨13, .phase⟩], none⟩) (v := (.pointer (some ⟨pb, 0, none⟩))) rfl (by kernel_rfl) (by kernel_rfl) (by kernel_rfl) (fun _ _ _ h => h) (Or.inl ⟨by rfl, fun _ _ => by rfl⟩) hHeld ?_
          simp only [Act.put, List.setIfInBounds_toArray, List.set_cons_zero, List.set_cons_succ]
          refine wpAnyH_take (i := 15) (oi := ⟨some 132, .fieldAddr 71 (.tmp 131) 2, 0, "law.go:141", #[⟨14, .data⟩, ⟨0, .phase⟩, ⟨1, .phase⟩, ⟨2, .phase⟩, ⟨3, .phase⟩, ⟨4, .phase⟩, ⟨5, .phase⟩, ⟨6, .phase⟩, ⟨7, .phase⟩, ⟨8, .phase⟩, ⟨9, .phase⟩, ⟨10, .phase⟩, ⟨11, .phase⟩, ⟨12, .phase⟩, ⟨13, .phase⟩], none⟩) (v := (.pointer (some ⟨pb, 4, none⟩))) rfl (by kernel_rfl) (by kernel_rfl) (by kernel_rfl) (fun _ _ _ h => h) (Or.inl ⟨by rfl, fun _ _ => by rfl⟩) hHeld ?_
          simp only [Act.put, List.setIfInBounds_toArray, List.set_cons_zero, List.set_cons_succ]
          refine wpAnyH_ready (rs := [16]) (by kernel_rfl) (by simp) ?_
          refine AllReadyH.cons (o := ⟨none, .store 69 (.tmp 132) (.tmp 130), 0, "law.go:141", #[⟨15, .data⟩, ⟨13, .data⟩, ⟨13, .chain⟩, ⟨0, .phase⟩, ⟨1, .phase⟩, ⟨2, .phase⟩, ⟨3, .phase⟩, ⟨4, .phase⟩, ⟨5, .phase⟩, ⟨6, .phase⟩, ⟨7, .phase⟩, ⟨8, .phase⟩, ⟨9, .phase⟩, ⟨10, .phase⟩, ⟨11, .phase⟩, ⟨12, .phase⟩, ⟨13, .phase⟩], none⟩) rfl (fun KK hK => ?_) (AllReadyH.nil)
          go_simp
          refine hK.out _ _ (kx2 _) (fun hHeld => ?_)
          clear hK KK
          try simp only [Act.put, List.setIfInBounds_toArray, List.set_cons_zero, List.set_cons_succ]
          refine wpAnyH_done (by kernel_rfl) ?_ _
          obtain ⟨wl, hwl⟩ : ∃ x, wk.setCell ⟨pb, 4, none⟩ (.slice ba' E' bc') = x := ⟨_, rfl⟩
          rw [hwl]
          have ul : Turns (fun i => i = pb) wk wl := by rw [← hwl]; exact Turns.cell wk pb 4 _
          have zl : wl.heap[pb]? = some (.cells (plC a b (.slice ba' E' bc') st false) 71 (0, 0)) := by rw [← hwl]; exact heap_setCell_same _ _ _ _ _ _ HZk.out
          have hB := HM10.out.bookedG hk HK3.out HD10.out.own (fun i r => by have := HD10.out.lb i r; omega) HOu.out ul zl (by omega)
          have HB : Hid (∃ L' es', es'.length = es1.length + 3 ∧ Md w0 w wl lab L' k pb a b (.slice ba' E' bc') st false S S es' o w.heap.size ∧ Turns (fun i => Mine k (L1 i) ∨ (Value.slice ea en ec).ownBlock = some i) (wr.drewN 1) wl ∧ ∀ i, i < (wr.drewN 1).heap.size → ¬ Mine k (L1 i) → (Value.slice ea en ec).ownBlock ≠ some i → L' i = L1 i) := hB
          clear hB ul zl HK3 hkp hmk HZk fk ck kx kx2 hwl hHeld
          go_wp2_with fail
          go_roundw
          case rel =>
            obtain ⟨L', es', he', M11, T11, H11⟩ := HB.out
            exact ⟨q + 1, by omega, by omega, by go_num, ⟨L', _, es', M11, HU10.out.kept HEq.out (by omega) T11 H11, by rw [he', HEs.out]; omega⟩⟩
          case measure => simp [intOf]; omega
      · clear HM6 HU6 HEs hes1
        obtain ⟨wA, hwA⟩ : ∃ x, x = wr := ⟨wr, rfl⟩
        subst hwA
        have hfin : Hid (∀ (W' : World), Turns (fun i => (Value.slice la fs.length lc).ownBlock = some i) wA W' → Stepped w W' lab k pb st es S a b) := fun W' T => by
          obtain ⟨L1, bv1, es1, M6, U6, he6⟩ := hout.ex
          have M7 := M6.rowed hk U6.row (fun b q => by have := (U6.lv b q).1; exact ⟨by omega, (U6.lv b q).2⟩) T
          exact ⟨_, _, _, _, M7.pl, M7.fr, fun _ => by omega⟩
        have hrow : Hid (∃ xs, wA.ownsRow 0 42 3 (.slice la fs.length lc) fs.length xs) := by
          obtain ⟨L1, bv1, es1, M6, U6, he6⟩ := hout.ex
          exact ⟨_, U6.row⟩
        clear hout
        have hwy : decide (q < fs.length) = false ∨ (decide (q < fs.length) = true ∧ decide ((q : Int) < 100) = false) ∨ (decide (q < fs.length) = true ∧ decide ((q : Int) < 100) = true ∧ lg = true) := by
          rcases hexit with h | ⟨h, h'⟩ | ⟨h, h', h''⟩
          · exact Or.inl (decide_eq_false (by omega))
          · exact Or.inr (Or.inl ⟨decide_eq_true (by omega), decide_eq_false (by omega)⟩)
          · exact Or.inr (Or.inr ⟨decide_eq_true (by omega), decide_eq_true (by omega), h''⟩)
        clear hexit
        rcases hwy with h1i | ⟨h1i, h2i⟩ | ⟨h1i, h2i, rfl⟩
        all_goals
          go_wp2_with fail
          go_loopw [16] (fun i wr => ∃ (t : Nat) (xs : List Value), t ≤ fs.length ∧ i = .int .i64 t ∧ wr.ownsRow 0 42 3 (.slice la fs.length lc) fs.length xs ∧ Turns (fun i => (Value.slice la fs.length lc).ownBlock = some i) wA wr) (fun i _ => fs.length - (intOf i).toNat)
          case atStart =>
            obtain ⟨xs, hx⟩ := hrow.out
            exact ⟨0, xs, Nat.zero_le _, rfl, hx, Turns.refl _ _⟩
          case round =>
            obtain ⟨t, xs, ht, rfl, hr, hT⟩ := hrel
            clear hrow
            by_cases hlt : t < fs.length
            · have hti : (t : Int) < fs.length := by omega
              obtain ⟨g, rfl⟩ : ∃ g, la = some ⟨g, 0, none⟩ := by
                rcases hr.2 with ⟨_, h0⟩ | ⟨g, cap, cur, q1, _⟩
                · omega
                · cases q1; exact ⟨g, rfl⟩
              have hxl := hr.1
              have r1 := (hr.stored (t * 3) (.int .i64 (-7))).1
              have r2 := (r1.stored (t * 3 + 1) (.int .i64 0)).1
              have r3 := (r2.stored (t * 3 + 2) (.slice none 0 0)).1
              have e0 : wr.cell? ⟨g, t * 3, none⟩ = some (xs[t * 3]'(by omega)) := by rw [hr.cellAt _ (by omega)]; exact List.getElem?_eq_getElem (by omega)
              have e1 : (wr.setCell ⟨g, t * 3, none⟩ (.int .i64 (-7))).cell? ⟨g, t * 3 + 1, none⟩ = some ((xs.set (t * 3) (.int .i64 (-7)))[t * 3 + 1]'(by rw [List.length_set]; omega)) := by rw [r1.cellAt _ (by omega)]; exact List.getElem?_eq_getElem _
              have e2 : ((wr.setCell ⟨g, t * 3, none⟩ (.int .i64 (-7))).setCell ⟨g, t * 3 + 1, none⟩ (.int .i64 0)).cell? ⟨g, t * 3 + 2, none⟩ = some (((xs.set (t * 3) (.int .i64 (-7))).set (t * 3 + 1) (.int .i64 0))[t * 3 + 2]'(by rw [List.length_set, List.length_set]; omega)) := by rw [r2.cellAt _ (by omega)]; exact List.getElem?_eq_getElem _
              have f0 := hr.frozenAt (t * 3)
              have f1 := r1.frozenAt (t * 3 + 1)
              have f2 := r2.frozenAt (t * 3 + 2)
              have T3 := ((hT.trans (Turns.cell wr g (t * 3) (.int .i64 (-7))) (fun i _ e => by subst e; rfl)).trans (Turns.cell _ g (t * 3 + 1) (.int .i64 0)) (fun i _ e => by subst e; rfl)).trans (Turns.cell _ g (t * 3 + 2) (.slice none 0 0)) (fun i _ e => by subst e; rfl)
              have HR3 : Hid _ := r3
              have HT3 : Hid _ := T3
              generalize xs[t * 3]'(by omega) = x0 at e0
              generalize (xs.set (t * 3) (.int .i64 (-7)))[t * 3 + 1]'(by rw [List.length_set]; omega) = x1 at e1
              generalize ((xs.set (t * 3) (.int .i64 (-7))).set (t * 3 + 1) (.int .i64 0))[t * 3 + 2]'(by rw [List.length_set, List.length_set]; omega) = x2 at e2
              clear r1 r2 r3 T3 hr hT hxl
              go_wp2_with fail
              go_roundw
              case rel => exact ⟨t + 1, _, by omega, by go_num, HR3.out, HT3.out⟩
              case measure => simp [intOf]; omega
            · obtain rfl : t = fs.length := by omega
              have HR : Hid (wr.ownsRow 0 42 3 (.slice la fs.length lc) fs.length xs) := hr
              have HT : Hid (Turns (fun i => (Value.slice la fs.length lc).ownBlock = some i) wA wr) := hT
              clear hr hT
              go_wp2_with (first | (at_builtin; refine wpList_append_lies _ rfl (.tmp 143) (.tmp 146) 34 rfl 0 42 i1 (.agg #[.int .i64 0, .int .i64 0, .slice none 0 0]) 3 40 Try.underlying34 hi1 hy0 hy1 hy2 rfl (by decide) _ fs.length _ rfl (HR.out.alloc _) ⟨wr.heap.size, 0, none⟩ 2 2 [.int .i64 (-8), .int .i64 0, .slice none 0 0, .int .i64 (-9), .int .i64 0, .slice none 0 0] rfl rfl (World.news_of_block (heap_alloc_new _ _)) (by intro u hu; simp at hu; rcases hu with rfl | rfl | rfl | rfl | rfl | rfl <;> rfl) (by decide) (by unfold maxLen; omega) (by omega) (Nat.zero_le _) _ rfl ?_; intro gC cC wC hoC hgC hatC hltC; have HTC : Hid (Turns (fun i => (Value.slice la fs.length lc).ownBlock = some i) wA wC) := (HT.out.trans ((Turns.alloc _ _ _).trans (Turns.grown (F := fun i => (Value.slice la fs.length lc).ownBlock = some i) hgC (fun b hb => hb)) (fun _ _ h => h)) (fun _ _ h => h)); clear hoC hgC hatC hltC) | fail)
              go_ret
              exact ⟨rfl, hfin.out _ HTC.out⟩
  · rw [show ((1 : Nat) : Int) = 1 from rfl]
    go_enter Try.func38, Try.ntmps38
    go_wp2_with fail
    refine hU.mono ?_
    rintro e W3 ⟨lv, fs, rfl, F3, hfs, b3⟩
    have M3 := HM1.out.belowJ hk b3 j
    have U3 : Un w W3 (rl L0 W1 j) j lv fs 0 := Un.of F3 hjn hfw
    have y2 : W3.cell? ⟨pb, 3, none⟩ = some (.pointer (some ⟨b 1, 0, none⟩)) := M3.pl.cell 3 _ rfl
    have hD := dunderN (M3.pl.d 1 hc) j
    have HM3 : Hid (Md w0 w W3 lab (rl L0 W1 j) k pb a b bv st lg S S es o w.heap.size) := M3
    have HU3 : Hid (Un w W3 (rl L0 W1 j) j lv fs 0) := U3
    have HF3 : Hid (FRow W3 (rl L0 W1 j) j lv fs) := F3
    have HFS : Hid (fs.map En.fl = (S 1).l) := hfs
    clear M3 U3 F3 hfs hU HM1 b3 p0 p1 hjn hfw o0
    go_wp2_with fail
    refine hD.mono ?_
    rintro e W4 ⟨mv, gs, rfl, G4, hgs, b4⟩
    have M4 := HM3.out.belowJ hk b4 (k + 6)
    have U4 := HU3.out.below b4 (k + 6)
    have F4 := HF3.out.turns (Below.turns b4 (fun _ => False)) (fun _ _ _ q => q) (fun _ hi q => (rl_old (w := W3) (k := k + 6) hi).trans q)
    have hfl : fs.length ≤ 4096 := by have h1 := (M4.pl.n 1 hc).ok.few; rw [← HFS.out, List.length_map] at h1; exact h1
    have hgl : gs.length = fs.length := by have h1 := congrArg List.length (HFS.out.trans hgs.symm); simp only [List.length_map] at h1; exact h1.symm
    have hS := sameFls_true F4 G4 (HFS.out.trans hgs.symm) (by omega)
    obtain ⟨ma, mc, rfl⟩ := own_slice G4.row
    have HM4 : Hid (Md w0 w W4 lab _ k pb a b bv st lg S S es o w.heap.size) := M4
    have HU4 : Hid (Un w W4 _ j lv fs 0) := U4
    clear M4 U4 F4 G4 hgs hD HM3 HU3 HF3 y2 b4
    rw [hgl] at hS ⊢
    have hfli : (fs.length : Int) ≤ 4096 := by omega
    clear hgl
    go_wp2_with fail
    refine hS.mono ?_
    rintro e W5 ⟨rfl, b5⟩
    have M5 := HM4.out.belowJ hk b5 (k + 6)
    have U5 := HU4.out.below b5 (k + 6)
    obtain ⟨la, lc, rfl⟩ := own_slice U5.row
    have hlc : fs.length ≤ lc := by
      rcases U5.row.2 with ⟨_, h0⟩ | ⟨g, cap, cur, q, _, _, h1, _⟩
      · omega
      · cases q; exact h1
    have L5 : Hid (Lp w0 w W5 lab k pb a b st lg S es o w.heap.size j (.slice la fs.length lc) fs 0) := ⟨⟨_, bv, es, M5, U5, by omega⟩⟩
    clear M5 U5 hS HM4 HU4 b5
    go_wp2_with fail
    go_loopw [15] (fun i wr => ∃ q : Nat, q ≤ fs.length ∧ q ≤ 100 ∧ i = .int .i64 q ∧ Lp w0 w wr lab k pb a b st lg S es o w.heap.size j (.slice la fs.length lc) fs q) (fun i _ => 100 - (intOf i).toNat)
    case atStart => exact ⟨0, Nat.zero_le _, Nat.zero_le _, rfl, L5.out⟩
    case round =>
      obtain ⟨q, hq1, hq2, rfl, hL⟩ := hrel
      clear L5
      obtain ⟨L1, bv1, es1, M6, U6, he6⟩ := hL.ex
      clear hL
      have HEs : Hid (es1.length = es.length + 3 * q) := he6
      have hes1 : es1.length ≤ 1200 := by omega
      have p6 : wr.cell? ⟨pb, 6, none⟩ = some (.bool lg) := M6.pl.cell 6 _ rfl
      have HM6 : Hid (Md w0 w wr lab L1 k pb a b bv1 st lg S S es1 o w.heap.size) := M6
      have HU6 : Hid (Un w wr L1 j (.slice la fs.length lc) fs q) := U6
      clear M6 U6 he6
      have hout : Hid (Lp w0 w wr lab k pb a b st lg S es o w.heap.size j (.slice la fs.length lc) fs q) := ⟨⟨L1, bv1, es1, HM6.out, HU6.out, HEs.out⟩⟩
      have hways : (q < fs.length ∧ q < 100 ∧ lg = false) ∨ ¬ q < fs.length ∨ (q < fs.length ∧ ¬ q < 100) ∨ (q < fs.length ∧ q < 100 ∧ lg = true) := by
        by_cases h1 : q < fs.length
        · by_cases h2 : q < 100
          · cases lg
            · exact Or.inl ⟨h1, h2, rfl⟩
            · exact Or.inr (Or.inr (Or.inr ⟨h1, h2, rfl⟩))
          · exact Or.inr (Or.inr (Or.inl ⟨h1, h2⟩))
        · exact Or.inr (Or.inl h1)
      rcases hways with ⟨h1, h2, rfl⟩ | hexit
      · have h1i : decide ((q : Int) < fs.length) = true := decide_eq_true (by omega)
        have h2i : decide ((q : Int) < 100) = true := decide_eq_true (by omega)
        clear hout
        obtain ⟨e, hee⟩ : ∃ e, fs[q]? = some e := ⟨_, List.getElem?_eq_getElem h1⟩
        have HEq : Hid (fs[q]? = some e) := hee
        obtain ⟨g, rfl⟩ : ∃ g, la = some ⟨g, 0, none⟩ := by
          rcases HU6.out.row.2 with ⟨q1, h0⟩ | ⟨g, cap, cur, q1, _⟩
          · omega
          · cases q1; exact ⟨g, rfl⟩
        obtain ⟨ba, bc, rfl⟩ := tl_slice HM6.out.pl.bk.row
        obtain ⟨D6, N6⟩ := HU6.out.da q e (Nat.le_refl _) hee
        obtain ⟨no, to, d, ev⟩ := e
        obtain ⟨ea, ec, hev⟩ := D6.slice
        simp only at hev D6 N6
        subst hev
        have hdl : d.length ≤ 4096 := by
          have := HSh.out rfl ⟨no, to, d⟩ (by rw [← HFS.out]; exact List.mem_map.2 ⟨_, List.mem_of_getElem? hee, rfl⟩)
          exact this
        obtain ⟨en, hen⟩ : ∃ n, d.length = n := ⟨_, rfl⟩
        have kq : wr.cell? ⟨g, q * 3 + 2, none⟩ = some (.slice ea d.length ec) := by
          rw [HU6.out.row.cellAt (q * 3 + 2) (by omega)]
          exact (flC_at fs q _ hee).2.2
        rw [hen] at kq D6 N6 hdl hee
        have HEq : Hid (fs[q]? = some ⟨no, to, d, .slice ea en ec⟩) := hee
        have M10 := HM6.out.belowJ hk (below_drewN wr 1) (k + 6)
        have U10 := HU6.out.below (below_drewN wr 1) (k + 6)
        have D10 := D6.turns (Below.turns (below_drewN wr 1) (fun _ => False)) (fun _ _ _ q => q) (fun _ hi q => (rl_old (w := wr) (k := k + 6) hi).trans q)
        have p4 : wr.cell? ⟨pb, 4, none⟩ = some (.slice ba es1.length bc) := HM6.out.pl.cell 4 _ rfl
        obtain ⟨L1, hL1⟩ : ∃ L, rl L1 wr (k + 6) = L := ⟨_, rfl⟩
        rw [hL1] at M10 U10 D10
        have hnb : pb ≠ g := fun q => by have h1 := M10.pl.lb; have h2 := (U10.lv g rfl).1; rw [← q] at h2; omega
        have HNB : Hid (pb ≠ g) := hnb
        have hmk := mark_any M10.pl (q : Int)
        have hkp := fun m => keep_any M10.pl.bk (.slice ea en ec) _ _ D10.own (fun i q r => by have h1 := D10.lb i q; have h2 : _ = k + 4 := r; omega) (by omega) (by omega) m
        have HM10 : Hid (Md w0 w (wr.drewN 1) lab L1 k pb a b (.slice ba es1.length bc) st false S S es1 o w.heap.size) := M10
        have HU10 : Hid (Un w (wr.drewN 1) L1 j (.slice (some ⟨g, 0, none⟩) fs.length lc) fs q) := U10
        have HD10 : Hid (Da (wr.drewN 1) L1 j d (.slice ea en ec)) := D10
        have HOu : Hid (Ours w lab k (.slice ea en ec)) := fun i r hi => by have := N6 i r; omega
        clear M10 U10 D10 D6 N6 HM6 HU6 hee hnb hL1 hen
        go_wp2_with fail
        refine wp_region_held_drew (S := fun w' => w'.cell? ⟨g, q * 3 + 2, none⟩ = some (.slice ea en ec)) (by kernel_rfl) kq (fun hHeld => ?_)
        refine wpAnyH_take (i := 0) (oi := ⟨some 117, .move (.tmp 0), 66, "law.go:141", #[], none⟩) (v := (.pointer (some ⟨pb, 0, none⟩))) rfl (by kernel_rfl) (by kernel_rfl) (by kernel_rfl) (fun _ _ _ h => h) (Or.inl ⟨by rfl, fun _ _ => by rfl⟩) hHeld ?_
        simp only [Act.put, List.setIfInBounds_toArray, List.set_cons_zero, List.set_cons_succ]
        refine wpAnyH_take (i := 1) (oi := ⟨some 118, .move (.tmp 0), 66, "law.go:141", #[], none⟩) (v := (.pointer (some ⟨pb, 0, none⟩))) rfl (by kernel_rfl) (by kernel_rfl) (by kernel_rfl) (fun _ _ _ h => h) (Or.inl ⟨by rfl, fun _ _ => by rfl⟩) hHeld ?_
        simp only [Act.put, List.setIfInBounds_toArray, List.set_cons_zero, List.set_cons_succ]
        refine wpAnyH_take (i := 2) (oi := ⟨some 119, .nilCheck (.tmp 118), 0, "law.go:141", #[⟨1, .data⟩], none⟩) (v := (.pointer (some ⟨pb, 0, none⟩))) rfl (by kernel_rfl) (by kernel_rfl) (by kernel_rfl) (fun _ _ _ h => h) (Or.inl ⟨by rfl, fun _ _ => by rfl⟩) hHeld ?_
        simp only [Act.put, List.setIfInBounds_toArray, List.set_cons_zero, List.set_cons_succ]
        refine wpAnyH_take (i := 3) (oi := ⟨some 120, .fieldAddr 71 (.tmp 119) 2, 0, "law.go:141", #[⟨2, .data⟩], none⟩) (v := (.pointer (some ⟨pb, 4, none⟩))) rfl (by kernel_rfl) (by kernel_rfl) (by kernel_rfl) (fun _ _ _ h => h) (Or.inl ⟨by rfl, fun _ _ => by rfl⟩) hHeld ?_
        simp only [Act.put, List.setIfInBounds_toArray, List.set_cons_zero, List.set_cons_succ]
        refine wpAnyH_take (i := 5) (oi := ⟨some 122, .move (.tmp 12), 34, "law.go:141", #[], none⟩) (v := (.slice (some ⟨g, 0, none⟩) fs.length lc)) rfl (by kernel_rfl) (by kernel_rfl) (by kernel_rfl) (fun _ _ _ h => h) (Or.inl ⟨by rfl, fun _ _ => by rfl⟩) hHeld ?_
        simp only [Act.put, List.setIfInBounds_toArray, List.set_cons_zero, List.set_cons_succ]
        refine wpAnyH_take (i := 6) (oi := ⟨some 123, .move (.tmp 15), 3, "law.go:141", #[], none⟩) (v := (.int .i64 q)) rfl (by kernel_rfl) (by kernel_rfl) (by kernel_rfl) (fun _ _ _ h => h) (Or.inl ⟨by rfl, fun _ _ => by rfl⟩) hHeld ?_
        simp only [Act.put, List.setIfInBounds_toArray, List.set_cons_zero, List.set_cons_succ]
        refine wpAnyH_take (i := 7) (oi := ⟨some 124, .indexAddr 34 (.tmp 122) (.tmp 123), 0, "law.go:141", #[⟨5, .data⟩, ⟨6, .data⟩], none⟩) (v := (.pointer (some ⟨g, q * 3, none⟩))) rfl (by kernel_rfl) (by kernel_rfl) (by kernel_rfl) (fun _ _ _ h => h) (Or.inl ⟨by rfl, fun w' h' => by unfold execOp; go_simp⟩) hHeld ?_
        simp only [Act.put, List.setIfInBounds_toArray, List.set_cons_zero, List.set_cons_succ]
        refine wpAnyH_take (i := 8) (oi := ⟨some 125, .fieldAddr 42 (.tmp 124) 2, 0, "law.go:141", #[⟨7, .data⟩], none⟩) (v := (.pointer (some ⟨g, q * 3 + 2, none⟩))) rfl (by kernel_rfl) (by kernel_rfl) (by kernel_rfl) (fun _ _ _ h => h) (Or.inl ⟨by rfl, fun _ _ => by rfl⟩) hHeld ?_
        simp only [Act.put, List.setIfInBounds_toArray, List.set_cons_zero, List.set_cons_succ]
        refine wpAnyH_take (i := 9) (oi := ⟨some 126, .load 22 (.tmp 125), 22, "law.go:141", #[⟨8, .data⟩], none⟩) (v := (.slice ea en ec)) rfl (by kernel_rfl) (by kernel_rfl) (by kernel_rfl) (fun _ _ _ h => h) (Or.inl ⟨by rfl, fun w' h' => by unfold execOp; go_simp⟩) hHeld ?_
        simp only [Act.put, List.setIfInBounds_toArray, List.set_cons_zero, List.set_cons_succ]
        refine wpAnyH_take (i := 10) (oi := ⟨some 127, .move (.tmp 0), 66, "law.go:141", #[], none⟩) (v := (.pointer (some ⟨pb, 0, none⟩))) rfl (by kernel_rfl) (by kernel_rfl) (by kernel_rfl) (fun _ _ _ h => h) (Or.inl ⟨by rfl, fun _ _ => by rfl⟩) hHeld ?_
        simp only [Act.put, List.setIfInBounds_toArray, List.set_cons_zero, List.set_cons_succ]
        refine wpAnyH_take (i := 11) (oi := ⟨some 128, .move (.tmp 15), 3, "law.go:141", #[], none⟩) (v := (.int .i64 q)) rfl (by kernel_rfl) (by kernel_rfl) (by kernel_rfl) (fun _ _ _ h => h) (Or.inl ⟨by rfl, fun _ _ => by rfl⟩) hHeld ?_
        simp only [Act.put, List.setIfInBounds_toArray, List.set_cons_zero, List.set_cons_succ]
        refine wpAnyH_ready (rs := [4, 12]) (by kernel_rfl) (by simp) ?_
        refine AllReadyH.cons (o := ⟨some 121, .load 69 (.tmp 120), 69, "law.go:141", #[⟨3, .data⟩], none⟩) rfl (fun KK hK => ?_) (AllReadyH.cons (o := ⟨some 129, .call ⟨.value (.func 47), #[.tmp 127, .tmp 128], #[66, 3]⟩, 5, "law.go:141", #[⟨10, .data⟩, ⟨11, .data⟩], none⟩) rfl (fun KK hK => ?_) (AllReadyH.nil))
        · go_simp
          refine hK.out _ _ hHeld (fun hHeld => ?_)
          clear hK KK
          try simp only [Act.put, List.setIfInBounds_toArray, List.set_cons_zero, List.set_cons_succ]
          refine wpAnyH_ready (rs := [12]) (by kernel_rfl) (by simp) ?_
          refine AllReadyH.cons (o := ⟨some 129, .call ⟨.value (.func 47), #[.tmp 127, .tmp 128], #[66, 3]⟩, 5, "law.go:141", #[⟨10, .data⟩, ⟨11, .data⟩], none⟩) rfl (fun KK hK => ?_) (AllReadyH.nil)
          go_simp
          refine hmk.mono ?_
          rintro e wm ⟨mm, rfl, rfl⟩
          go_wp2_with fail
          refine hK.out _ _ hHeld (fun hHeld => ?_)
          clear hK KK
          try simp only [Act.put, List.setIfInBounds_toArray, List.set_cons_zero, List.set_cons_succ]
          refine wpAnyH_ready (rs := [13]) (by kernel_rfl) (by simp) ?_
          refine AllReadyH.cons (o := ⟨some 130, .call ⟨.value (.func 46), #[.tmp 121, .tmp 126, .tmp 129], #[69, 22, 5]⟩, 69, "law.go:141", #[⟨4, .data⟩, ⟨9, .data⟩, ⟨12, .data⟩, ⟨12, .chain⟩], none⟩) rfl (fun KK hK => ?_) (AllReadyH.nil)
          go_simp
          refine (hkp mm).mono ?_
          rintro e wk ⟨bv', rfl, K3⟩
          have HK3 : Hid (Kept3 _ _ _ _ _ _ _) := K3
          obtain ⟨fs0, _, hB, hT⟩ := K3
          obtain ⟨ba', bc', hbv'⟩ := tl_slice hB.row
          generalize (es1 ++ fs0).length = E' at hbv'
          clear hB
          subst hbv'
          have nb : ¬ ((Value.slice ba es1.length bc).ownBlock = some pb ∨ (Value.slice ea en ec).ownBlock = some pb) := fun q => q.elim (fun r => by have h1 : _ = k + 4 := HM10.out.pl.bk.kb pb r; have h2 := HM10.out.pl.lb; omega) (fun r => by have h1 := HD10.out.lb pb r; have h2 := HM10.out.pl.lb; omega)
          have nx : ¬ ((Value.slice ba es1.length bc).ownBlock = some g ∨ (Value.slice ea en ec).ownBlock = some g) := fun q => q.elim (fun r => by have h1 : _ = k + 4 := HM10.out.pl.bk.kb g r; have h2 := (HU10.out.lv g rfl).1; omega) (fun r => own_apart2 HU10.out.row HD10.out.own (by decide) (b := g) rfl r)
          have zk := (hT.block pb (heap_lt HM10.out.pl.box) nb).trans HM10.out.pl.box
          have fk : wk.frozen? ⟨pb, 4, none⟩ = false := by simp [World.frozen?, zk]
          have ck : wk.cell? ⟨pb, 4, none⟩ = some (.slice ba es1.length bc) := by simp [World.cell?, zk]
          have kx : wk.cell? ⟨g, q * 3 + 2, none⟩ = some (.slice ea en ec) := cell_turns hT hHeld nx
          have kx2 : ∀ u, (wk.setCell ⟨pb, 4, none⟩ u).cell? ⟨g, q * 3 + 2, none⟩ = some (.slice ea en ec) := fun u => (World.cell?_setCell_far wk ⟨pb, 4, none⟩ ⟨g, q * 3 + 2, none⟩ u HNB.out).trans kx
          have HZk : Hid (wk.heap[pb]? = _) := zk
          clear zk hT nb nx
          go_wp2_with fail
          refine hK.out _ _ kx (fun hHeld => ?_)
          clear hK KK
          try simp only [Act.put, List.setIfInBounds_toArray, List.set_cons_zero, List.set_cons_succ]
          refine wpAnyH_take (i := 14) (oi := ⟨some 131, .nilCheck (.tmp 117), 0, "law.go:141", #[⟨0, .data⟩, ⟨0, .phase⟩, ⟨1, .phase⟩, ⟨2, .phase⟩, ⟨3, .phase⟩, ⟨4, .phase⟩, ⟨5, .phase⟩, ⟨6, .phase⟩, ⟨7, .phase⟩, ⟨8, .phase⟩, ⟨9, .phase⟩, ⟨10, .phase⟩, ⟨11, .phase⟩, ⟨12, .phase⟩, ⟨13, .phase⟩], none⟩) (v := (.pointer (some ⟨pb, 0, none⟩))) rfl (by kernel_rfl) (by kernel_rfl) (by kernel_rfl) (fun _ _ _ h => h) (Or.inl ⟨by rfl, fun _ _ => by rfl⟩) hHeld ?_
          simp only [Act.put, List.setIfInBounds_toArray, List.set_cons_zero, List.set_cons_succ]
          refine wpAnyH_take (i := 15) (oi := ⟨some 132, .fieldAddr 71 (.tmp 131) 2, 0, "law.go:141", #[⟨14, .data⟩, ⟨0, .phase⟩, ⟨1, .phase⟩, ⟨2, .phase⟩, ⟨3, .phase⟩, ⟨4, .phase⟩, ⟨5, .phase⟩, ⟨6, .phase⟩, ⟨7, .phase⟩, ⟨8, .phase⟩, ⟨9, .phase⟩, ⟨10, .phase⟩, ⟨11, .phase⟩, ⟨12, .phase⟩, ⟨13, .phase⟩], none⟩) (v := (.pointer (some ⟨pb, 4, none⟩))) rfl (by kernel_rfl) (by kernel_rfl) (by kernel_rfl) (fun _ _ _ h => h) (Or.inl ⟨by rfl, fun _ _ => by rfl⟩) hHeld ?_
          simp only [Act.put, List.setIfInBounds_toArray, List.set_cons_zero, List.set_cons_succ]
          refine wpAnyH_ready (rs := [16]) (by kernel_rfl) (by simp) ?_
          refine AllReadyH.cons (o := ⟨none, .store 69 (.tmp 132) (.tmp 130), 0, "law.go:141", #[⟨15, .data⟩, ⟨13, .data⟩, ⟨13, .chain⟩, ⟨0, .phase⟩, ⟨1, .phase⟩, ⟨2, .phase⟩, ⟨3, .phase⟩, ⟨4, .phase⟩, ⟨5, .phase⟩, ⟨6, .phase⟩, ⟨7, .phase⟩, ⟨8, .phase⟩, ⟨9, .phase⟩, ⟨10, .phase⟩, ⟨11, .phase⟩, ⟨12, .phase⟩, ⟨13, .phase⟩], none⟩) rfl (fun KK hK => ?_) (AllReadyH.nil)
          go_simp
          refine hK.out _ _ (kx2 _) (fun hHeld => ?_)
          clear hK KK
          try simp only [Act.put, List.setIfInBounds_toArray, List.set_cons_zero, List.set_cons_succ]
          refine wpAnyH_done (by kernel_rfl) ?_ _
          obtain ⟨wl, hwl⟩ : ∃ x, wk.setCell ⟨pb, 4, none⟩ (.slice ba' E' bc') = x := ⟨_, rfl⟩
          rw [hwl]
          have ul : Turns (fun i => i = pb) wk wl := by rw [← hwl]; exact Turns.cell wk pb 4 _
          have zl : wl.heap[pb]? = some (.cells (plC a b (.slice ba' E' bc') st false) 71 (0, 0)) := by rw [← hwl]; exact heap_setCell_same _ _ _ _ _ _ HZk.out
          have hB := HM10.out.bookedG hk HK3.out HD10.out.own (fun i r => by have := HD10.out.lb i r; omega) HOu.out ul zl (by omega)
          have HB : Hid (∃ L' es', es'.length = es1.length + 3 ∧ Md w0 w wl lab L' k pb a b (.slice ba' E' bc') st false S S es' o w.heap.size ∧ Turns (fun i => Mine k (L1 i) ∨ (Value.slice ea en ec).ownBlock = some i) (wr.drewN 1) wl ∧ ∀ i, i < (wr.drewN 1).heap.size → ¬ Mine k (L1 i) → (Value.slice ea en ec).ownBlock ≠ some i → L' i = L1 i) := hB
          clear hB ul zl HK3 hkp hmk HZk fk ck kx kx2 hwl hHeld
          go_wp2_with fail
          go_roundw
          case rel =>
            obtain ⟨L', es', he', M11, T11, H11⟩ := HB.out
            exact ⟨q + 1, by omega, by omega, by go_num, ⟨L', _, es', M11, HU10.out.kept HEq.out (by omega) T11 H11, by rw [he', HEs.out]; omega⟩⟩
          case measure => simp [intOf]; omega
        · go_simp
          refine hmk.mono ?_
          rintro e wm ⟨mm, rfl, rfl⟩
          go_wp2_with fail
          refine hK.out _ _ hHeld (fun hHeld => ?_)
          clear hK KK
          try simp only [Act.put, List.setIfInBounds_toArray, List.set_cons_zero, List.set_cons_succ]
          refine wpAnyH_ready (rs := [4]) (by kernel_rfl) (by simp) ?_
          refine AllReadyH.cons (o := ⟨some 121, .load 69 (.tmp 120), 69, "law.go:141", #[⟨3, .data⟩], none⟩) rfl (fun KK hK => ?_) (AllReadyH.nil)
          go_simp
          refine hK.out _ _ hHeld (fun hHeld => ?_)
          clear hK KK
          try simp only [Act.put, List.setIfInBounds_toArray, List.set_cons_zero, List.set_cons_succ]
          refine wpAnyH_ready (rs := [13]) (by kernel_rfl) (by simp) ?_
          refine AllReadyH.cons (o := ⟨some 130, .call ⟨.value (.func 46), #[.tmp 121, .tmp 126, .tmp 129], #[69, 22, 5]⟩, 69, "law.go:141", #[⟨4, .data⟩, ⟨9, .data⟩, ⟨12, .data⟩, ⟨12, .chain⟩], none⟩) rfl (fun KK hK => ?_) (AllReadyH.nil)
          go_simp
          refine (hkp mm).mono ?_
          rintro e wk ⟨bv', rfl, K3⟩
          have HK3 : Hid (Kept3 _ _ _ _ _ _ _) := K3
          obtain ⟨fs0, _, hB, hT⟩ := K3
          obtain ⟨ba', bc', hbv'⟩ := tl_slice hB.row
          generalize (es1 ++ fs0).length = E' at hbv'
          clear hB
          subst hbv'
          have nb : ¬ ((Value.slice ba es1.length bc).ownBlock = some pb ∨ (Value.slice ea en ec).ownBlock = some pb) := fun q => q.elim (fun r => by have h1 : _ = k + 4 := HM10.out.pl.bk.kb pb r; have h2 := HM10.out.pl.lb; omega) (fun r => by have h1 := HD10.out.lb pb r; have h2 := HM10.out.pl.lb; omega)
          have nx : ¬ ((Value.slice ba es1.length bc).ownBlock = some g ∨ (Value.slice ea en ec).ownBlock = some g) := fun q => q.elim (fun r => by have h1 : _ = k + 4 := HM10.out.pl.bk.kb g r; have h2 := (HU10.out.lv g rfl).1; omega) (fun r => own_apart2 HU10.out.row HD10.out.own (by decide) (b := g) rfl r)
          have zk := (hT.block pb (heap_lt HM10.out.pl.box) nb).trans HM10.out.pl.box
          have fk : wk.frozen? ⟨pb, 4, none⟩ = false := by simp [World.frozen?, zk]
          have ck : wk.cell? ⟨pb, 4, none⟩ = some (.slice ba es1.length bc) := by simp [World.cell?, zk]
          have kx : wk.cell? ⟨g, q * 3 + 2, none⟩ = some (.slice ea en ec) := cell_turns hT hHeld nx
          have kx2 : ∀ u, (wk.setCell ⟨pb, 4, none⟩ u).cell? ⟨g, q * 3 + 2, none⟩ = some (.slice ea en ec) := fun u => (World.cell?_setCell_far wk ⟨pb, 4, none⟩ ⟨g, q * 3 + 2, none⟩ u HNB.out).trans kx
          have HZk : Hid (wk.heap[pb]? = _) := zk
          clear zk hT nb nx
          go_wp2_with fail
          refine hK.out _ _ kx (fun hHeld => ?_)
          clear hK KK
          try simp only [Act.put, List.setIfInBounds_toArray, List.set_cons_zero, List.set_cons_succ]
          refine wpAnyH_take (i := 14) (oi := ⟨some 131, .nilCheck (.tmp 117), 0, "law.go:141", #[⟨0, .data⟩, ⟨0, .phase⟩, ⟨1, .phase⟩, ⟨2, .phase⟩, ⟨3, .phase⟩, ⟨4, .phase⟩, ⟨5, .phase⟩, ⟨6, .phase⟩, ⟨7, .phase⟩, ⟨8, .phase⟩, ⟨9, .phase⟩, ⟨10, .phase⟩, ⟨11, .phase⟩, ⟨12, .phase⟩, ⟨13, .phase⟩], none⟩) (v := (.pointer (some ⟨pb, 0, none⟩))) rfl (by kernel_rfl) (by kernel_rfl) (by kernel_rfl) (fun _ _ _ h => h) (Or.inl ⟨by rfl, fun _ _ => by rfl⟩) hHeld ?_
          simp only [Act.put, List.setIfInBounds_toArray, List.set_cons_zero, List.set_cons_succ]
          refine wpAnyH_take (i := 15) (oi := ⟨some 132, .fieldAddr 71 (.tmp 131) 2, 0, "law.go:141", #[⟨14, .data⟩, ⟨0, .phase⟩, ⟨1, .phase⟩, ⟨2, .phase⟩, ⟨3, .phase⟩, ⟨4, .phase⟩, ⟨5, .phase⟩, ⟨6, .phase⟩, ⟨7, .phase⟩, ⟨8, .phase⟩, ⟨9, .phase⟩, ⟨10, .phase⟩, ⟨11, .phase⟩, ⟨12, .phase⟩, ⟨13, .phase⟩], none⟩) (v := (.pointer (some ⟨pb, 4, none⟩))) rfl (by kernel_rfl) (by kernel_rfl) (by kernel_rfl) (fun _ _ _ h => h) (Or.inl ⟨by rfl, fun _ _ => by rfl⟩) hHeld ?_
          simp only [Act.put, List.setIfInBounds_toArray, List.set_cons_zero, List.set_cons_succ]
          refine wpAnyH_ready (rs := [16]) (by kernel_rfl) (by simp) ?_
          refine AllReadyH.cons (o := ⟨none, .store 69 (.tmp 132) (.tmp 130), 0, "law.go:141", #[⟨15, .data⟩, ⟨13, .data⟩, ⟨13, .chain⟩, ⟨0, .phase⟩, ⟨1, .phase⟩, ⟨2, .phase⟩, ⟨3, .phase⟩, ⟨4, .phase⟩, ⟨5, .phase⟩, ⟨6, .phase⟩, ⟨7, .phase⟩, ⟨8, .phase⟩, ⟨9, .phase⟩, ⟨10, .phase⟩, ⟨11, .phase⟩, ⟨12, .phase⟩, ⟨13, .phase⟩], none⟩) rfl (fun KK hK => ?_) (AllReadyH.nil)
          go_simp
          refine hK.out _ _ (kx2 _) (fun hHeld => ?_)
          clear hK KK
          try simp only [Act.put, List.setIfInBounds_toArray, List.set_cons_zero, List.set_cons_succ]
          refine wpAnyH_done (by kernel_rfl) ?_ _
          obtain ⟨wl, hwl⟩ : ∃ x, wk.setCell ⟨pb, 4, none⟩ (.slice ba' E' bc') = x := ⟨_, rfl⟩
          rw [hwl]
          have ul : Turns (fun i => i = pb) wk wl := by rw [← hwl]; exact Turns.cell wk pb 4 _
          have zl : wl.heap[pb]? = some (.cells (plC a b (.slice ba' E' bc') st false) 71 (0, 0)) := by rw [← hwl]; exact heap_setCell_same _ _ _ _ _ _ HZk.out
          have hB := HM10.out.bookedG hk HK3.out HD10.out.own (fun i r => by have := HD10.out.lb i r; omega) HOu.out ul zl (by omega)
          have HB : Hid (∃ L' es', es'.length = es1.length + 3 ∧ Md w0 w wl lab L' k pb a b (.slice ba' E' bc') st false S S es' o w.heap.size ∧ Turns (fun i => Mine k (L1 i) ∨ (Value.slice ea en ec).ownBlock = some i) (wr.drewN 1) wl ∧ ∀ i, i < (wr.drewN 1).heap.size → ¬ Mine k (L1 i) → (Value.slice ea en ec).ownBlock ≠ some i → L' i = L1 i) := hB
          clear hB ul zl HK3 hkp hmk HZk fk ck kx kx2 hwl hHeld
          go_wp2_with fail
          go_roundw
          case rel =>
            obtain ⟨L', es', he', M11, T11, H11⟩ := HB.out
            exact ⟨q + 1, by omega, by omega, by go_num, ⟨L', _, es', M11, HU10.out.kept HEq.out (by omega) T11 H11, by rw [he', HEs.out]; omega⟩⟩
          case measure => simp [intOf]; omega
      · clear HM6 HU6 HEs hes1
        obtain ⟨wA, hwA⟩ : ∃ x, x = wr := ⟨wr, rfl⟩
        subst hwA
        have hfin : Hid (∀ (W' : World), Turns (fun i => (Value.slice la fs.length lc).ownBlock = some i) wA W' → Stepped w W' lab k pb st es S a b) := fun W' T => by
          obtain ⟨L1, bv1, es1, M6, U6, he6⟩ := hout.ex
          have M7 := M6.rowed hk U6.row (fun b q => by have := (U6.lv b q).1; exact ⟨by omega, (U6.lv b q).2⟩) T
          exact ⟨_, _, _, _, M7.pl, M7.fr, fun _ => by omega⟩
        have hrow : Hid (∃ xs, wA.ownsRow 0 42 3 (.slice la fs.length lc) fs.length xs) := by
          obtain ⟨L1, bv1, es1, M6, U6, he6⟩ := hout.ex
          exact ⟨_, U6.row⟩
        clear hout
        have hwy : decide (q < fs.length) = false ∨ (decide (q < fs.length) = true ∧ decide ((q : Int) < 100) = false) ∨ (decide (q < fs.length) = true ∧ decide ((q : Int) < 100) = true ∧ lg = true) := by
          rcases hexit with h | ⟨h, h'⟩ | ⟨h, h', h''⟩
          · exact Or.inl (decide_eq_false (by omega))
          · exact Or.inr (Or.inl ⟨decide_eq_true (by omega), decide_eq_false (by omega)⟩)
          · exact Or.inr (Or.inr ⟨decide_eq_true (by omega), decide_eq_true (by omega), h''⟩)
        clear hexit
        rcases hwy with h1i | ⟨h1i, h2i⟩ | ⟨h1i, h2i, rfl⟩
        all_goals
          go_wp2_with fail
          go_loopw [16] (fun i wr => ∃ (t : Nat) (xs : List Value), t ≤ fs.length ∧ i = .int .i64 t ∧ wr.ownsRow 0 42 3 (.slice la fs.length lc) fs.length xs ∧ Turns (fun i => (Value.slice la fs.length lc).ownBlock = some i) wA wr) (fun i _ => fs.length - (intOf i).toNat)
          case atStart =>
            obtain ⟨xs, hx⟩ := hrow.out
            exact ⟨0, xs, Nat.zero_le _, rfl, hx, Turns.refl _ _⟩
          case round =>
            obtain ⟨t, xs, ht, rfl, hr, hT⟩ := hrel
            clear hrow
            by_cases hlt : t < fs.length
            · have hti : (t : Int) < fs.length := by omega
              obtain ⟨g, rfl⟩ : ∃ g, la = some ⟨g, 0, none⟩ := by
                rcases hr.2 with ⟨_, h0⟩ | ⟨g, cap, cur, q1, _⟩
                · omega
                · cases q1; exact ⟨g, rfl⟩
              have hxl := hr.1
              have r1 := (hr.stored (t * 3) (.int .i64 (-7))).1
              have r2 := (r1.stored (t * 3 + 1) (.int .i64 0)).1
              have r3 := (r2.stored (t * 3 + 2) (.slice none 0 0)).1
              have e0 : wr.cell? ⟨g, t * 3, none⟩ = some (xs[t * 3]'(by omega)) := by rw [hr.cellAt _ (by omega)]; exact List.getElem?_eq_getElem (by omega)
              have e1 : (wr.setCell ⟨g, t * 3, none⟩ (.int .i64 (-7))).cell? ⟨g, t * 3 + 1, none⟩ = some ((xs.set (t * 3) (.int .i64 (-7)))[t * 3 + 1]'(by rw [List.length_set]; omega)) := by rw [r1.cellAt _ (by omega)]; exact List.getElem?_eq_getElem _
              have e2 : ((wr.setCell ⟨g, t * 3, none⟩ (.int .i64 (-7))).setCell ⟨g, t * 3 + 1, none⟩ (.int .i64 0)).cell? ⟨g, t * 3 + 2, none⟩ = some (((xs.set (t * 3) (.int .i64 (-7))).set (t * 3 + 1) (.int .i64 0))[t * 3 + 2]'(by rw [List.length_set, List.length_set]; omega)) := by rw [r2.cellAt _ (by omega)]; exact List.getElem?_eq_getElem _
              have f0 := hr.frozenAt (t * 3)
              have f1 := r1.frozenAt (t * 3 + 1)
              have f2 := r2.frozenAt (t * 3 + 2)
              have T3 := ((hT.trans (Turns.cell wr g (t * 3) (.int .i64 (-7))) (fun i _ e => by subst e; rfl)).trans (Turns.cell _ g (t * 3 + 1) (.int .i64 0)) (fun i _ e => by subst e; rfl)).trans (Turns.cell _ g (t * 3 + 2) (.slice none 0 0)) (fun i _ e => by subst e; rfl)
              have HR3 : Hid _ := r3
              have HT3 : Hid _ := T3
              generalize xs[t * 3]'(by omega) = x0 at e0
              generalize (xs.set (t * 3) (.int .i64 (-7)))[t * 3 + 1]'(by rw [List.length_set]; omega) = x1 at e1
              generalize ((xs.set (t * 3) (.int .i64 (-7))).set (t * 3 + 1) (.int .i64 0))[t * 3 + 2]'(by rw [List.length_set, List.length_set]; omega) = x2 at e2
              clear r1 r2 r3 T3 hr hT hxl
              go_wp2_with fail
              go_roundw
              case rel => exact ⟨t + 1, _, by omega, by go_num, HR3.out, HT3.out⟩
              case measure => simp [intOf]; omega
            · obtain rfl : t = fs.length := by omega
              have HR : Hid (wr.ownsRow 0 42 3 (.slice la fs.length lc) fs.length xs) := hr
              have HT : Hid (Turns (fun i => (Value.slice la fs.length lc).ownBlock = some i) wA wr) := hT
              clear hr hT
              go_wp2_with (first | (at_builtin; refine wpList_append_lies _ rfl (.tmp 143) (.tmp 146) 34 rfl 0 42 i1 (.agg #[.int .i64 0, .int .i64 0, .slice none 0 0]) 3 40 Try.underlying34 hi1 hy0 hy1 hy2 rfl (by decide) _ fs.length _ rfl (HR.out.alloc _) ⟨wr.heap.size, 0, none⟩ 2 2 [.int .i64 (-8), .int .i64 0, .slice none 0 0, .int .i64 (-9), .int .i64 0, .slice none 0 0] rfl rfl (World.news_of_block (heap_alloc_new _ _)) (by intro u hu; simp at hu; rcases hu with rfl | rfl | rfl | rfl | rfl | rfl <;> rfl) (by decide) (by unfold maxLen; omega) (by omega) (Nat.zero_le _) _ rfl ?_; intro gC cC wC hoC hgC hatC hltC; have HTC : Hid (Turns (fun i => (Value.slice la fs.length lc).ownBlock = some i) wA wC) := (HT.out.trans ((Turns.alloc _ _ _).trans (Turns.grown (F := fun i => (Value.slice la fs.length lc).ownBlock = some i) hgC (fun b hb => hb)) (fun _ _ h => h)) (fun _ _ h => h)); clear hoC hgC hatC hltC) | fail)
              go_ret
              exact ⟨rfl, hfin.out _ HTC.out⟩
end Go.Proofs.Ytpbanjgjljdepaa
