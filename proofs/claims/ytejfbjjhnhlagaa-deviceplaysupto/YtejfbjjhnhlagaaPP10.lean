/- made, at what is no image, and at Image(Durable()). -/
import Derived.Test.YtejfbjjhnhlagaaPP8
namespace Go.Proofs.Ytejfbjjhnhlagaa
open Go.RowKit Go.Maps
set_option maxRecDepth 100000

set_option maxHeartbeats 4000000 in
theorem made_image_bad {w : World} {base yb : Nat} {s : Int} {N : Nat} {a b : Nat → Value} {T : Nat → Option PairT} {bv : Value} {es : List Ke} (h : Pz w base yb s N a b T bv es (fun _ => False)) (hbal : Bal T) (hT2 : T 2 = none) (who : Int) {q : Nat} (hq : q ≤ 1) (hwq : bits BinOp.and IntKind.i64 who 1 = (q : Int)) (hN : N ≤ 1000000000) (hes : es.length ≤ 900000000000) (k2 k3 : Value) (dn : Nat) (da : Option Addr) (dc : Nat) (bs : List Int) (ka : Option Addr) (kn kc : Nat) (ks : List Bool) (hbad : ¬ imgB dn) (hok : OpOk w base da dn dc bs ka kn kc ks) :
    Calls Try.prog 5 #[.pointer (some ⟨yb, 0, none⟩), .agg #[.int .i64 2, .int .i64 who, k2, k3, .slice da dn dc, .slice ka kn kc]] w fun e w' => e = .returned (.bool true) ∧ ∃ a' b', Aft w w' base yb s (N + 1) a' b' (es.length + 3) := by
  have hNes : N ≤ 1000000000 ∧ es.length ≤ 900000000000 := ⟨hN, hes⟩
  clear hNes
  obtain ⟨pa, pb, epa, epb⟩ := h.ptr hq
  obtain ⟨W, hW⟩ : ∃ W, w.alloc (.cells #[.int .i64 2, .int .i64 who, k2, k3, .slice da dn dc, .slice ka kn kc] 36) = W := ⟨_, rfl⟩
  have hbW : Below w.heap.size w W := by rw [← hW]; exact (Below.refl _ w).alloc (Nat.le_refl _) _
  have hs : W.heap.size = w.heap.size + 1 := by rw [← hW]; simp
  obtain ⟨B, hB⟩ : ∃ B, w.heap.size = B := ⟨_, rfl⟩
  obtain ⟨z0, f0⟩ := h.below hbW
  replace z0 := z0.less (P' := fun i => i = w.heap.size) (fun i hi => Or.inr (by omega))
  have B0 := f0.blw
  have o0 : W.cell? ⟨w.heap.size, 0, none⟩ = some (.int .i64 2) := by rw [← hW]; simp
  have o1 : W.cell? ⟨w.heap.size, 1, none⟩ = some (.int .i64 who) := by rw [← hW]; simp
  have o2 : W.cell? ⟨w.heap.size, 2, none⟩ = some (k2) := by rw [← hW]; simp
  have o3 : W.cell? ⟨w.heap.size, 3, none⟩ = some (k3) := by rw [← hW]; simp
  have o4 : W.cell? ⟨w.heap.size, 4, none⟩ = some (.slice da dn dc) := by rw [← hW]; simp
  have hwlt : w.heap.size < W.heap.size := by omega
  rw [hB] at z0 o0 o1 o2 o3 o4 hwlt
  have HB : Hid (w.heap.size = B) := hB
  obtain ⟨ya, yb'⟩ := z0.cell2 hq
  rw [epa] at ya
  rw [epb] at yb'
  have hyl := z0.lt
  clear h hs f0
  have hqi : (q : Int) < 2 := by omega
  have hqi0 : (0 : Int) ≤ q := by omega
  -- the local pair
  have hbX : ∀ o, Below W.heap.size W (W.alloc o) := fun o => (Below.refl _ W).alloc (Nat.le_refl _) o
  have xo1 : ∀ o, (W.alloc o).cell? ⟨B, 1, none⟩ = some (.int .i64 who) := fun o => ((hbX o).cell hwlt).trans o1
  have xya : ∀ o, (W.alloc o).cell? ⟨yb, q * 2, none⟩ = some (.pointer pa) := fun o => ((hbX o).cell hyl.1).trans ya
  have xyb : ∀ o, (W.alloc o).cell? ⟨yb, q * 2 + 1, none⟩ = some (.pointer pb) := fun o => ((hbX o).cell hyl.1).trans yb'
  go_enter Try.func5, Try.ntmps5
  go_wp2_with fail
  go_region_held3 (fun w' => w'.cell? ⟨B, 1, none⟩ = some (.int .i64 who) ∧ w'.cell? ⟨yb, q * 2, none⟩ = some (.pointer pa) ∧ w'.cell? ⟨yb, q * 2 + 1, none⟩ = some (.pointer pb)) (first | exact ⟨o1, ya, yb'⟩ | exact ⟨xo1 _, xya _, xyb _⟩) (fail)
  obtain ⟨X, hX⟩ : ∃ X, (W.alloc (.cells #[.pointer pa, .pointer pb] 28)).drew = X := ⟨_, rfl⟩
  have hbX1 : Below W.heap.size W X := by rw [← hX]; exact ⟨rfl, rfl, rfl, by simp, fun i hi => (hbX _).block i hi⟩
  have hsX : X.heap.size = W.heap.size + 1 := by rw [← hX]; simp
  obtain ⟨C, hC⟩ : ∃ C, W.heap.size = C := ⟨_, rfl⟩
  have pX0 : X.cell? ⟨W.heap.size, 0, none⟩ = some (.pointer pa) := by rw [← hX]; simp
  have pX1 : X.cell? ⟨W.heap.size, 1, none⟩ = some (.pointer pb) := by rw [← hX]; simp
  have bX : X.heap[W.heap.size]? = some (.cells #[.pointer pa, .pointer pb] 28 (0, 0)) := by rw [← hX]; exact (MapKept.heap_alloc W _).1
  obtain ⟨z1, f1⟩ := z0.below hbX1
  replace z1 := z1.less (P' := fun i => i = B ∨ i = W.heap.size) (fun i hi => hi.elim Or.inl (fun r => Or.inr (by omega)))
  have B1 := B0.trans f1.blw
  have hBC : B ≠ W.heap.size := by omega
  have x0 : X.cell? ⟨B, 0, none⟩ = some (.int .i64 2) := f1.cell rfl o0
  have x1 : X.cell? ⟨B, 1, none⟩ = some (.int .i64 who) := f1.cell rfl o1
  have x3 : X.cell? ⟨B, 3, none⟩ = some (k3) := f1.cell rfl o3
  have x4 : X.cell? ⟨B, 4, none⟩ = some (.slice da dn dc) := f1.cell rfl o4
  have xy2 : X.cell? ⟨yb, q * 2, none⟩ = some (.pointer pa) ∧ X.cell? ⟨yb, q * 2 + 1, none⟩ = some (.pointer pb) := by rw [← epa, ← epb]; exact z1.cell2 hq
  rw [hC] at pX0 pX1 bX z1 hBC
  rw [hX, hC]
  have HC : Hid (W.heap.size = C) := hC
  have hHX : Hid (X.heap.size = C + 1 ∧ B < C) := ⟨by omega, by omega⟩
  have HYB : Hid (yb ≠ B) := z1.ny (Or.inl rfl)
  have HYC : Hid (yb ≠ C) := z1.ny (Or.inr rfl)
  clear o0 o1 o2 o3 o4 ya yb' xo1 xya xyb z0 f1 hX hbX
  go_wp2_with fail
  have hok1 := hok.below B1
  have hbl := hok.d.hlen
  have hdm := hok.dm
  refine (roomy_any da (dn) dc bs X hok.dm hok1.d).mono ?_
  rintro e w2 ⟨g, tl, rfl, hg, hgb, hb2, hmx⟩
  obtain ⟨z2, f2⟩ := z1.below hb2
  have hgl := heap_lt hgb
  replace z2 := z2.less (P' := fun i => i = B ∨ i = C ∨ i = g) (fun i hi => by
    rcases hi with r | r | r
    · exact Or.inl (Or.inl r)
    · exact Or.inl (Or.inr r)
    · exact Or.inr (by omega))
  have B2 := B1.trans f2.blw
  have y1 : w2.cell? ⟨B, 1, none⟩ = some (.int .i64 who) := f2.cell (Or.inl rfl) x1
  have y4 : w2.cell? ⟨B, 4, none⟩ = some (.slice da (dn) dc) := f2.cell (Or.inl rfl) x4
  have yC : w2.heap[C]? = some (.cells #[.pointer pa, .pointer pb] 28 (0, 0)) := f2.blk (Or.inr rfl) bX
  have hLw : Lies w2 (some ⟨g, 0, none⟩) (dn) (dn + 3 + tl.length) bs := lies_pre hgb hbl (by omega)
  have hci : ((dn : Nat) : Int) ≤ ((dn + 3 + tl.length : Nat) : Int) := by omega
  have hok2 := hok.below B2
  clear z1 pX0 pX1 bX x0 x1 x3 x4 xy2
  go_wp2_with fail
  refine (image_bad (some ⟨g, 0, none⟩) dn _ w2 (by omega) hbad).mono ?_
  rintro e wn ⟨rfl, hwn⟩
  subst wn
  go_wp2_with fail
  refine (refImage_bad da dn dc w2 (by omega) hbad).mono ?_
  rintro e wn ⟨rfl, hwn⟩
  subst wn
  have hgC : g ≠ C := by have := heap_lt yC; have := hHX.out; omega
  go_wp2_with fail
  refine (roomy_any da dn dc bs w2 hok.dm hok2.d).mono ?_
  rintro e w5 ⟨g5, tl5, rfl, hg5, hgb5, hb5, _⟩
  obtain ⟨z5, f5⟩ := z2.below hb5
  have h54 := f5.blk (Or.inr (Or.inr rfl)) hgb
  have B5 := B2.trans f5.blw
  have la := Lies.bt (n := dn + 3) (c := dn + 3 + tl.length) h54 (by simp [hbl]) (by omega)
  have lb := Lies.bt (n := dn + 3) (c := dn + 3 + tl5.length) hgb5 (by simp [hbl]) (by omega)
  have tC := f5.blk (Or.inr (Or.inl rfl)) yC
  replace z5 := z5.less (P' := fun i => i = B ∨ i = C ∨ i = g) (fun i hi => Or.inl hi)
  clear y4 z2 f5 y1 yC hgb
  go_wp2_with fail
  refine (same_true (some ⟨g, 0, none⟩) (some ⟨g5, 0, none⟩) (dn + 3) (dn + 3) (dn + 3 + tl.length) (dn + 3 + tl5.length) (bs ++ [201, 202, 203]) w5 (by omega) la lb).mono ?_
  rintro e w6 ⟨rfl, m6, rfl⟩
  have z6 := z5.drewN m6
  have hg6 : (w5.drewN m6).heap[g]? = some (bt (bs ++ [201, 202, 203]) tl) := h54
  have B6 : Below base w (w5.drewN m6) := below_drewN B5 m6
  have tC' : (w5.drewN m6).heap[C]? = some (.cells #[.pointer pa, .pointer pb] 28 (0, 0)) := tC
  obtain ⟨w7, hw7⟩ : ∃ w7, w5.drewN m6 = w7 := ⟨_, rfl⟩
  rw [hw7] at z6 hg6 B6 tC' ⊢
  clear hw7 z5 la lb hgb5 h54 hb5 tC
  go_wp2_with (first | (go_at_call 18; refine (num_id _ _).mono ?_; rintro e wn ⟨rfl, hwn⟩; subst wn))
  have hg6d : w7.drew.heap[g]? = some (bt (bs ++ [201, 202, 203]) tl) := hg6
  have zw7d : Pz w7.drew base yb s N a b T bv es (fun i => i = B ∨ i = C ∨ i = g) := z6.drewN 1
  have Bd : Below base w7 w7.drew := ⟨rfl, rfl, rfl, Nat.le_refl _, fun _ _ => rfl⟩
  have c4 : w7.cell? ⟨yb, 4, none⟩ = some bv := z6.cells.2.2.2.2.1
  have HM : Hid (Calls Try.prog 25 #[.pointer (some ⟨yb, 0, none⟩)] w7.drew fun e w' => ∃ m, e = .returned (.int .u8 m) ∧ w' = w7.drew) := mark_any zw7d
  have HK : Hid (∀ m, Calls Try.prog 24 #[bv, .slice (some ⟨g, 0, none⟩) (dn + 3) (dn + 3 + tl.length), .int .u8 m] w7.drew fun e w' => ∃ va vn vc, e = .returned (.slice va vn vc) ∧ w'.cell? ⟨yb, 4, none⟩ = some bv ∧ w'.frozen? ⟨yb, 4, none⟩ = false ∧ (∃ fs : List Ke, fs.length = 3 ∧ Pz (w'.setCell ⟨yb, 4, none⟩ (.slice va vn vc)) base yb s N a b T (.slice va vn vc) (es ++ fs) (fun i => (fun i => i = B ∨ i = C ∨ i = g) i ∧ (.slice (some ⟨g, 0, none⟩) (dn + 3) (dn + 3 + tl.length) : Value).ownBlock ≠ some i)) ∧ Fr (fun i => (fun i => i = B ∨ i = C ∨ i = g) i ∧ (.slice (some ⟨g, 0, none⟩) (dn + 3) (dn + 3 + tl.length) : Value).ownBlock ≠ some i) base w7.drew (w'.setCell ⟨yb, 4, none⟩ (.slice va vn vc))) := fun m => keep_py zw7d (.slice (some ⟨g, 0, none⟩) (dn + 3) (dn + 3 + tl.length)) (dn + 3) _ (own_of_bt hg6d (by simp [hbl]) hmx) (fun i hi => by obtain rfl := Option.some.inj hi; exact Or.inr (Or.inr rfl)) (by omega) (by omega) m
  go_region_law
    (first
      | (go_simp; go_at_call 25; refine HM.out.mono ?_; rintro e wn ⟨mk, rfl, hwn⟩; subst wn; dsimp only)
      | (go_simp; go_at_call 24; refine (HK.out mk).mono ?_; rintro e wK ⟨va, vn, vc, rfl, cK, fK, ⟨fs, hfs, zK⟩, fKK⟩; dsimp only))
  all_goals (
    have tCd : w7.drew.heap[C]? = some (.cells #[.pointer pa, .pointer pb] 28 (0, 0)) := tC'
    have vC := fKK.blk ⟨Or.inr (Or.inl rfl), fun e => hgC (Option.some.inj e)⟩ tCd
    have B8 := (B6.trans Bd).trans fKK.blw
    obtain ⟨wM, hwM⟩ : ∃ wM, wK.setCell ⟨yb, 4, none⟩ (.slice va vn vc) = wM := ⟨_, rfl⟩
    rw [hwM] at zK vC B8 fKK ⊢
    have t4 : Turns (fun i => i = C) wM ((wM.setCell ⟨C, 0, none⟩ (.pointer none)).setCell ⟨C, 1, none⟩ (.pointer none)) := (Turns.cell wM C 0 _).trans (Turns.cell _ C 1 _) (fun _ _ h => h)
    obtain ⟨z4, f4⟩ := zK.free t4 (fun i hi => by subst hi; exact ⟨Or.inr (Or.inl rfl), fun e => hgC (Option.some.inj e)⟩)
    have hA : Aft w ((wM.setCell ⟨C, 0, none⟩ (.pointer none)).setCell ⟨C, 1, none⟩ (.pointer none)) base yb s (N + 1) a b (es.length + 3) := Aft.none z4 hbal hT2 (by rw [List.length_append]; omega) (Nat.le_succ N) (B8.trans f4.blw)
    have kC0 : wM.cell? ⟨C, 0, none⟩ = some (.pointer pa) := by { simp only [World.cell?, vC]; rfl }
    have kC1 : wM.cell? ⟨C, 1, none⟩ = some (.pointer pb) := by { simp only [World.cell?, vC]; rfl }
    have gC1 : wM.frozen? ⟨C, 0, none⟩ = false := by { simp only [World.frozen?, vC]; rfl }
    have gC2 : wM.frozen? ⟨C, 1, none⟩ = false := by { simp only [World.frozen?, vC]; rfl }
    have bx4 : ((wM.setCell ⟨C, 0, none⟩ (.pointer none)).setCell ⟨C, 1, none⟩ (.pointer none)).heap[C]? = some (.cells #[.pointer none, .pointer none] 28 (0, 0)) := by { rw [heap_setCell_same _ _ _ _ _ _ (heap_setCell_same _ _ _ _ _ _ vC)]; rfl }
    clear zK fKK cK fK HK HM tCd tC' vC z6 zw7d c4 hg6 hg6d hwM z4 f4 t4 bx4
    go_wp2
    go_ret
    exact ⟨rfl, a, b, hA⟩)

set_option maxHeartbeats 4000000 in
theorem made_again_none {w : World} {base yb : Nat} {s : Int} {N : Nat} {a b : Nat → Value} {T : Nat → Option PairT} {bv : Value} {es : List Ke} (h : Pz w base yb s N a b T bv es (fun _ => False)) (hbal : Bal T) (hT2 : T 2 = none) (who : Int) {q : Nat} (hq : q ≤ 1) (hwq : bits BinOp.and IntKind.i64 who 1 = (q : Int)) (hN : N ≤ 1000000000) (hes : es.length ≤ 900000000000) (k2 k3 k4 k5 : Value) (ht : T q = none) :
    Calls Try.prog 5 #[.pointer (some ⟨yb, 0, none⟩), .agg #[.int .i64 10, .int .i64 who, k2, k3, k4, k5]] w fun e w' => e = .returned (.bool true) ∧ ∃ a' b', Aft w w' base yb s (N + 1) a' b' (es.length + 3) := by
  have hNes : N ≤ 1000000000 ∧ es.length ≤ 900000000000 := ⟨hN, hes⟩
  clear hNes
  obtain ⟨pa, pb, epa, epb⟩ := h.ptr hq
  have HPA : Hid (pa = none) := by have := (h.nil (by omega) ht).1; rw [epa] at this; cases this; rfl
  obtain ⟨W, hW⟩ : ∃ W, w.alloc (.cells #[.int .i64 10, .int .i64 who, k2, k3, k4, k5] 36) = W := ⟨_, rfl⟩
  have hbW : Below w.heap.size w W := by rw [← hW]; exact (Below.refl _ w).alloc (Nat.le_refl _) _
  have hs : W.heap.size = w.heap.size + 1 := by rw [← hW]; simp
  obtain ⟨B, hB⟩ : ∃ B, w.heap.size = B := ⟨_, rfl⟩
  obtain ⟨z0, f0⟩ := h.below hbW
  replace z0 := z0.less (P' := fun i => i = w.heap.size) (fun i hi => Or.inr (by omega))
  have B0 := f0.blw
  have o0 : W.cell? ⟨w.heap.size, 0, none⟩ = some (.int .i64 10) := by rw [← hW]; simp
  have o1 : W.cell? ⟨w.heap.size, 1, none⟩ = some (.int .i64 who) := by rw [← hW]; simp
  have o2 : W.cell? ⟨w.heap.size, 2, none⟩ = some (k2) := by rw [← hW]; simp
  have o3 : W.cell? ⟨w.heap.size, 3, none⟩ = some (k3) := by rw [← hW]; simp
  have o4 : W.cell? ⟨w.heap.size, 4, none⟩ = some (k4) := by rw [← hW]; simp
  have hwlt : w.heap.size < W.heap.size := by omega
  rw [hB] at z0 o0 o1 o2 o3 o4 hwlt
  have HB : Hid (w.heap.size = B) := hB
  obtain ⟨ya, yb'⟩ := z0.cell2 hq
  rw [epa] at ya
  rw [epb] at yb'
  have hyl := z0.lt
  clear h hs f0
  have hqi : (q : Int) < 2 := by omega
  have hqi0 : (0 : Int) ≤ q := by omega
  -- the local pair
  have hbX : ∀ o, Below W.heap.size W (W.alloc o) := fun o => (Below.refl _ W).alloc (Nat.le_refl _) o
  have xo1 : ∀ o, (W.alloc o).cell? ⟨B, 1, none⟩ = some (.int .i64 who) := fun o => ((hbX o).cell hwlt).trans o1
  have xya : ∀ o, (W.alloc o).cell? ⟨yb, q * 2, none⟩ = some (.pointer pa) := fun o => ((hbX o).cell hyl.1).trans ya
  have xyb : ∀ o, (W.alloc o).cell? ⟨yb, q * 2 + 1, none⟩ = some (.pointer pb) := fun o => ((hbX o).cell hyl.1).trans yb'
  go_enter Try.func5, Try.ntmps5
  go_wp2_with fail
  go_region_held3 (fun w' => w'.cell? ⟨B, 1, none⟩ = some (.int .i64 who) ∧ w'.cell? ⟨yb, q * 2, none⟩ = some (.pointer pa) ∧ w'.cell? ⟨yb, q * 2 + 1, none⟩ = some (.pointer pb)) (first | exact ⟨o1, ya, yb'⟩ | exact ⟨xo1 _, xya _, xyb _⟩) (fail)
  obtain ⟨X, hX⟩ : ∃ X, (W.alloc (.cells #[.pointer pa, .pointer pb] 28)).drew = X := ⟨_, rfl⟩
  have hbX1 : Below W.heap.size W X := by rw [← hX]; exact ⟨rfl, rfl, rfl, by simp, fun i hi => (hbX _).block i hi⟩
  have hsX : X.heap.size = W.heap.size + 1 := by rw [← hX]; simp
  obtain ⟨C, hC⟩ : ∃ C, W.heap.size = C := ⟨_, rfl⟩
  have pX0 : X.cell? ⟨W.heap.size, 0, none⟩ = some (.pointer pa) := by rw [← hX]; simp
  have pX1 : X.cell? ⟨W.heap.size, 1, none⟩ = some (.pointer pb) := by rw [← hX]; simp
  have bX : X.heap[W.heap.size]? = some (.cells #[.pointer pa, .pointer pb] 28 (0, 0)) := by rw [← hX]; exact (MapKept.heap_alloc W _).1
  obtain ⟨z1, f1⟩ := z0.below hbX1
  replace z1 := z1.less (P' := fun i => i = B ∨ i = W.heap.size) (fun i hi => hi.elim Or.inl (fun r => Or.inr (by omega)))
  have B1 := B0.trans f1.blw
  have hBC : B ≠ W.heap.size := by omega
  have x0 : X.cell? ⟨B, 0, none⟩ = some (.int .i64 10) := f1.cell rfl o0
  have x1 : X.cell? ⟨B, 1, none⟩ = some (.int .i64 who) := f1.cell rfl o1
  have x3 : X.cell? ⟨B, 3, none⟩ = some (k3) := f1.cell rfl o3
  have x4 : X.cell? ⟨B, 4, none⟩ = some (k4) := f1.cell rfl o4
  have xy2 : X.cell? ⟨yb, q * 2, none⟩ = some (.pointer pa) ∧ X.cell? ⟨yb, q * 2 + 1, none⟩ = some (.pointer pb) := by rw [← epa, ← epb]; exact z1.cell2 hq
  rw [hC] at pX0 pX1 bX z1 hBC
  rw [hX, hC]
  have HC : Hid (W.heap.size = C) := hC
  have hHX : Hid (X.heap.size = C + 1 ∧ B < C) := ⟨by omega, by omega⟩
  have HYB : Hid (yb ≠ B) := z1.ny (Or.inl rfl)
  have HYC : Hid (yb ≠ C) := z1.ny (Or.inr rfl)
  clear o0 o1 o2 o3 o4 ya yb' xo1 xya xyb z0 f1 hX hbX
  obtain rfl := HPA.out
  have hA : Aft w X base yb s (N + 1) a b (es.length + 3) := Aft.none z1 hbal hT2 (by omega) (Nat.le_succ N) B1
  clear z1 bX
  go_wp2
  go_ret
  exact ⟨rfl, a, b, hA⟩

set_option maxHeartbeats 4000000 in
theorem made_again_some {w : World} {base yb : Nat} {s : Int} {N : Nat} {a b : Nat → Value} {T : Nat → Option PairT} {bv : Value} {es : List Ke} (h : Pz w base yb s N a b T bv es (fun _ => False)) (hbal : Bal T) (hT2 : T 2 = none) (who : Int) {q : Nat} (hq : q ≤ 1) (hwq : bits BinOp.and IntKind.i64 who 1 = (q : Int)) (hN : N ≤ 1000000000) (hes : es.length ≤ 900000000000) (k2 k3 k4 k5 : Value) {t : PairT} (ht : T q = some t) :
    Calls Try.prog 5 #[.pointer (some ⟨yb, 0, none⟩), .agg #[.int .i64 10, .int .i64 who, k2, k3, k4, k5]] w fun e w' => e = .returned (.bool true) ∧ ∃ a' b', Aft w w' base yb s (N + 1) a' b' (es.length + 3) := by
  have hNes : N ≤ 1000000000 ∧ es.length ≤ 900000000000 := ⟨hN, hes⟩
  clear hNes
  have hSU := hbal q t ht
  obtain ⟨dbo, rbo, S, U, k, Fo, Ro⟩ := t
  simp only at hSU
  subst hSU
  obtain ⟨epa, epb, dvo, _⟩ := h.two (by omega) ht
  simp only at epa epb
  have hgood := dvo.good
  simp only at hgood
  have hlen := hgood.len
  have hpos := hgood.pos
  have htop := hgood.top
  obtain ⟨pa, hpa⟩ : ∃ pa, pa = some (⟨dbo, 0, none⟩ : Addr) := ⟨_, rfl⟩
  obtain ⟨pb, hpb⟩ : ∃ pb, pb = some (⟨rbo, 0, none⟩ : Addr) := ⟨_, rfl⟩
  rw [← hpa] at epa
  rw [← hpb] at epb
  have HPA : Hid (pa = some (⟨dbo, 0, none⟩ : Addr)) := hpa
  have HPB : Hid (pb = some (⟨rbo, 0, none⟩ : Addr)) := hpb
  clear dvo hpa hpb
  obtain ⟨W, hW⟩ : ∃ W, w.alloc (.cells #[.int .i64 10, .int .i64 who, k2, k3, k4, k5] 36) = W := ⟨_, rfl⟩
  have hbW : Below w.heap.size w W := by rw [← hW]; exact (Below.refl _ w).alloc (Nat.le_refl _) _
  have hs : W.heap.size = w.heap.size + 1 := by rw [← hW]; simp
  obtain ⟨B, hB⟩ : ∃ B, w.heap.size = B := ⟨_, rfl⟩
  obtain ⟨z0, f0⟩ := h.below hbW
  replace z0 := z0.less (P' := fun i => i = w.heap.size) (fun i hi => Or.inr (by omega))
  have B0 := f0.blw
  have o0 : W.cell? ⟨w.heap.size, 0, none⟩ = some (.int .i64 10) := by rw [← hW]; simp
  have o1 : W.cell? ⟨w.heap.size, 1, none⟩ = some (.int .i64 who) := by rw [← hW]; simp
  have o2 : W.cell? ⟨w.heap.size, 2, none⟩ = some (k2) := by rw [← hW]; simp
  have o3 : W.cell? ⟨w.heap.size, 3, none⟩ = some (k3) := by rw [← hW]; simp
  have o4 : W.cell? ⟨w.heap.size, 4, none⟩ = some (k4) := by rw [← hW]; simp
  have hwlt : w.heap.size < W.heap.size := by omega
  rw [hB] at z0 o0 o1 o2 o3 o4 hwlt
  have HB : Hid (w.heap.size = B) := hB
  obtain ⟨ya, yb'⟩ := z0.cell2 hq
  rw [epa] at ya
  rw [epb] at yb'
  have hyl := z0.lt
  clear h hs f0
  have hqi : (q : Int) < 2 := by omega
  have hqi0 : (0 : Int) ≤ q := by omega
  -- the local pair
  have hbX : ∀ o, Below W.heap.size W (W.alloc o) := fun o => (Below.refl _ W).alloc (Nat.le_refl _) o
  have xo1 : ∀ o, (W.alloc o).cell? ⟨B, 1, none⟩ = some (.int .i64 who) := fun o => ((hbX o).cell hwlt).trans o1
  have xya : ∀ o, (W.alloc o).cell? ⟨yb, q * 2, none⟩ = some (.pointer pa) := fun o => ((hbX o).cell hyl.1).trans ya
  have xyb : ∀ o, (W.alloc o).cell? ⟨yb, q * 2 + 1, none⟩ = some (.pointer pb) := fun o => ((hbX o).cell hyl.1).trans yb'
  go_enter Try.func5, Try.ntmps5
  go_wp2_with fail
  go_region_held3 (fun w' => w'.cell? ⟨B, 1, none⟩ = some (.int .i64 who) ∧ w'.cell? ⟨yb, q * 2, none⟩ = some (.pointer pa) ∧ w'.cell? ⟨yb, q * 2 + 1, none⟩ = some (.pointer pb)) (first | exact ⟨o1, ya, yb'⟩ | exact ⟨xo1 _, xya _, xyb _⟩) (fail)
  obtain ⟨X, hX⟩ : ∃ X, (W.alloc (.cells #[.pointer pa, .pointer pb] 28)).drew = X := ⟨_, rfl⟩
  have hbX1 : Below W.heap.size W X := by rw [← hX]; exact ⟨rfl, rfl, rfl, by simp, fun i hi => (hbX _).block i hi⟩
  have hsX : X.heap.size = W.heap.size + 1 := by rw [← hX]; simp
  obtain ⟨C, hC⟩ : ∃ C, W.heap.size = C := ⟨_, rfl⟩
  have pX0 : X.cell? ⟨W.heap.size, 0, none⟩ = some (.pointer pa) := by rw [← hX]; simp
  have pX1 : X.cell? ⟨W.heap.size, 1, none⟩ = some (.pointer pb) := by rw [← hX]; simp
  have bX : X.heap[W.heap.size]? = some (.cells #[.pointer pa, .pointer pb] 28 (0, 0)) := by rw [← hX]; exact (MapKept.heap_alloc W _).1
  obtain ⟨z1, f1⟩ := z0.below hbX1
  replace z1 := z1.less (P' := fun i => i = B ∨ i = W.heap.size) (fun i hi => hi.elim Or.inl (fun r => Or.inr (by omega)))
  have B1 := B0.trans f1.blw
  have hBC : B ≠ W.heap.size := by omega
  have x0 : X.cell? ⟨B, 0, none⟩ = some (.int .i64 10) := f1.cell rfl o0
  have x1 : X.cell? ⟨B, 1, none⟩ = some (.int .i64 who) := f1.cell rfl o1
  have x3 : X.cell? ⟨B, 3, none⟩ = some (k3) := f1.cell rfl o3
  have x4 : X.cell? ⟨B, 4, none⟩ = some (k4) := f1.cell rfl o4
  have xy2 : X.cell? ⟨yb, q * 2, none⟩ = some (.pointer pa) ∧ X.cell? ⟨yb, q * 2 + 1, none⟩ = some (.pointer pb) := by rw [← epa, ← epb]; exact z1.cell2 hq
  rw [hC] at pX0 pX1 bX z1 hBC
  rw [hX, hC]
  have HC : Hid (W.heap.size = C) := hC
  have hHX : Hid (X.heap.size = C + 1 ∧ B < C) := ⟨by omega, by omega⟩
  have HYB : Hid (yb ≠ B) := z1.ny (Or.inl rfl)
  have HYC : Hid (yb ≠ C) := z1.ny (Or.inr rfl)
  clear o0 o1 o2 o3 o4 ya yb' xo1 xya xyb z0 f1 hX hbX
  obtain rfl := HPA.out
  obtain rfl := HPB.out
  go_wp2_with fail
  refine (durable_any (z1.two (by omega) ht).2.2.1).mono ?_
  rintro e w2 ⟨⟨g, rfl, hg, hgb⟩, hw2⟩
  obtain ⟨z2, f2⟩ := z1.same (by omega) ht hw2
  have hgl := heap_lt hgb
  replace z2 := z2.less (P' := fun i => i = B ∨ i = C) (fun i hi => Or.inl hi)
  have ht2 := upd_same T q (some (⟨dbo, rbo, S, S, k, Fo, Ro⟩ : PairT))
  have hbal2 : Bal (upd T q (some (⟨dbo, rbo, S, S, k, Fo, Ro⟩ : PairT))) := hbal.upd rfl
  have hT22 : upd T q (some (⟨dbo, rbo, S, S, k, Fo, Ro⟩ : PairT)) 2 = none := by rw [upd_other _ _ (by omega)]; exact hT2
  have B2 := B1.trans f2.blw
  have y1 : w2.cell? ⟨B, 1, none⟩ = some (.int .i64 who) := f2.cell (Or.inl rfl) x1
  have yC : w2.heap[C]? = some (.cells #[.pointer (some ⟨dbo, 0, none⟩), .pointer (some ⟨rbo, 0, none⟩)] 28 (0, 0)) := f2.blk (Or.inr rfl) bX
  have q1 : w2.cell? ⟨C, 1, none⟩ = some (.pointer (some ⟨rbo, 0, none⟩)) := by simp [World.cell?, yC]
  have la := Lies.full hgb hlen
  replace z2 : Pz w2 base yb s N a b (upd T q (some (⟨dbo, rbo, S, S, k, Fo, Ro⟩ : PairT))) bv es (fun i => i = B ∨ i = C) := z2
  clear z1 pX0 pX1 bX x0 x1 x3 x4 xy2 hw2 ht
  generalize upd T q (some (⟨dbo, rbo, S, S, k, Fo, Ro⟩ : PairT)) = T2 at *
  go_wp2_with fail
  refine (image_good (some ⟨g, 0, none⟩) k _ S.last w2 hpos htop la hgood.by_).mono ?_
  rintro e w3 ⟨db, rfl, D3, b3⟩
  obtain ⟨z3, f3⟩ := z2.below b3
  have B3 := B2.trans f3.blw
  have q1' : w3.cell? ⟨C, 1, none⟩ = some (.pointer (some ⟨rbo, 0, none⟩)) := f3.cell (Or.inr rfl) q1
  clear q1 hgb la
  go_wp2_with fail
  refine (refDurable_any (z3.two (by omega) ht2).2.2.2.1).mono ?_
  rintro e w4 ⟨⟨g4, c4, rfl, lb⟩, b4⟩
  obtain ⟨z4, f4⟩ := z3.below b4
  have B4 := B3.trans f4.blw
  have D4 := D3.below b4
  go_wp2_with fail
  refine (refImage_good (some ⟨g4, 0, none⟩) k c4 S.last w4 hpos htop lb hgood.by_).mono ?_
  rintro e w5 ⟨rb, rfl, R5, b5⟩
  obtain ⟨z5, f5⟩ := z4.below b5
  have B5 := B4.trans f5.blw
  have D5 := (D4.below b5).up (Nat.zero_le N)
  have hs3 := b3.size
  have hs4 := b4.size
  have hs5 := b5.size
  have hCl := heap_lt yC
  have hFP : ∀ i, grow (fun _ => False) w2 w3 i → ((((i = B ∨ i = C) ∨ (w2.heap.size ≤ i ∧ i < w3.heap.size)) ∨ (w3.heap.size ≤ i ∧ i < w4.heap.size)) ∨ (w4.heap.size ≤ i ∧ i < w5.heap.size)) ∧ i ≠ C := fun i hi => hi.elim (fun r => r.elim) (fun r => ⟨Or.inl (Or.inl (Or.inr r)), by omega⟩)
  have hRP : ∀ i, grow (fun _ => False) w4 w5 i → ((((i = B ∨ i = C) ∨ (w2.heap.size ≤ i ∧ i < w3.heap.size)) ∨ (w3.heap.size ≤ i ∧ i < w4.heap.size)) ∨ (w4.heap.size ≤ i ∧ i < w5.heap.size)) ∧ i ≠ C := fun i hi => hi.elim (fun r => r.elim) (fun r => ⟨Or.inr r, by omega⟩)
  have hap : ∀ i, grow (fun _ => False) w2 w3 i → ¬ grow (fun _ => False) w4 w5 i := fun i hi hj => hi.elim id (fun r => hj.elim id (fun r' => by omega))
  have vC : w5.heap[C]? = some (.cells #[.pointer (some ⟨dbo, 0, none⟩), .pointer (some ⟨rbo, 0, none⟩)] 28 (0, 0)) := f5.blk (Or.inl (Or.inl (Or.inr rfl))) (f4.blk (Or.inl (Or.inr rfl)) (f3.blk (Or.inr rfl) yC))
  have v0 : w5.cell? ⟨B, 1, none⟩ = some (.int .i64 who) := f5.cell (Or.inl (Or.inl (Or.inl rfl))) (f4.cell (Or.inl (Or.inl rfl)) (f3.cell (Or.inl rfl) y1))
  generalize grow (fun _ => False) w2 w3 = F at *
  generalize grow (fun _ => False) w4 w5 = R at *
  obtain ⟨wL, hwL, zL, DL, RL, u0, u1, fL⟩ := z5.loc (Or.inl (Or.inl (Or.inl (Or.inr rfl)))) vC D5 R5 (fun i hi => (hFP i hi).2) (fun i hi => (hRP i hi).2)
  have v1 : wL.cell? ⟨B, 1, none⟩ = some (.int .i64 who) := fL.cell ⟨Or.inl (Or.inl (Or.inl (Or.inl rfl))), by omega⟩ v0
  have BL := B5.trans fL.blw
  have kC0 : w5.cell? ⟨C, 0, none⟩ = some (.pointer (some ⟨dbo, 0, none⟩)) := by { simp only [World.cell?, vC]; rfl }
  have kC1 : w5.cell? ⟨C, 1, none⟩ = some (.pointer (some ⟨rbo, 0, none⟩)) := by { simp only [World.cell?, vC]; rfl }
  have gC1 : w5.frozen? ⟨C, 0, none⟩ = false := by { simp only [World.frozen?, vC]; rfl }
  have gC2 : w5.frozen? ⟨C, 1, none⟩ = false := by { simp only [World.frozen?, vC]; rfl }
  clear z2 z3 z4 z5 f3 f4 f5 fL D3 D4 D5 R5 lb vC v0 y1 yC q1'
  go_wp2_with (first | (go_at_call 18; refine (num_id _ _).mono ?_; rintro e wn ⟨rfl, hwn⟩; subst wn))
  try rw [hwL]
  clear kC0 kC1 gC1 gC2
  have c2 := zL.cell2 hq
  rw [epa, epb] at c2
  obtain ⟨ya2, yb2⟩ := c2
  have ff := zL.cells.2.2.2.2.2.2
  have ff0 := ff (q * 2)
  have ff1 := ff (q * 2 + 1)
  obtain ⟨zE, BE⟩ := zL.set hq DL RL (fun i hi => (hFP i hi).1) (fun i hi => (hRP i hi).1) hap
  have hAE : ∃ a' b', Aft w ((wL.setCell ⟨yb, q * 2, none⟩ (.pointer (some ⟨db, 0, none⟩))).setCell ⟨yb, q * 2 + 1, none⟩ (.pointer (some ⟨rb, 0, none⟩))) base yb s (N + 1) a' b' (es.length + 3) := ⟨_, _, Aft.of zE hbal2 hT22 hq (fun r hr => upd_other _ _ hr) (upd_same _ _ _) rfl (by omega) (Nat.le_succ N) (BL.trans BE)⟩
  have hyC := HYC.out
  have hyB := HYB.out
  have t1 : ((wL.setCell ⟨yb, q * 2, none⟩ (.pointer (some ⟨db, 0, none⟩))).setCell ⟨yb, q * 2 + 1, none⟩ (.pointer (some ⟨rb, 0, none⟩))).cell? ⟨B, 1, none⟩ = some (.int .i64 who) := (World.cell?_setCell_other _ _ _ _ (by first | (simp; done) | (simp; omega))).trans ((World.cell?_setCell_other _ _ _ _ (by first | (simp; done) | (simp; omega))).trans v1)
  have t2 : ((wL.setCell ⟨yb, q * 2, none⟩ (.pointer (some ⟨db, 0, none⟩))).setCell ⟨yb, q * 2 + 1, none⟩ (.pointer (some ⟨rb, 0, none⟩))).cell? ⟨C, 0, none⟩ = some (.pointer (some ⟨db, 0, none⟩)) := (World.cell?_setCell_other _ _ _ _ (by first | (simp; done) | (simp; omega))).trans ((World.cell?_setCell_other _ _ _ _ (by first | (simp; done) | (simp; omega))).trans u0)
  have t3 : ((wL.setCell ⟨yb, q * 2, none⟩ (.pointer (some ⟨db, 0, none⟩))).setCell ⟨yb, q * 2 + 1, none⟩ (.pointer (some ⟨rb, 0, none⟩))).cell? ⟨C, 1, none⟩ = some (.pointer (some ⟨rb, 0, none⟩)) := (World.cell?_setCell_other _ _ _ _ (by first | (simp; done) | (simp; omega))).trans ((World.cell?_setCell_other _ _ _ _ (by first | (simp; done) | (simp; omega))).trans u1)
  clear zE BE ff

  go_region_held3 (fun w' => w'.cell? ⟨B, 1, none⟩ = some (.int .i64 who) ∧ w'.cell? ⟨C, 0, none⟩ = some (.pointer (some ⟨db, 0, none⟩)) ∧ w'.cell? ⟨C, 1, none⟩ = some (.pointer (some ⟨rb, 0, none⟩))) (first | exact ⟨v1, u0, u1⟩ | exact ⟨t1, t2, t3⟩) (fail)
  go_wp2_with fail
  go_ret
  obtain ⟨a', b', hA⟩ := hAE
  exact ⟨rfl, a', b', hA.drew⟩

end Go.Proofs.Ytejfbjjhnhlagaa
