/- done, at Write. -/
import Derived.Test.YtejfbjjhnhlagaaPP3
import Derived.Deep.RegionHeld3
namespace Go.Proofs.Ytejfbjjhnhlagaa
open Go.RowKit Go.Maps
set_option maxRecDepth 100000

theorem lies_pre {w : World} {g n c : Nat} {bs cs : List Int} {tl : List Value} (h : w.heap[g]? = some (bt (bs ++ cs) tl)) (hn : bs.length = n) (hc : n ≤ c) : Lies w (some ⟨g, 0, none⟩) n c bs :=
  Lies.bt (tl := cs.map (Value.int .u8) ++ tl) (by rw [h]; simp) hn hc
theorem own_of_bt {w : World} {g n : Nat} {bs : List Int} {tl : List Value} (h : w.heap[g]? = some (bt bs tl)) (hn : bs.length = n) (hm : n + tl.length ≤ maxLen) : w.ownsRow 0 5 1 (.slice (some ⟨g, 0, none⟩) n (n + tl.length)) n (bs.map (Value.int .u8)) :=
  ⟨by simp [hn], Or.inr ⟨g, n + tl.length, _, rfl, Nat.zero_le _, h, by omega, hm, by simp [hn], by simp [← hn]⟩⟩

set_option maxHeartbeats 4000000 in
theorem done_write {w : World} {base yb : Nat} {s : Int} {N : Nat} {a b : Nat → Value} {T : Nat → Option PairT} {bv : Value} {es : List Ke} (h : Pz w base yb s N a b T bv es (fun _ => False)) (hbal : Bal T) (hT2 : T 2 = none) {q : Nat} (hq : q ≤ 1) {t : PairT} (ht : T q = some t) (hN : N ≤ 1000000000) (hes : es.length ≤ 900000000000) (k1 k3 : Value) (x : Int) (da : Option Addr) (dn dc : Nat) (bs : List Int) (ka : Option Addr) (kn kc : Nat) (ks : List Bool) (hok : OpOk w base da dn dc bs ka kn kc ks) :
    Calls Try.prog 7 #[.pointer (some ⟨yb, 0, none⟩), .agg #[.pointer (some ⟨t.db, 0, none⟩), .pointer (some ⟨t.rb, 0, none⟩)], .agg #[.int .i64 4, k1, .int .i64 x, k3, .slice da dn dc, .slice ka kn kc]] w fun e w' => e = .returned (.bool true) ∧ Aft w w' base yb s (N + 1) a b (es.length + 3) := by
  have hNes : N ≤ 1000000000 ∧ es.length ≤ 900000000000 := ⟨hN, hes⟩
  clear hNes
  have hSU := hbal q t ht
  obtain ⟨db, rb, S, U, k, F, R⟩ := t
  simp only at hSU
  subst hSU
  obtain ⟨W, hW⟩ : ∃ W, (w.alloc (.cells #[.pointer (some ⟨db, 0, none⟩), .pointer (some ⟨rb, 0, none⟩)] 28)).alloc (.cells #[.int .i64 4, k1, .int .i64 x, k3, .slice da dn dc, .slice ka kn kc] 36) = W := ⟨_, rfl⟩
  have hbW : Below w.heap.size w W := by rw [← hW]; exact alloc2 _ _ _
  have bx := Box2.new w 28 36 (.pointer (some ⟨db, 0, none⟩)) (.pointer (some ⟨rb, 0, none⟩)) (.int .i64 4) k1 (.int .i64 x) k3 (.slice da dn dc) (.slice ka kn kc)
  rw [hW] at bx
  have hs : W.heap.size = w.heap.size + 2 := by rw [← hW]; simp
  obtain ⟨z0, f0⟩ := h.below hbW
  replace z0 := z0.less (P' := fun i => i = w.heap.size ∨ i = w.heap.size + 1) (fun i hi => Or.inr (by omega))
  have B0 := f0.blw
  have hpn := (z0.two (by omega) ht).2.2.1.pn
  simp only at hpn
  obtain ⟨B, hB⟩ : ∃ B, w.heap.size = B := ⟨_, rfl⟩
  have HB : Hid (w.heap.size = B) := hB
  rw [hB] at bx z0
  clear h hs f0
  have p0 := bx.p0
  have o0 := bx.o0
  go_enter Try.func7, Try.ntmps7
  have o4 := bx.o4
  have hokW := hok.below B0
  go_wp2_with fail
  refine (roomy_any da dn dc bs W hok.dm hokW.d).mono ?_
  rintro e w1 ⟨g, tl, rfl, hg, hgb, hb1, hmx⟩
  obtain ⟨z1, f1⟩ := z0.below hb1
  have bx1 := bx.fr f1 (Or.inl rfl) (Or.inr rfl)
  have hg1 := heap_lt hgb
  replace z1 := z1.less (P' := fun i => i = B ∨ i = B + 1 ∨ i = g) (fun i hi => by
    rcases hi with r | r | r
    · exact Or.inl (Or.inl r)
    · exact Or.inl (Or.inr r)
    · exact Or.inr (by omega))
  have B1 := B0.trans f1.blw
  have hok1 := hok.below B1
  have hbl := hok.d.hlen
  have hdm := hok.dm
  obtain ⟨p0', p1', o0', o1', o2', o3', o4', o5'⟩ := bx1
  have z1d : Pz w1.drew base yb s N a b T bv es (fun i => i = B ∨ i = B + 1 ∨ i = g) := z1.drewN 1
  have hgd : w1.drew.heap[g]? = some (bt (bs ++ [201, 202, 203]) tl) := hgb
  have hLw : Lies w1.drew (some ⟨g, 0, none⟩) dn (dn + 3 + tl.length) bs := lies_pre hgd hbl (by omega)
  obtain ⟨dv, _, hPF, _, _⟩ := (z1d.two (by omega) ht).2.2
  have hFg : ∀ ad, (some ⟨g, 0, none⟩ : Option Addr) = some ad → ¬ F ad.block := fun ad had => by obtain rfl := Option.some.inj had; exact (hPF g (Or.inr (Or.inr rfl))).1
  have hci : (dn : Int) ≤ dn + 3 + tl.length := by omega
  have B1d : Below base w w1.drew := ⟨B1.os, B1.tape, B1.output, B1.size, B1.block⟩
  clear p0 o0 o4
  go_wp2_with fail
  go_region_held3 (fun w' => w'.cell? ⟨B, 0, none⟩ = some (.pointer (some ⟨db, 0, none⟩)) ∧ w'.cell? ⟨B + 1, 2, none⟩ = some (.int .i64 x) ∧ w'.cell? ⟨B + 1, 4, none⟩ = some (.slice da dn dc)) (first | exact ⟨p0', o2', o4'⟩ | exact ⟨y0, y2, y4⟩)
    (first
      | (go_at_call 11; refine (write_any dv x (some ⟨g, 0, none⟩) dn (dn + 3 + tl.length) bs hLw hok.dy hFg (by omega)).mono ?_; rintro e w2 ⟨rfl, hw2⟩; obtain ⟨z2, f2⟩ := z1d.dev (by omega) ht hw2 (Nat.le_succ N); have y0 : w2.cell? ⟨B, 0, none⟩ = some (.pointer (some ⟨db, 0, none⟩)) := f2.cell (Or.inl rfl) p0'; have y1 : w2.cell? ⟨B, 1, none⟩ = some (.pointer (some ⟨rb, 0, none⟩)) := f2.cell (Or.inl rfl) p1'; have y2 : w2.cell? ⟨B + 1, 2, none⟩ = some (.int .i64 x) := f2.cell (Or.inr (Or.inl rfl)) o2'; have y4 : w2.cell? ⟨B + 1, 4, none⟩ = some (.slice da dn dc) := f2.cell (Or.inr (Or.inl rfl)) o4'))
  have ht2 := upd_same T q (some (⟨db, rb, wrS S k x bs, S, k, grow F w1.drew w2, R⟩ : PairT))
  have hg2 := f2.blk (Or.inr (Or.inr rfl)) hgd
  have B2 := B1d.trans f2.blw
  have hok2 := hok.below B2
  obtain ⟨_, rv2, hPR, _, hRb⟩ := (z2.two (by omega) ht2).2.2
  clear p0' p1' o0' o1' o2' o3' o4' o5' z1 z1d dv hw2 y0 hgb hgd
  go_wp2_with fail
  refine (refWrite_any rv2 (by omega) x da dn dc bs hok2.d hok.dy (fun ad had h0 r => by have := hok.dl ad had h0; have := hRb _ r; omega)).mono ?_
  rintro e w3 ⟨rfl, hw3⟩
  obtain ⟨z3, f3⟩ := z2.ref (by omega) ht2 hw3
  have hg3 := f3.blk (Or.inr (Or.inr rfl)) hg2
  have B3 := B2.trans f3.blw
  have hok3 := hok.below B3
  have v4 : w3.cell? ⟨B + 1, 4, none⟩ = some (.slice da dn dc) := f3.cell (Or.inr (Or.inl rfl)) y4
  have ho3 : ∀ r, r ≠ q → upd (upd T q (some (⟨db, rb, wrS S k x bs, S, k, grow F w1.drew w2, R⟩ : PairT))) q (some (⟨db, rb, wrS S k x bs, wrS S k x bs, k, grow F w1.drew w2, grow R w2 w3⟩ : PairT)) r = T r := fun r hr => by rw [upd_other _ _ hr, upd_other _ _ hr]
  have ht3 := upd_same (upd T q (some (⟨db, rb, wrS S k x bs, S, k, grow F w1.drew w2, R⟩ : PairT))) q (some (⟨db, rb, wrS S k x bs, wrS S k x bs, k, grow F w1.drew w2, grow R w2 w3⟩ : PairT))
  replace z3 : Pz w3 base yb s (N + 1) a b (upd (upd T q (some (⟨db, rb, wrS S k x bs, S, k, grow F w1.drew w2, R⟩ : PairT))) q (some (⟨db, rb, wrS S k x bs, wrS S k x bs, k, grow F w1.drew w2, grow R w2 w3⟩ : PairT))) bv es (fun i => i = B ∨ i = B + 1 ∨ i = g) := z3
  have HE2 : Hid _ := ht3
  have HO2 : Hid _ := ho3
  generalize upd (upd T q (some (⟨db, rb, wrS S k x bs, S, k, grow F w1.drew w2, R⟩ : PairT))) q (some (⟨db, rb, wrS S k x bs, wrS S k x bs, k, grow F w1.drew w2, grow R w2 w3⟩ : PairT)) = T3 at *
  clear ht3 ho3 z2 rv2 hw3 ht2 y1 y2 y4 hPR hRb
  go_wp2_with fail
  refine (roomy_any da dn dc bs w3 hok.dm hok3.d).mono ?_
  rintro e w4 ⟨g4, tl4, rfl, hg4, hgb4, hb4, _⟩
  obtain ⟨z4, f4⟩ := z3.below hb4
  have hgg := f4.blk (Or.inr (Or.inr rfl)) hg3
  have B4 := B3.trans f4.blw
  replace z4 := z4.less (P' := fun i => i = g) (fun i hi => Or.inl (Or.inr (Or.inr hi)))
  have la := Lies.bt (n := dn + 3) (c := dn + 3 + tl.length) hgg (by simp [hbl]) (by omega)
  have lb := Lies.bt (n := dn + 3) (c := dn + 3 + tl4.length) hgb4 (by simp [hbl]) (by omega)
  clear v4 z3
  go_wp2_with fail
  refine (same_true (some ⟨g, 0, none⟩) (some ⟨g4, 0, none⟩) (dn + 3) (dn + 3) (dn + 3 + tl.length) (dn + 3 + tl4.length) (bs ++ [201, 202, 203]) w4 (by omega) la lb).mono ?_
  rintro e w5 ⟨rfl, m5, rfl⟩
  have z5 := z4.drewN m5
  have hg5 : (w4.drewN m5).heap[g]? = some (bt (bs ++ [201, 202, 203]) tl) := hgg
  have B5 : Below base w (w4.drewN m5) := below_drewN B4 m5
  obtain ⟨w6, hw6⟩ : ∃ w6, w4.drewN m5 = w6 := ⟨_, rfl⟩
  rw [hw6] at z5 hg5 B5 ⊢
  clear hw6 z4 la lb hgb4 hgg f4 hb4
  generalize wrE S k x dn = E
  go_wp2_with (first | (go_at_call 18; refine (num_id _ _).mono ?_; rintro e wn ⟨rfl, hwn⟩; subst wn))
  have hg5d : w6.drew.heap[g]? = some (bt (bs ++ [201, 202, 203]) tl) := hg5
  have zw6d : Pz w6.drew base yb s (N + 1) a b T3 bv es (fun i => i = g) := z5.drewN 1
  have Bd : Below base w6 w6.drew := ⟨rfl, rfl, rfl, Nat.le_refl _, fun _ _ => rfl⟩
  have c4 : w6.cell? ⟨yb, 4, none⟩ = some bv := z5.cells.2.2.2.2.1
  have HM : Hid (Calls Try.prog 25 #[.pointer (some ⟨yb, 0, none⟩)] w6.drew fun e w' => ∃ m, e = .returned (.int .u8 m) ∧ w' = w6.drew) := mark_any zw6d
  have HK : Hid (∀ m, Calls Try.prog 24 #[bv, .slice (some ⟨g, 0, none⟩) (dn + 3) (dn + 3 + tl.length), .int .u8 m] w6.drew fun e w' => ∃ va vn vc, e = .returned (.slice va vn vc) ∧ w'.cell? ⟨yb, 4, none⟩ = some bv ∧ w'.frozen? ⟨yb, 4, none⟩ = false ∧ (∃ fs : List Ke, fs.length = 3 ∧ Pz (w'.setCell ⟨yb, 4, none⟩ (.slice va vn vc)) base yb s (N + 1) a b T3 (.slice va vn vc) (es ++ fs) (fun i => (fun i => i = g) i ∧ (.slice (some ⟨g, 0, none⟩) (dn + 3) (dn + 3 + tl.length) : Value).ownBlock ≠ some i)) ∧ Fr (fun i => (fun i => i = g) i ∧ (.slice (some ⟨g, 0, none⟩) (dn + 3) (dn + 3 + tl.length) : Value).ownBlock ≠ some i) base w6.drew (w'.setCell ⟨yb, 4, none⟩ (.slice va vn vc))) := fun m => keep_py zw6d (.slice (some ⟨g, 0, none⟩) (dn + 3) (dn + 3 + tl.length)) (dn + 3) _ (own_of_bt hg5d (by simp [hbl]) hmx) (fun i hi => (Option.some.inj hi).symm) (by omega) (by omega) m
  go_region_law
    (first
      | (go_simp; go_at_call 25; refine HM.out.mono ?_; rintro e wn ⟨mk, rfl, hwn⟩; subst wn; dsimp only)
      | (go_simp; go_at_call 24; refine (HK.out mk).mono ?_; rintro e wK ⟨va, vn, vc, rfl, cK, fK, ⟨fs, hfs, zK⟩, fKK⟩; dsimp only))
  all_goals (
    go_wp2_with fail
    go_ret
    refine ⟨rfl, Aft.of zK hbal hT2 hq HO2.out HE2.out rfl (by rw [List.length_append]; omega) (Nat.le_refl _) ((B5.trans Bd).trans fKK.blw)⟩)
end Go.Proofs.Ytejfbjjhnhlagaa
