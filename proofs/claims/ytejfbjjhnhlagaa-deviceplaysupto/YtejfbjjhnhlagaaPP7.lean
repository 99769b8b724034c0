/- looked, at Size, Power, Pending. -/
import Derived.Test.YtejfbjjhnhlagaaPP6
import Derived.Deep.RegionHeldLaw
namespace Go.Proofs.Ytejfbjjhnhlagaa
open Go.RowKit Go.Maps
set_option maxRecDepth 100000

theorem PList.fr {P : Nat → Prop} {base : Nat} {w w' : World} {G : Nat} {gs : List Nat} {ps : List (Nat × List Int)} (h : PList w G gs ps) (f : Fr P base w w') (hG : P G) (hg : ∀ g ∈ gs, P g) : PList w' G gs ps :=
  ⟨f.blk hG h.row, h.len, fun i p g h1 h2 => f.blk (hg g (List.mem_of_getElem? h2)) (h.dat i p g h1 h2), h.nod, h.out⟩
/-- The list, as far as it is not yet given away. -/
structure PTail (w : World) (G : Nat) (gs : List Nat) (ps : List (Nat × List Int)) (j : Nat) : Prop where
  row : w.heap[G]? = some (.cells (pc ps gs).toArray 69 (0, 0))
  dat : ∀ (i : Nat) p g, j ≤ i → ps[i]? = some p → gs[i]? = some g → w.heap[g]? = some (bl p.2)
theorem cell_four_new (w : World) (x y z u : Value) (t : TypeId) : ∀ j v, [x, y, z, u][j]? = some v → (w.alloc (.cells #[x, y, z, u] t)).cell? ((⟨w.heap.size, 0, none⟩ : Addr).add j) = some v := by
  intro j v hj
  match j, hj with
  | 0, hj => simp at hj; subst hj; simp [Addr.add]
  | 1, hj => simp at hj; subst hj; simp [Addr.add]
  | 2, hj => simp at hj; subst hj; simp [Addr.add]
  | 3, hj => simp at hj; subst hj; simp [Addr.add]
theorem drop_mem {gs : List Nat} {i j g : Nat} (h : gs[i]? = some g) (hj : j ≤ i) : g ∈ gs.drop j := by
  refine List.mem_iff_getElem?.2 ⟨i - j, ?_⟩
  rw [List.getElem?_drop, show j + (i - j) = i by omega]; exact h
theorem drop_ne {gs : List Nat} {j g : Nat} (hn : gs.Nodup) (h : gs[j]? = some g) : ∀ x, x ∈ gs.drop (j + 1) → x ∈ gs.drop j ∧ g ≠ x := fun x hx => by
  have hj := (List.getElem?_eq_some_iff.1 h)
  have e : gs.drop j = g :: gs.drop (j + 1) := by rw [List.drop_eq_getElem_cons hj.1, hj.2]
  have hn' : (gs.drop j).Nodup := hn.sublist (List.drop_sublist j gs)
  rw [e] at hn' ⊢
  refine ⟨List.mem_cons_of_mem _ hx, fun q => ?_⟩
  subst q
  exact (List.nodup_cons.1 hn').1 hx

set_option maxHeartbeats 4000000 in
theorem looked_look {w : World} {base yb : Nat} {s : Int} {N : Nat} {a b : Nat → Value} {T : Nat → Option PairT} {bv : Value} {es : List Ke} (h : Pz w base yb s N a b T bv es (fun _ => False)) (hbal : Bal T) (hT2 : T 2 = none) {q : Nat} (hq : q ≤ 1) {t : PairT} (ht : T q = some t) (hN : N ≤ 1000000000) (hes : es.length ≤ 900000000000) (k1 k2 k3 k4 k5 : Value) :
    Calls Try.prog 6 #[.pointer (some ⟨yb, 0, none⟩), .agg #[.pointer (some ⟨t.db, 0, none⟩), .pointer (some ⟨t.rb, 0, none⟩)], .agg #[.int .i64 7, k1, k2, k3, k4, k5]] w fun e w' => e = .returned (.bool true) ∧ Aft w w' base yb s (N + 1) a b (es.length + 3 * N + 3) := by
  have hNes : N ≤ 1000000000 ∧ es.length ≤ 900000000000 := ⟨hN, hes⟩
  clear hNes
  have hSU := hbal q t ht
  obtain ⟨db, rb, S, U, k, F, R⟩ := t
  simp only at hSU
  subst hSU
  obtain ⟨W, hW⟩ : ∃ W, (w.alloc (.cells #[.pointer (some ⟨db, 0, none⟩), .pointer (some ⟨rb, 0, none⟩)] 28)).alloc (.cells #[.int .i64 7, k1, k2, k3, k4, k5] 36) = W := ⟨_, rfl⟩
  have hbW : Below w.heap.size w W := by rw [← hW]; exact alloc2 _ _ _
  have bx := Box2.new w 28 36 (.pointer (some ⟨db, 0, none⟩)) (.pointer (some ⟨rb, 0, none⟩)) (.int .i64 7) k1 k2 k3 k4 k5
  rw [hW] at bx
  have hs : W.heap.size = w.heap.size + 2 := by rw [← hW]; simp
  obtain ⟨z0, f0⟩ := h.below hbW
  replace z0 := z0.less (P' := fun i => i = w.heap.size ∨ i = w.heap.size + 1) (fun i hi => Or.inr (by omega))
  have B0 := f0.blw
  have hpn := (z0.two (by omega) ht).2.2.1.pn
  simp only at hpn
  obtain ⟨B, hB⟩ : ∃ B, w.heap.size = B := ⟨_, rfl⟩
  have HB : Hid (w.heap.size = B) := hB
  rw [hB] at bx z0
  clear h hs f0
  have p0 := bx.p0
  have o0 := bx.o0
  go_enter Try.func6, Try.ntmps6
  have hgood := (z0.two (by omega) ht).2.2.1.good
  have hdl : ∀ p ∈ S.pend, p.2.length = 512 := fun p hp => (hgood.pend p hp).2.1
  go_wp2_with fail
  refine (pending_any (z0.two (by omega) ht).2.2.1 (by omega)).mono ?_
  rintro e w1 ⟨⟨G, gs, rfl, hPL, hG, hgs⟩, hw1⟩
  obtain ⟨z1, f1⟩ := z0.same (by omega) ht hw1
  have bx1 := bx.fr f1 (Or.inl rfl) (Or.inr rfl)
  have hGl := heap_lt hPL.row
  have hgl : ∀ g ∈ gs, g < w1.heap.size := fun g hg => by
    obtain ⟨i, hi⟩ := List.mem_iff_getElem?.1 hg
    have hlt : i < S.pend.length := by rw [← hPL.len]; exact (List.getElem?_eq_some_iff.1 hi).1
    exact heap_lt (hPL.dat i _ _ (List.getElem?_eq_getElem hlt) hi)
  replace z1 := z1.less (P' := fun i => i = B ∨ i = G ∨ i ∈ gs) (fun i hi => by
    rcases hi with r | r | r
    · exact Or.inl (Or.inl r)
    · exact Or.inr (by omega)
    · exact Or.inr ⟨hgs i r, hgl i r⟩)
  have hBG : B ≠ G := by have := hbW.size; have := bx.p0; have := World.block_lt_of_cell? W _ this; simp at this; omega
  have hBg : B ∉ gs := fun r => by have := hgs B r; have := World.block_lt_of_cell? W _ bx.p0; simp at this; omega
  have ht1 := upd_same T q (some (⟨db, rb, S, S, k, F, R⟩ : PairT))
  have HO : Hid (∀ r, r ≠ q → upd T q (some (⟨db, rb, S, S, k, F, R⟩ : PairT)) r = T r) := fun r hr => upd_other _ _ hr
  have HE : Hid (upd T q (some (⟨db, rb, S, S, k, F, R⟩ : PairT)) q = some (⟨db, rb, S, S, k, F, R⟩ : PairT)) := ht1
  have p1 := bx1.p1
  have p0' := bx1.p0
  have rv := (z1.two (by omega) ht1).2.2.2.1
  have B1 := B0.trans f1.blw
  generalize upd T q (some (⟨db, rb, S, S, k, F, R⟩ : PairT)) = T1 at *
  obtain ⟨L, hL⟩ : ∃ L, S.pend.length = L := ⟨_, rfl⟩
  have HL : Hid (S.pend.length = L) := hL
  rw [hL] at hpn ⊢
  have hLi : (L : Int) ≤ 1000000000 := by omega
  clear p0 o0 z0 hw1 bx1
  go_wp2_with fail
  refine (refPending_any rv (by omega)).mono ?_
  rintro e w2 ⟨⟨ao, c2, rfl, lb⟩, hb2⟩
  rw [hL] at lb ⊢
  clear hL
  obtain ⟨z2, f2⟩ := z1.below hb2
  replace z2 := z2.less (P' := fun i => i = B ∨ i = G ∨ i ∈ gs) (fun i hi => Or.inl hi)
  have hPL2 := hPL.turns (Below.turns hb2 (fun _ => False)) id (fun _ _ => id)
  have la := hPL2.read HL.out hdl
  have B2 := B1.trans f2.blw
  have q0 : w2.cell? ⟨B, 0, none⟩ = some (.pointer (some ⟨db, 0, none⟩)) := f2.cell (Or.inl rfl) p0'
  have q1 : w2.cell? ⟨B, 1, none⟩ = some (.pointer (some ⟨rb, 0, none⟩)) := f2.cell (Or.inl rfl) p1
  clear p1 p0' z1 rv hPL
  go_wp2_with fail
  refine (samePend_any (some ⟨G, 0, none⟩) ao L L c2 S.pend S.pend w2 (by omega) la lb).mono ?_
  rintro e w3 ⟨rfl, m3, rfl⟩
  rw [decide_eq_true rfl]
  have z3 := z2.drewN m3
  have B3 : Below base w (w2.drewN m3) := below_drewN B2 m3
  have hPL3 : PList (w2.drewN m3) G gs S.pend := ⟨hPL2.row, hPL2.len, hPL2.dat, hPL2.nod, hPL2.out⟩
  have q0' : (w2.drewN m3).cell? ⟨B, 0, none⟩ = some (.pointer (some ⟨db, 0, none⟩)) := q0
  have q1' : (w2.drewN m3).cell? ⟨B, 1, none⟩ = some (.pointer (some ⟨rb, 0, none⟩)) := q1
  obtain ⟨w4, hw4⟩ : ∃ w4, w2.drewN m3 = w4 := ⟨_, rfl⟩
  rw [hw4] at z3 B3 hPL3 q0' q1' ⊢
  clear hw4 z2 la lb hPL2 q0 q1
  have z4 : Pz w4.drew base yb s N a b T1 bv es (fun i => i = B ∨ i = G ∨ i ∈ gs) := z3.drewN 1
  have B4 : Below base w w4.drew := ⟨B3.os, B3.tape, B3.output, B3.size, B3.block⟩
  have ht4 := HE.out
  go_wp2_with fail
  go_region_held3 (fun w' => w'.cell? ⟨B, 0, none⟩ = some (.pointer (some ⟨db, 0, none⟩)) ∧ w'.cell? ⟨B, 1, none⟩ = some (.pointer (some ⟨rb, 0, none⟩))) (first | exact ⟨q0', q1'⟩ | exact ⟨r0, r1⟩ | exact ⟨v0, v1⟩)
    (first
      | (go_at_call 31; refine (size_any (z4.two (by omega) ht4).2.2.1).mono ?_; rintro e w5 ⟨rfl, hw5⟩; obtain ⟨z5, f5⟩ := z4.same (by omega) ht4 hw5; have r0 : w5.cell? ⟨B, 0, none⟩ = some (.pointer (some ⟨db, 0, none⟩)) := f5.cell (Or.inl rfl) q0'; have r1 : w5.cell? ⟨B, 1, none⟩ = some (.pointer (some ⟨rb, 0, none⟩)) := f5.cell (Or.inl rfl) q1'; have ht5 := upd_same T1 q (some (⟨db, rb, S, S, k, F, R⟩ : PairT)); obtain ⟨rgl, rtl, rpv, rvs, rX, _, _⟩ := (z5.two (by omega) ht5).2.2.2.1)
      | (go_at_call 32; refine (refSize_any rX).mono ?_; rintro e wn ⟨rfl, hwn⟩; subst wn)
      | (go_at_call 33; refine (power_any (z5.two (by omega) ht5).2.2.1).mono ?_; rintro e w6 ⟨rfl, hw6⟩; obtain ⟨z6, f6⟩ := z5.same (by omega) ht5 hw6; have v0 : w6.cell? ⟨B, 0, none⟩ = some (.pointer (some ⟨db, 0, none⟩)) := f6.cell (Or.inl (Or.inl rfl)) r0; have v1 : w6.cell? ⟨B, 1, none⟩ = some (.pointer (some ⟨rb, 0, none⟩)) := f6.cell (Or.inl (Or.inl rfl)) r1; have ht6 := upd_same (upd T1 q (some (⟨db, rb, S, S, k, F, R⟩ : PairT))) q (some (⟨db, rb, S, S, k, F, R⟩ : PairT)); have rw6 := (z6.two (by omega) ht6).2.2.2.1)
      | (go_at_call 34; refine (refPower_any rw6).mono ?_; rintro e wn ⟨rfl, hwn⟩; subst wn))
  have B6 := (B4.trans f5.blw).trans f6.blw
  have hPL4 : PList w4.drew G gs S.pend := ⟨hPL3.row, hPL3.len, hPL3.dat, hPL3.nod, hPL3.out⟩
  have hPL5 := hPL4.fr f5 (Or.inr (Or.inl rfl)) (fun g hg => Or.inr (Or.inr hg))
  have hPL6 := hPL5.fr f6 (Or.inl (Or.inr (Or.inl rfl))) (fun g hg => Or.inl (Or.inr (Or.inr hg)))
  replace z6 := z6.less (P' := fun i => i = G ∨ i ∈ gs) (fun i hi => Or.inl (Or.inl (Or.inr hi)))
  have HO6 : Hid (∀ r, r ≠ q → upd (upd T1 q (some (⟨db, rb, S, S, k, F, R⟩ : PairT))) q (some (⟨db, rb, S, S, k, F, R⟩ : PairT)) r = T r) := fun r hr => by rw [upd_other _ _ hr, upd_other _ _ hr]; exact HO.out r hr
  have HE6 : Hid _ := ht6
  replace z6 : Pz w6 base yb s N a b (upd (upd T1 q (some (⟨db, rb, S, S, k, F, R⟩ : PairT))) q (some (⟨db, rb, S, S, k, F, R⟩ : PairT))) bv es (fun i => i = G ∨ i ∈ gs) := z6
  generalize upd (upd T1 q (some (⟨db, rb, S, S, k, F, R⟩ : PairT))) q (some (⟨db, rb, S, S, k, F, R⟩ : PairT)) = T6 at *
  clear HO HE ht4 ht5 ht6 z3 z4 z5 hw5 hw6 r0 r1 v0 v1 q0' q1' rX rw6 hPL3 hPL4 hPL5 f5 f6
  obtain ⟨wB, hwB⟩ : ∃ wB, wB = w6 := ⟨_, rfl⟩
  subst hwB
  have hgl2 := hPL6.len
  have hnod := hPL6.nod
  have hout := hPL6.out
  go_wp2_with fail
  go_loopw [15] (fun i wr => ∃ (j : Nat) (bvj : Value) (esj : List Ke), j ≤ L ∧ i = .int .i64 j ∧ esj.length = es.length + 3 * j ∧ Pz wr base yb s N a b T6 bvj esj (fun i => i = G ∨ i ∈ gs.drop j) ∧ PTail wr G gs S.pend j ∧ Below base w wr) (fun i _ => L - (intOf i).toNat)
  case atStart => exact ⟨0, bv, es, Nat.zero_le _, rfl, by omega, z6, ⟨hPL6.row, fun i p g _ h1 h2 => hPL6.dat i p g h1 h2⟩, B6⟩
  case round =>
    obtain ⟨j, bvj, esj, hj, rfl, hej, zj, hPj, Bj⟩ := hrel
    by_cases hlt : j < L
    · have hji : (j : Int) < L := by omega
      obtain ⟨p, hp⟩ : ∃ p, S.pend[j]? = some p := ⟨_, List.getElem?_eq_getElem (by rw [HL.out]; exact hlt)⟩
      obtain ⟨g, hg⟩ : ∃ g, gs[j]? = some g := ⟨_, List.getElem?_eq_getElem (by rw [hgl2, HL.out]; exact hlt)⟩
      have x1 : wr.cell? ⟨G, j * 2 + 1, none⟩ = some (.slice (some ⟨g, 0, none⟩) 512 512) := by
        have := (pc_at _ _ j p g hp hg).2
        simp only [World.cell?, hPj.row]
        simpa using this
      have hgb := hPj.dat j p g (Nat.le_refl _) hp hg
      have hgbd : wr.drew.heap[g]? = some (bt p.2 []) := bl_bt hgb
      have hpl := hdl p (List.mem_of_getElem? hp)
      have zd : Pz wr.drew base yb s N a b T6 bvj esj (fun i => i = G ∨ i ∈ gs.drop j) := zj.drewN 1
      have Bd : Below base w wr.drew := ⟨Bj.os, Bj.tape, Bj.output, Bj.size, Bj.block⟩
      obtain ⟨_, _, _, _, c4, c5, _⟩ := zj.cells
      have HK : Hid (∀ m, Calls Try.prog 24 #[bvj, .slice (some ⟨g, 0, none⟩) 512 512, .int .u8 m] wr.drew fun e w' => ∃ va vn vc, e = .returned (.slice va vn vc) ∧ w'.cell? ⟨yb, 4, none⟩ = some bvj ∧ w'.frozen? ⟨yb, 4, none⟩ = false ∧ (∃ fs : List Ke, fs.length = 3 ∧ Pz (w'.setCell ⟨yb, 4, none⟩ (.slice va vn vc)) base yb s N a b T6 (.slice va vn vc) (esj ++ fs) (fun i => (i = G ∨ i ∈ gs.drop j) ∧ (Value.slice (some ⟨g, 0, none⟩) 512 512).ownBlock ≠ some i)) ∧ Fr (fun i => (i = G ∨ i ∈ gs.drop j) ∧ (Value.slice (some ⟨g, 0, none⟩) 512 512).ownBlock ≠ some i) base wr.drew (w'.setCell ⟨yb, 4, none⟩ (.slice va vn vc))) := fun m => keep_py zd _ 512 _ (own_of_bt hgbd hpl (by decide)) (fun i hi => by obtain rfl := Option.some.inj hi; exact Or.inr (drop_mem hg (Nat.le_refl _))) (by omega) (by omega) m
      have HN : Hid (∀ (wN : World) (bvN : Value) (fs : List Ke), fs.length = 3 → Pz wN base yb s N a b T6 bvN (esj ++ fs) (fun i => (i = G ∨ i ∈ gs.drop j) ∧ (Value.slice (some ⟨g, 0, none⟩) 512 512).ownBlock ≠ some i) → Fr (fun i => (i = G ∨ i ∈ gs.drop j) ∧ (Value.slice (some ⟨g, 0, none⟩) 512 512).ownBlock ≠ some i) base wr.drew wN → (esj ++ fs).length = es.length + 3 * (j + 1) ∧ Pz wN base yb s N a b T6 bvN (esj ++ fs) (fun i => i = G ∨ i ∈ gs.drop (j + 1)) ∧ PTail wN G gs S.pend (j + 1) ∧ Below base w wN) := fun wN bvN fs hfs zN fN => by
        have hGP : (G = G ∨ G ∈ gs.drop j) ∧ (Value.slice (some ⟨g, 0, none⟩) 512 512).ownBlock ≠ some G := ⟨Or.inl rfl, fun r => hout (by rw [← Option.some.inj r]; exact List.mem_of_getElem? hg)⟩
        have hgP : ∀ x, x ∈ gs.drop (j + 1) → (x = G ∨ x ∈ gs.drop j) ∧ (Value.slice (some ⟨g, 0, none⟩) 512 512).ownBlock ≠ some x := fun x hx => ⟨Or.inr (drop_ne hnod hg x hx).1, fun r => (drop_ne hnod hg x hx).2 (Option.some.inj r)⟩
        refine ⟨by rw [List.length_append]; omega, zN.less (fun i hi => ?_), ⟨fN.blk hGP hPj.row, fun i p' g' hi h1 h2 => fN.blk (hgP g' (drop_mem h2 hi)) (hPj.dat i p' g' (by omega) h1 h2)⟩, Bd.trans fN.blw⟩
        rcases hi with r | r
        · subst r; exact hGP
        · exact hgP i r
      clear hPj zj zd hgb hgbd hp hg Bd
      go_wp2_with fail
      go_region_law
        (first
          | (go_simp; go_at_call 24; refine (HK.out _).mono ?_; rintro e wK ⟨va, vn, vc, rfl, cK, fK, ⟨fs, hfs, zK⟩, fKK⟩; dsimp only))
      all_goals (
        have hNN := HN.out _ _ fs hfs zK fKK
        clear zK fKK cK fK HK HN c4 c5 x1
        go_wp2_with fail
        go_roundw
        case rel => exact ⟨j + 1, _, esj ++ fs, by omega, by go_num, hNN⟩
        case measure => simp [intOf]; omega)
    · obtain rfl : j = L := by omega
      have hji : ¬ (j : Int) < j := by omega
      have hlen : (pc S.pend gs).length = j * 2 := by rw [pc_len _ _ hgl2, HL.out]
      have hrow0 := hPj.row
      have zG := zj.less (P' := fun i => i = G) (fun i hi => Or.inl hi)
      obtain ⟨wC, hwC⟩ : ∃ wC, wC = wr := ⟨_, rfl⟩
      subst hwC
      clear hPj zj hPL6 z6
      go_wp2_with fail
      go_loopw [16] (fun i wr => ∃ (t : Nat) (cur : List Value), t ≤ j ∧ i = .int .i64 t ∧ cur.length = j * 2 ∧ wr.heap[G]? = some (.cells cur.toArray 69 (0, 0)) ∧ Pz wr base yb s N a b T6 bvj esj (fun i => i = G) ∧ Below base w wr) (fun i _ => j - (intOf i).toNat)
      case atStart => exact ⟨0, _, Nat.zero_le _, rfl, hlen, hrow0, zG, Bj⟩
      case round =>
        obtain ⟨t, cur, htj, rfl, hcl, hcur, zt, Bt⟩ := hrel
        by_cases hlt2 : t < j
        · have hti : (t : Int) < j := by omega
          have k0 : wr.cell? ⟨G, t * 2, none⟩ = some (cur[t * 2]'(by omega)) := by simp [World.cell?, hcur]
          have k1' : wr.cell? ⟨G, t * 2 + 1, none⟩ = some (cur[t * 2 + 1]'(by omega)) := by simp [World.cell?, hcur]
          have n0 : wr.frozen? ⟨G, t * 2, none⟩ = false := by simp [World.frozen?, hcur]
          have n1 : wr.frozen? ⟨G, t * 2 + 1, none⟩ = false := by simp [World.frozen?, hcur]
          have hT : Turns (fun i => i = G) wr ((wr.setCell ⟨G, t * 2, none⟩ (.int .i64 (-7))).setCell ⟨G, t * 2 + 1, none⟩ (.slice none 0 0)) := (Turns.cell wr G _ _).trans (Turns.cell _ G _ _) (fun _ _ h => h)
          obtain ⟨zN, fN⟩ := zt.free hT (fun i hi => hi)
          have hcN : ((wr.setCell ⟨G, t * 2, none⟩ (.int .i64 (-7))).setCell ⟨G, t * 2 + 1, none⟩ (.slice none 0 0)).heap[G]? = some (.cells ((cur.set (t * 2) (.int .i64 (-7))).set (t * 2 + 1) (.slice none 0 0)).toArray 69 (0, 0)) := by
            rw [heap_setCell_same _ _ _ _ _ _ (heap_setCell_same _ _ _ _ _ _ hcur)]
            simp
          have BN := Bt.trans fN.blw
          replace zN := zN.less (P' := fun i => i = G) (fun i hi => Or.inl hi)
          have hclN : ((cur.set (t * 2) (.int .i64 (-7))).set (t * 2 + 1) (.slice none 0 0)).length = j * 2 := by simp [hcl]
          have HZ : Hid _ := zN
          have HC : Hid _ := hcN
          have HBN : Hid _ := BN
          generalize cur[t * 2]'(by omega) = u0 at k0
          generalize cur[t * 2 + 1]'(by omega) = u1 at k1'
          clear zt zN hcN BN hT fN hcur Bt
          go_wp2_with fail
          go_roundw
          case rel => exact ⟨t + 1, _, by omega, by go_num, hclN, HC.out, HZ.out, HBN.out⟩
          case measure => simp [intOf]; omega
        · obtain rfl : t = j := by omega
          have hti : ¬ (t : Int) < t := by omega
          obtain ⟨i1, hi', hy0, hy1, hy2⟩ := info_parts Try.info69
          have hown : wr.ownsRow 0 69 2 (.slice (some ⟨G, 0, none⟩) t t) t cur := ⟨hcl, Or.inr ⟨G, t, cur.toArray, rfl, Nat.zero_le _, hcur, Nat.le_refl _, by unfold maxLen; omega, by simp [hcl], by simp [← hcl]⟩⟩
          obtain ⟨wD, hwD⟩ : ∃ wD, wD = wr := ⟨_, rfl⟩
          subst hwD
          clear hcur
          go_wp2_with (first | (at_builtin; refine wpList_append_own _ rfl _ _ 64 rfl 0 69 i1 (.agg #[.int .i64 0, .slice none 0 0]) 2 32 Try.underlying64 hi' hy0 hy1 hy2 rfl (by decide) _ t _ rfl (hown.alloc _) ⟨wD.heap.size, 0, none⟩ 2 2 [.int .i64 (-8), .slice none 0 0, .int .i64 (-9), .slice none 0 0] rfl rfl (cell_four_new _ _ _ _ _ _) (by intro u hu; simp at hu; rcases hu with rfl | rfl | rfl | rfl <;> rfl) (by unfold maxLen; omega) (by omega) (Nat.zero_le _) ?_; intro v2 w2 ho2 hg2 hn2; obtain ⟨a2, c2', rfl⟩ := row_slice ho2))
          go_ret
          have tA := (Turns.alloc (fun i => i = G) wD (.cells #[.int .i64 (-8), .slice none 0 0, .int .i64 (-9), .slice none 0 0] 69)).trans (Turns.grown (F := fun i => i = G) hg2 (fun b hb => (Option.some.inj hb).symm)) (fun _ _ h => h)
          obtain ⟨zE, fE⟩ := zt.free tA (fun i hi => hi)
          refine ⟨by simp, Aft.of zE hbal hT2 hq HO6.out HE6.out rfl (by omega) (Nat.le_succ N) (Bt.trans fE.blw)⟩
end Go.Proofs.Ytejfbjjhnhlagaa
