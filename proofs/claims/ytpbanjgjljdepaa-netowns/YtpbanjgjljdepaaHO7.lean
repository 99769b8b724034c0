/- NetOwns, walked. -/
import Derived.Test.YtpbanjgjljdepaaHO6
namespace Go.Proofs.Ytpbanjgjljdepaa
open Go.RowKit Go.Maps
set_option maxRecDepth 100000
/-- What is left to hold once the lists were written over. -/
structure Oe (w0 w : World) (lab : Nat → Nat) (xb rb : Nat) (fv : Value) (S R : St) (ps : List Pf) : Prop where
  n : Nt w lab 1 xb S
  d : Dn w lab 2 rb R
  p : Pls w lab fv ps
  k : Wk w0 lab w
theorem Oc.over {w0 w w' : World} {lab : Nat → Nat} {xb rb hb gb : Nat} {fv vL vW : Value} {S R : St} {bs : List Int} {es : List It} {ps : List Pf} (h : Oc w0 w lab xb rb hb gb fv vL vW S R bs es ps) (t : Turns (fun i => ∃ e ∈ es, e.v.ownBlock = some i) w w') : Oe w0 w' (rl lab w 6) xb rb fv S R ps := by
  have f : ∀ i, (∃ e ∈ es, e.v.ownBlock = some i) → lab i = 7 := fun i ⟨e, he, q⟩ => h.h.kg e he i q
  have r : ∀ a, ∀ i, i < w.heap.size → lab i = a → rl lab w 6 i = a := fun a i hi q => (rl_old hi).trans q
  refine ⟨h.n.turns t (fun i _ q x => by have := f i x; omega) (r 1), h.d.turns t (fun i _ q x => by have := f i x; omega) (r 2), ?_, h.k.turns t (fun i x y => by have := f i x; omega) (fun i hi => rl_old (Nat.lt_of_lt_of_le hi h.k.b.size))⟩
  exact { h.p with
    row := own_turns h.p.row t (fun b hb ⟨e, he, q⟩ => own_apart (h.h.dat e he) h.p.row (by decide) b q hb)
    kr := fun b e => r 4 b (own_lt h.p.row e) (h.p.kr b e)
    dat := fun p hp => own_turns (h.p.dat p hp) t (fun b hb ⟨e, he, q⟩ => own_apart (h.h.dat e he) (h.p.dat p hp) (by decide) b q hb)
    kd := fun p hp b q => r 7 b (own_lt (h.p.dat p hp) q) (h.p.kd p hp b q) }
theorem Oe.over {w0 w w' : World} {lab : Nat → Nat} {xb rb : Nat} {fv : Value} {S R : St} {ps : List Pf} (h : Oe w0 w lab xb rb fv S R ps) (t : Turns (fun i => ∃ p ∈ ps, p.v.ownBlock = some i) w w') : Nt w' (rl lab w 6) 1 xb S ∧ Dn w' (rl lab w 6) 2 rb R ∧ Wk w0 (rl lab w 6) w' := by
  have f : ∀ i, (∃ p ∈ ps, p.v.ownBlock = some i) → lab i = 7 := fun i ⟨e, he, q⟩ => h.p.kd e he i q
  have r : ∀ a, ∀ i, i < w.heap.size → lab i = a → rl lab w 6 i = a := fun a i hi q => (rl_old hi).trans q
  exact ⟨h.n.turns t (fun i _ q x => by have := f i x; omega) (r 1), h.d.turns t (fun i _ q x => by have := f i x; omega) (r 2), h.k.turns t (fun i x y => by have := f i x; omega) (fun i hi => rl_old (Nat.lt_of_lt_of_le hi h.k.b.size))⟩
theorem buf_lies {w : World} {gb m : Nat} {bs : List Int} (h : w.heap[gb]? = some (bl bs)) (hb : bs.length = 64) (hm : m ≤ 64) : Lies w (some ⟨gb, 0, none⟩) m 64 (bs.take m) := by
  refine ⟨by simp; omega, hm, (fun q => by cases q), fun ad had t u hu => ?_⟩
  cases had
  have ht : t < m := by
    have := (List.getElem?_eq_some_iff.1 hu).1
    simp at this; omega
  rw [List.getElem?_map, List.getElem?_take, if_pos ht] at hu
  have e : (⟨gb, 0, none⟩ : Addr).add t = ⟨gb, t, none⟩ := by simp [Addr.add]; exact fun q => q.symm
  rw [e]
  simp only [World.cell?, h]
  simpa using hu
theorem Op.Lie.at2 {w : World} {ao : Option Addr} {n i : Nat} {os : List Op} (h : Op.Lie w ao n os) (hi : i < n) : ∃ (g a : Nat) (o : Op), os[i]? = some o ∧ ao = some ⟨g, a, none⟩ ∧ o.In w ∧ ∀ W : World, Below w.heap.size w W → ∀ (t : Nat) (v : Value), o.cells[t]? = some v → W.cell? ⟨g, a + (i * 8 + t), none⟩ = some v := by
  obtain ⟨o, ho⟩ : ∃ o, os[i]? = some o := ⟨_, List.getElem?_eq_getElem (by rw [h.hlen]; exact hi)⟩
  obtain ⟨h1, g, a, e, h2⟩ := h.hat i o ho
  exact ⟨g, a, o, ho, e, h1, fun W b t v hv => cell_later b (h2 t v hv)⟩
set_option maxHeartbeats 60000000 in
theorem netOwns_any (ao : Option Addr) (n c : Nat) (os : List Op) (w : World) (hL : Op.Lie w ao n os) (hn : n ≤ 140737488355328) :
    Calls Try.prog 6 #[.slice ao n c] w fun e w' => e = .returned (.bool true) ∧ Below w.heap.size w w' := by
  obtain ⟨i1, hi1, hy0, hy1, hy2⟩ := info_parts Try.infoLF
  have hni : (n : Int) ≤ 140737488355328 := by omega
  go_enter Try.func6, Try.ntmps6
  go_wp2_with fail
  refine (known_any w).mono ?_
  rintro e w1 ⟨rfl, b1⟩
  have K1 := (Wk.refl w).below b1 6
  go_wp2_with fail
  refine (new_any w1 (rl (fun _ => 0) w 6) 1).mono ?_
  rintro e w2 ⟨xb, rfl, hN, b2⟩
  have K2 := K1.below b2 1
  go_wp2_with fail
  refine (dnew_any w2 (rl (rl (fun _ => 0) w 6) w1 1) 2).mono ?_
  rintro e w3 ⟨rb, rfl, hD, b3⟩
  have K3 := K2.below b3 2
  have N3 := hN.turns (Below.turns b3 (fun _ => False)) (fun _ _ _ q => q) (fun _ hi r => (rl_old (k := 2) hi).trans r)
  obtain ⟨W4, hW4⟩ : ∃ W, w3.alloc (.cells #[.slice none 0 0, .slice none 0 0] 56) = W := ⟨_, rfl⟩
  have b4 : Below w3.heap.size w3 W4 := by rw [← hW4]; exact (Below.refl _ w3).alloc (Nat.le_refl _) _
  have z4 : W4.heap[w3.heap.size]? = some (.cells #[.slice none 0 0, .slice none 0 0] 56 (0, 0)) := by rw [← hW4]; exact heap_alloc_new w3 _
  have s4 : W4.heap.size = w3.heap.size + 1 := by rw [← hW4]; simp
  obtain ⟨zz, hzz⟩ : ∃ z, List.replicate 64 (0 : Int) = z := ⟨_, rfl⟩
  have hz64 : zz.length = 64 := by rw [← hzz]; simp
  obtain ⟨W5, hW5⟩ : ∃ W, W4.alloc (bl zz) = W := ⟨_, rfl⟩
  have b5 : Below W4.heap.size W4 W5 := by rw [← hW5]; exact (Below.refl _ W4).alloc (Nat.le_refl _) _
  have z5 : W5.heap[W4.heap.size]? = some (bl zz) := by rw [← hW5]; exact heap_alloc_new W4 _
  obtain ⟨L0, hL0⟩ : ∃ L, rl (rl (rl (fun _ => 0) w 6) w1 1) w2 2 = L := ⟨_, rfl⟩
  have hD3 : Dn w3 L0 2 rb S0 := by rw [← hL0]; exact hD
  have hN3 : Nt w3 L0 1 xb S0 := by rw [← hL0]; exact N3
  have hK3 : Wk w L0 w3 := by rw [← hL0]; exact K3
  have O0 : Oc w W5 (rl (rl L0 w3 3) W4 5) xb rb w3.heap.size W4.heap.size (.slice none 0 0) (.slice none 0 0) (.slice none 0 0) S0 S0 zz [] [] := by
    have f4 : ∀ a, ∀ i, i < w3.heap.size → L0 i = a → rl L0 w3 3 i = a := fun a i hi q => (rl_old hi).trans q
    have f5 : ∀ a, ∀ i, i < W4.heap.size → rl L0 w3 3 i = a → rl (rl L0 w3 3) W4 5 i = a := fun a i hi q => (rl_old hi).trans q
    have nf : ∀ (W W' : World) (u : Below W.heap.size W W'), Turns (fun _ => False) W W' := fun W W' u => Below.turns u _
    have hH : Hd W4 (rl L0 w3 3) w3.heap.size (.slice none 0 0) (.slice none 0 0) [] :=
      ⟨z4, World.ownsRow_nil _ _ _ _, World.ownsRow_nil _ _ _ _, (fun b e => by cases e), (fun b e => by cases e), (fun b e => by cases e), rl_new (Nat.le_refl _), (fun e he => by cases he), (fun e he => by cases he), (fun e he => by cases he), (fun e he => by cases he), (fun e he => by cases he), List.Pairwise.nil⟩
    exact ⟨((hN3.turns (nf _ _ b4) (fun _ _ _ q => q) (f4 1)).turns (nf _ _ b5) (fun _ _ _ q => q) (f5 1)), ((hD3.turns (nf _ _ b4) (fun _ _ _ q => q) (f4 2)).turns (nf _ _ b5) (fun _ _ _ q => q) (f5 2)), hH.below b5 5, ⟨World.ownsRow_nil _ _ _ _, (fun b e => by cases e), (fun p hp => by cases hp), (fun p hp => by cases hp), (fun p hp => by cases hp), List.Pairwise.nil⟩, z5, hz64, rl_new (Nat.le_refl _), (hK3.below b4 3).below b5 5, (fun f hf => by cases hf), (fun f hf => by cases hf)⟩
  obtain ⟨hb, hhb⟩ : ∃ x, w3.heap.size = x := ⟨_, rfl⟩
  obtain ⟨gb, hgb⟩ : ∃ x, W4.heap.size = x := ⟨_, rfl⟩
  obtain ⟨L5, hL5⟩ : ∃ x, rl (rl L0 w3 3) W4 5 = x := ⟨_, rfl⟩
  rw [hhb, hgb, hL5] at O0
  have HO0 : Hid (Oc w W5 L5 xb rb hb gb (.slice none 0 0) (.slice none 0 0) (.slice none 0 0) S0 S0 zz [] []) := O0
  have hmk : ∀ u : World, (Instr.makeSlice 22 (.int .i64 64) (.int .i64 64)).run Try.prog u = .ok (.slice (some ⟨u.heap.size, 0, none⟩) 64 64) (u.alloc (bl (List.replicate 64 0))) := fun _ => by kernel_rfl
  rw [hzz] at hmk
  clear O0 hD hN N3 hD3 hN3 hK3 K1 K2 K3 b1 b2 b3 b4 b5 z4 z5 s4 hL0 hL5
  go_wp2_with fail
  go_loopw [7, 9] (fun fv i wr => ∃ (t : Nat) (lab : Nat → Nat) (vL vW : Value) (S : St) (bs : List Int) (es : List It) (ps : List Pf), t ≤ n ∧ t ≤ 30 ∧ i = .int .i64 t ∧ S.last ≤ t ∧ es.length ≤ 7 * t ∧ ps.length ≤ 2 * t ∧ Oc w wr lab xb rb hb gb fv vL vW S S bs es ps) (fun _ i _ => 30 - (intOf i).toNat)
  case atStart => exact ⟨0, _, _, _, _, _, _, _, Nat.zero_le _, by decide, rfl, by decide, by simp, by simp, HO0.out⟩
  case round =>
    clear HO0
    obtain ⟨t, lab, vL, vW, S, bs, es, ps, htn, ht3, rfl, hlast, hel, hpl, hO⟩ := hrel
    obtain ⟨fa, fc, rfl⟩ := own_slice hO.p.row
    by_cases hlt : t < n ∧ t < 30
    · obtain ⟨hln, hl3⟩ := hlt
      have hti : (t : Int) < n := by omega
      have ht30 : (t : Int) < 30 := by omega
      obtain ⟨g, a0, o, hos, hao, hIn, hcl⟩ := hL.at2 hln
      subst hao
      have y0 : wr.cell? ⟨g, a0 + t * 8, none⟩ = some (.int .i64 o.k) := hcl _ hO.k.b 0 _ rfl
      have y1 : wr.cell? ⟨g, a0 + t * 8 + 1, none⟩ = some (.int .i64 o.w) := hcl _ hO.k.b 1 _ rfl
      have y2 : wr.cell? ⟨g, a0 + t * 8 + 2, none⟩ = some (.int .i64 o.no) := hcl _ hO.k.b 2 _ rfl
      have y3 : wr.cell? ⟨g, a0 + t * 8 + 3, none⟩ = some (.int .i64 o.a) := hcl _ hO.k.b 3 _ rfl
      have y4 : wr.cell? ⟨g, a0 + t * 8 + 4, none⟩ = some (.int .i64 o.v) := hcl _ hO.k.b 4 _ rfl
      have y5 : wr.cell? ⟨g, a0 + t * 8 + 5, none⟩ = some (.int .i64 o.to) := hcl _ hO.k.b 5 _ rfl
      have y6 : wr.cell? ⟨g, a0 + t * 8 + 6, none⟩ = some (.slice o.da o.dn o.dc) := hcl _ hO.k.b 6 _ rfl
      have y7 : wr.cell? ⟨g, a0 + t * 8 + 7, none⟩ = some (.int .i64 o.m) := hcl _ hO.k.b 7 _ rfl
      obtain ⟨wA, hwA⟩ : ∃ x, x = wr := ⟨wr, rfl⟩
      subst hwA
      obtain ⟨W1, hW1⟩ : ∃ W, wA.alloc (.cells #[.int .i64 o.k, .int .i64 o.w, .int .i64 o.no, .int .i64 o.a, .int .i64 o.v, .int .i64 o.to, .slice o.da o.dn o.dc, .int .i64 o.m] 59) = W := ⟨_, rfl⟩
      have c1 : Below wA.heap.size wA W1 := by rw [← hW1]; exact (Below.refl _ wA).alloc (Nat.le_refl _) _
      have O1 := hO.below c1 6
      have hbx : W1.heap[wA.heap.size]? = some (.cells #[.int .i64 o.k, .int .i64 o.w, .int .i64 o.no, .int .i64 o.a, .int .i64 o.v, .int .i64 o.to, .slice o.da o.dn o.dc, .int .i64 o.m] 59 (0, 0)) := by rw [← hW1]; exact heap_alloc_new wA _
      obtain ⟨L1, hL1⟩ : ∃ L, rl lab wA 6 = L := ⟨_, rfl⟩
      obtain ⟨ob, hob⟩ : ∃ x, wA.heap.size = x := ⟨_, rfl⟩
      have hlo : L1 ob = 6 := by rw [← hL1, ← hob]; exact rl_new (Nat.le_refl _)
      rw [hL1] at O1
      rw [hob] at hbx
      have o0 : W1.cell? ⟨ob, 0, none⟩ = some (.int .i64 o.k) := by simp [World.cell?, hbx]
      have o2 : W1.cell? ⟨ob, 2, none⟩ = some (.int .i64 o.no) := by simp [World.cell?, hbx]
      have o5 : W1.cell? ⟨ob, 5, none⟩ = some (.int .i64 o.to) := by simp [World.cell?, hbx]
      have o6 : W1.cell? ⟨ob, 6, none⟩ = some (.slice o.da o.dn o.dc) := by simp [World.cell?, hbx]
      have HO1 : Hid (Oc w W1 L1 xb rb hb gb (.slice fa ps.length fc) vL vW S S bs es ps) := O1
      have HB : Hid (W1.heap[ob]? = some (.cells #[.int .i64 o.k, .int .i64 o.w, .int .i64 o.no, .int .i64 o.a, .int .i64 o.v, .int .i64 o.to, .slice o.da o.dn o.dc, .int .i64 o.m] 59 (0, 0)) ∧ L1 ob = 6) := ⟨hbx, hlo⟩
      obtain ⟨P, hP⟩ : ∃ P, ps.length = P := ⟨_, rfl⟩
      rw [hP] at HO1
      have HP : Hid (ps.length = P) := hP
      clear hP hO c1 O1 hbx hL1 hlo hcl hos
      rcases Bool.eq_false_or_eq_true (o.k == 3) with hkb | hkb
      · go_wp2_with fail
        refine (o_take HO1.out (no := o.no) hIn.kno).mono ?_
        rintro e w2 ⟨v2, L2, rfl, O2, P2, M2⟩
        obtain ⟨va, vc, rfl⟩ := P2.da.slice
        obtain ⟨zb2, zl2⟩ := M2.box HB.out.1 HB.out.2 (by decide)
        obtain ⟨W2, hW2⟩ : ∃ W, w2.alloc (.cells #[.int .i64 (takeT S o.no), .slice va (takeD S o.no).length vc] 28) = W := ⟨_, rfl⟩
        have c2 : Below w2.heap.size w2 W2 := by rw [← hW2]; exact (Below.refl _ w2).alloc (Nat.le_refl _) _
        have zp2 : W2.heap[w2.heap.size]? = some (.cells #[.int .i64 (takeT S o.no), .slice va (takeD S o.no).length vc] 28 (0, 0)) := by rw [← hW2]; exact heap_alloc_new w2 _
        have m2 : Stq 100 w2 W2 L2 (rl L2 w2 6) := Stq.below c2 6
        have O3 := O2.below c2 6
        have P3 := P2.mv m2 (by decide)
        obtain ⟨zb3, zl3⟩ := m2.box zb2 zl2 (by decide)
        have zq2 : rl L2 w2 6 w2.heap.size = 6 := rl_new (Nat.le_refl _)
        obtain ⟨p2, hp2⟩ : ∃ x, w2.heap.size = x := ⟨_, rfl⟩
        obtain ⟨L3, hL3⟩ : ∃ x, rl L2 w2 6 = x := ⟨_, rfl⟩
        rw [hL3] at O3 P3 zl3 zq2
        rw [hp2] at zp2 zq2
        have o2' : W2.cell? ⟨ob, 2, none⟩ = some (.int .i64 o.no) := by simp [World.cell?, zb3]
        have HP3 : Hid (Pd W2 L3 es (.slice va (takeD S o.no).length vc) (takeD S o.no)) := P3
        have HQ3 : Hid (W2.heap[p2]? = some (.cells #[.int .i64 (takeT S o.no), .slice va (takeD S o.no).length vc] 28 (0, 0)) ∧ L3 p2 = 6) := ⟨zp2, zq2⟩
        have HO3 : Hid (Oc w W2 L3 xb rb hb gb (.slice fa P fc) vL vW (takeS S o.no) S bs es ps) := O3
        clear o0 o2 o5 o6 HO1 HB O2 P2 M2 zb2 zl2 c2 zp2 m2 O3 P3 zb3 zl3 zq2 hL3
        go_wp2_with fail
        refine (o_dtake HO3.out o.no).mono ?_
        rintro e w4 ⟨v4, L4, rfl, O4, D4, M4⟩
        obtain ⟨vb, vd, rfl⟩ := D4.slice
        obtain ⟨zp4, zq4⟩ := M4.box HQ3.out.1 HQ3.out.2 (by decide)
        have P4 := HP3.out.mv M4 (by decide)
        obtain ⟨W4, hW4⟩ : ∃ W, w4.alloc (.cells #[.int .i64 (takeT S o.no), .slice vb (takeD S o.no).length vd] 28) = W := ⟨_, rfl⟩
        have c4 : Below w4.heap.size w4 W4 := by rw [← hW4]; exact (Below.refl _ w4).alloc (Nat.le_refl _) _
        have zr4 : W4.heap[w4.heap.size]? = some (.cells #[.int .i64 (takeT S o.no), .slice vb (takeD S o.no).length vd] 28 (0, 0)) := by rw [← hW4]; exact heap_alloc_new w4 _
        have m4 : Stq 100 w4 W4 L4 (rl L4 w4 6) := Stq.below c4 6
        have O5 := O4.below c4 6
        have P5 := P4.mv m4 (by decide)
        have D5 := m4.da D4 (by decide)
        obtain ⟨zp5, zq5⟩ := m4.box zp4 zq4 (by decide)
        obtain ⟨p4, hp4⟩ : ∃ x, w4.heap.size = x := ⟨_, rfl⟩
        obtain ⟨L5, hL5⟩ : ∃ x, rl L4 w4 6 = x := ⟨_, rfl⟩
        rw [hL5] at O5 P5 D5 zq5
        rw [hp4] at zr4
        have k1 : W4.cell? ⟨p2, 1, none⟩ = some (.slice va (takeD S o.no).length vc) := by simp [World.cell?, zp5]
        have k2 : W4.cell? ⟨p4, 1, none⟩ = some (.slice vb (takeD S o.no).length vd) := by simp [World.cell?, zr4]
        have hs := same_yes va vb (takeD S o.no).length (takeD S o.no).length vc vd (takeD S o.no) W4 (by have := P5.le; omega) (P5.da.lies rfl) (D5.lies rfl)
        have HP5 : Hid (Pd W4 L5 es (.slice va (takeD S o.no).length vc) (takeD S o.no)) := P5
        have HQ5 : Hid (W4.heap[p2]? = some (.cells #[.int .i64 (takeT S o.no), .slice va (takeD S o.no).length vc] 28 (0, 0))) := zp5
        have HO5 : Hid (Oc w W4 L5 xb rb hb gb (.slice fa P fc) vL vW (takeS S o.no) (takeS S o.no) bs es ps) := O5
        clear o2' HO3 HP3 HQ3 O4 D4 M4 zp4 zq4 P4 c4 zr4 m4 O5 P5 D5 zp5 zq5 hL5
        go_wp2_with fail
        refine hs.mono ?_
        rintro e w6 ⟨rfl, m6, hw6⟩
        have b6 : Below W4.heap.size W4 w6 := by rw [hw6]; exact below_drewN W4 m6
        have hbb : (takeE S o.no == takeE S o.no) = true := by simp
        have O6 := HO5.out.below b6 6
        have P6 := HP5.out.mv (Stq.below b6 6) (by decide)
        have z6 := (b6.block p2 (heap_lt HQ5.out)).trans HQ5.out
        have k6 : w6.cell? ⟨p2, 1, none⟩ = some (.slice va (takeD S o.no).length vc) := by simp [World.cell?, z6]
        have hkeep := o_keep O6 P6 (by omega)
        clear k1 k2 hs hw6 HO5 HP5 HQ5 b6 O6 P6 z6
        go_wp2_with (first | (go_at_call 13; refine (num_any _ _).mono ?_; rintro e w8 ⟨rfl, rfl⟩) | fail)
        refine hkeep.mono ?_
        rintro e w7 ⟨rfl, vA, vC, L7, u7, O7, _⟩
        obtain ⟨S', hS'⟩ : ∃ x, takeS S o.no = x := ⟨_, rfl⟩
        have hl' : S'.last ≤ t + 1 := by rw [← hS']; show S.last ≤ _; omega
        rw [hS'] at O7
        have HT : Hid (Oc w w7 L7 xb rb hb gb (.slice fa P fc) vA vC S' S' bs (es ++ [⟨.slice va (takeD S o.no).length vc, takeD S o.no, u7⟩]) ps) := O7
        have hel' : (es ++ [(⟨.slice va (takeD S o.no).length vc, takeD S o.no, u7⟩ : It)]).length ≤ 7 * t + 1 := by simp; omega
        obtain ⟨es', hes'⟩ : ∃ x, es ++ [(⟨.slice va (takeD S o.no).length vc, takeD S o.no, u7⟩ : It)] = x := ⟨_, rfl⟩
        rw [hes'] at HT hel'
        clear hkeep k6 O7 hS' hes' hel
        go_wp2_with fail
        go_loopw [7, 20] (fun fv k wr => ∃ (q : Nat) (lab : Nat → Nat) (vL vW : Value) (es : List It) (ps : List Pf), q ≤ 2 ∧ k = .int .i64 q ∧ es.length ≤ 7 * t + 1 + 3 * q ∧ ps.length ≤ 2 * t + q ∧ Oc w wr lab xb rb hb gb fv vL vW S' S' bs es ps) (fun _ k _ => 2 - (intOf k).toNat)
        case atStart => exact ⟨0, _, _, _, _, _, by decide, rfl, by omega, by omega, by rw [HP.out]; exact HT.out⟩
        case round =>
          clear HT hel' HP hpl
          obtain ⟨q, lab, vL, vW, es, ps, hq2, rfl, hel, hpl, hO⟩ := hrel
          obtain ⟨fa, fc, rfl⟩ := own_slice hO.p.row
          by_cases hq : q < 2
          · have hqi : (q : Int) < 2 := by omega
            have HO : Hid (Oc w _ lab xb rb hb gb (.slice fa ps.length fc) vL vW S' S' bs es ps) := hO
            obtain ⟨P, hP⟩ : ∃ P, ps.length = P := ⟨_, rfl⟩
            rw [hP] at HO
            have HP : Hid (ps.length = P) := hP
            rw [hP]
            clear hP hO
            go_wp2_with fail
            refine (o_under HO.out).mono ?_
            rintro e w1u ⟨lv, fs, L1u, rfl, O1, U1, F1, hm1, b1u⟩
            obtain ⟨la, lc, rfl⟩ := own_slice U1.row
            obtain ⟨nf, hnf⟩ : ∃ x, fs.length = x := ⟨_, rfl⟩
            have HO1 : Hid (Oc w w1u L1u xb rb hb gb (.slice fa P fc) vL vW S' S' bs es ps) := O1
            have HU1 : Hid (Uf w1u L1u es ps (.slice la nf lc) fs 0) := by rw [← hnf]; exact U1
            have HF1 : Hid (FRow w1u L1u 7 (.slice la nf lc) fs) := by rw [← hnf]; exact F1
            have HN : Hid (fs.length = nf) := hnf
            rw [hnf]
            clear HO O1 U1 F1 b1u hnf
            go_wp2_with fail
            refine (dunderN HO1.out.d 6).mono ?_
            rintro e w2u ⟨lv2, fs2, rfl, F2, hm2, b2u⟩
            obtain ⟨la2, lc2, rfl⟩ := own_slice F2.row
            obtain ⟨nf2, hnf2⟩ : ∃ x, fs2.length = x := ⟨_, rfl⟩
            rw [hnf2] at F2
            rw [hnf2]
            have O2 := HO1.out.below b2u 6
            have U2 := HU1.out.mv (Stq.below b2u 6) (by decide)
            have F1' := HF1.out.turns (Below.turns b2u (fun _ => False)) (fun _ _ _ q => q) (fun _ hi r => (rl_old (k := 6) hi).trans r)
            have hsf := sameFls_true (w := w2u) F1' F2 (hm1.trans hm2.symm) (by have := U2.few; omega)
            obtain ⟨L2u, hL2u⟩ : ∃ x, rl L1u w1u 6 = x := ⟨_, rfl⟩
            rw [hL2u] at O2 U2
            have HO2 : Hid (Oc w w2u L2u xb rb hb gb (.slice fa P fc) vL vW S' S' bs es ps) := O2
            have HU2 : Hid (Uf w2u L2u es ps (.slice la nf lc) fs 0) := U2
            clear HO1 HU1 HF1 F2 b2u O2 U2 F1' hL2u hm1 hm2 hnf2
            go_wp2_with fail
            refine hsf.mono ?_
            rintro e w3u ⟨rfl, b3u⟩
            have O3 := HO2.out.below b3u 6
            have U3 := HU2.out.mv (Stq.below b3u 6) (by decide)
            obtain ⟨L3u, hL3u⟩ : ∃ x, rl L2u w2u 6 = x := ⟨_, rfl⟩
            rw [hL3u] at O3 U3
            have HO3 : Hid (Oc w w3u L3u xb rb hb gb (.slice fa P fc) vL vW S' S' bs es ps) := O3
            have HU3 : Hid (Uf w3u L3u es ps (.slice la nf lc) fs 0) := U3
            clear HO2 HU2 hsf b3u O3 U3 hL3u
            go_wp2_with fail
            go_loopw [24] (fun j wr => ∃ (p : Nat) (lab : Nat → Nat) (vL vW : Value) (es : List It), p ≤ nf ∧ p ≤ 3 ∧ j = .int .i64 p ∧ es.length ≤ 7 * t + 1 + 3 * q + p ∧ Oc w wr lab xb rb hb gb (.slice fa P fc) vL vW S' S' bs es ps ∧ Uf wr lab es ps (.slice la nf lc) fs p) (fun j _ => 3 - (intOf j).toNat)
            case atStart => exact ⟨0, _, _, _, _, Nat.zero_le _, by decide, rfl, by omega, HO3.out, HU3.out⟩
            case round =>
              clear HO3 HU3 hel
              obtain ⟨p, lab, vL, vW, es, hpn, hp3, rfl, hel, hO, hU⟩ := hrel
              by_cases hpc : p < nf ∧ p < 3
              · obtain ⟨hp1, hp2⟩ := hpc
                have hpi : (p : Int) < nf := by omega
                have hpj : (p : Int) < 3 := by omega
                have hrow := hU.row
                rw [HN.out] at hrow
                obtain ⟨gl, cl, hla, _, _, k2⟩ := own_get3 hrow hp1
                obtain ⟨rfl, rfl⟩ : la = some ⟨gl, 0, none⟩ ∧ lc = cl := by cases hla; exact ⟨rfl, rfl⟩
                obtain ⟨e, he⟩ : ∃ e, fs[p]? = some e := ⟨_, List.getElem?_eq_getElem (by rw [HN.out]; exact hp1)⟩
                have hPd := hU.da p e (Nat.le_refl _) he
                obtain ⟨ea, ec, hev⟩ := hPd.da.slice
                rw [(flC_at fs p e he).2.2, hev] at k2
                have hkeep := o_keep hO (by rw [← hev]; exact hPd) (by omega)
                have HU : Hid (Uf _ lab es ps (.slice (some ⟨gl, 0, none⟩) nf lc) fs p) := hU
                clear hU hO hrow hla hPd
                go_wp2_with fail
                refine hkeep.mono ?_
                rintro e' w5 ⟨rfl, vA, vC, L5k, u5, O5, M5⟩
                have U5 := (HU.out.mv M5 (by decide)).kept (u := u5) he
                rw [hev] at U5
                go_wp2_with fail
                go_roundw
                case rel => exact ⟨p + 1, _, _, _, _, by omega, by omega, by go_num, by simp; omega, O5, U5⟩
                case measure => simp [intOf]; omega
              · have hrow := hO.p.row
                rw [HP.out] at hrow
                have HO4 : Hid (Oc w _ lab xb rb hb gb (.slice fa P fc) vL vW S' S' bs es ps) := hO
                have HU4 : Hid (Uf _ lab es ps (.slice la nf lc) fs p) := hU
                have hP2 : P ≤ 60 := by have := HP.out; omega
                clear hO hU
                have hway : (¬ (p : Int) < nf ∧ ¬ p < nf ∧ decide (p < nf) = false ∧ decide ((p : Int) < nf) = false) ∨ ((p : Int) < nf ∧ p < nf ∧ ¬ (p : Int) < 3 ∧ decide ((p : Int) < 3) = false) := by
                  by_cases q : p < nf
                  · exact .inr ⟨by omega, q, by omega, decide_eq_false (by omega)⟩
                  · exact .inl ⟨by omega, q, decide_eq_false q, decide_eq_false (by omega)⟩
                clear hpc
                rcases hway with ⟨hx, hx2, hx3, hx4⟩ | ⟨hx, hx2, hj, hj2⟩
                all_goals
                  rename World => wz
                  go_wp2_with (at_builtin; go_loud (refine wpList_append_own_at _ rfl _ _ 57 rfl 0 34 i1 (.slice none 0 0) 1 24 Try.underlying57 hi1 hy0 hy1 hy2 rfl (by decide) _ P _ rfl (hrow.alloc _) ⟨wz.heap.size, 0, none⟩ 1 1 [.slice la nf lc] rfl rfl (cell_one_new _ _ _) (by intro u hu; simp at hu; subst hu; rfl) (by unfold maxLen; omega) (by omega) (by first | omega | (simp; done) | (simp; omega)) ?_; intro vB wB hoB hgB hnB hatB))
                  obtain ⟨hpl', hmv⟩ := (show Pls wz lab (.slice fa P fc) ps from HO4.out.p).add HU4.out ((Turns.alloc _ wz _).trans (Turns.grown (F := fun i => (Value.slice fa P fc).ownBlock = some i) hgB (fun b hb => hb)) (fun _ _ h => h)) (by rw [HP.out]; exact hoB) (fun b e => by
                    rcases hatB with q | q
                    · left; exact q.symm.trans e
                    · right; rw [q] at e; cases e; simp)
                  have O6 := HO4.out.fls hmv hpl'
                  go_wp2_with fail
                  go_roundw
                  case rel => exact ⟨q + 1, _, _, _, _, _, by omega, by go_num, by omega, by have := HP.out; simp; omega, O6⟩
                  case measure => simp [intOf]; omega
          · obtain rfl : q = 2 := by omega
            go_wp2_with fail
            go_roundw
            case rel => exact ⟨t + 1, lab, vL, vW, S', bs, es, ps, by omega, by omega, by go_num, by omega, by omega, by omega, hO⟩
            case measure => simp [intOf]; omega
      · skip
        go_wp2_with fail
        obtain ⟨m, hm⟩ : ∃ m : Nat, min (o.dn : Int) 64 = (m : Int) := ⟨min o.dn 64, by omega⟩
        have hm64 : m ≤ 64 := by omega
        have hmd : m ≤ o.dn := by omega
        rw [hm]
        have hm64i : (m : Int) ≤ 64 := by omega
        clear hm o0 o2 o5 o6
        go_loopw [17] (fun k wr => ∃ (q : Nat) (bz : List Int), q ≤ m ∧ k = .int .i64 q ∧ Oc w wr L1 xb rb hb gb (.slice fa P fc) vL vW S S bz es ps ∧ wr.heap[ob]? = some (.cells #[.int .i64 o.k, .int .i64 o.w, .int .i64 o.no, .int .i64 o.a, .int .i64 o.v, .int .i64 o.to, .slice o.da o.dn o.dc, .int .i64 o.m] 59 (0, 0))) (fun k _ => m - (intOf k).toNat)
        case atStart => exact ⟨0, bs, Nat.zero_le _, rfl, HO1.out, HB.out.1⟩
        case round =>
          have hob6 : L1 ob = 6 := HB.out.2
          clear HO1 HB
          obtain ⟨q, bz, hqm, rfl, hO, hbx⟩ := hrel
          by_cases hq : q < m
          · have hqi : (q : Int) < m := by omega
            obtain ⟨bb, oo, hda, hcz⟩ := (hIn.li.below hO.k.b (Nat.le_refl _)).at (by omega : 0 < o.dn)
            have s0 := hcz q (by omega)
            obtain ⟨z, hz⟩ : ∃ z, o.Z.getD q 0 = z := ⟨_, rfl⟩
            rw [hz] at s0
            have o6 := hbx
            rw [hda] at o6
            have o6' : wr.cell? ⟨ob, 6, none⟩ = some (.slice (some ⟨bb, oo, none⟩) o.dn o.dc) := by simp [World.cell?, o6]
            have hdi : (q : Int) < o.dn := by omega
            have hq64 : (q : Int) < 64 := by omega
            obtain ⟨x, hx⟩ : ∃ x, (bz.map (Value.int .u8)).toArray[q]? = some x := ⟨_, Array.getElem?_eq_getElem (by simp [hO.b64]; omega)⟩
            have hgb2 := hO.b
            have k0 : wr.cell? ⟨gb, q, none⟩ = some x := by simp only [World.cell?, hgb2]; exact hx
            have f0 : wr.frozen? ⟨gb, q, none⟩ = false := by simp [World.frozen?, hgb2]
            have hne : ob ≠ gb := fun r => by have := hO.lg; rw [← r] at this; omega
            have HOb : Hid (∀ W, W = wr.setCell ⟨gb, q, none⟩ (.int .u8 z) → Oc w W L1 xb rb hb gb (.slice fa P fc) vL vW S S (bz.set q z) es ps) := fun W e => hO.buf e
            have HBb : Hid ((wr.setCell ⟨gb, q, none⟩ (.int .u8 z)).heap[ob]? = some (.cells #[.int .i64 o.k, .int .i64 o.w, .int .i64 o.no, .int .i64 o.a, .int .i64 o.v, .int .i64 o.to, .slice o.da o.dn o.dc, .int .i64 o.m] 59 (0, 0))) := (heap_setCell_other _ _ _ _ hne).trans hbx
            clear hO hbx o6 hcz hz hx hgb2
            go_wp2_with fail
            go_roundw
            case rel => exact ⟨q + 1, bz.set q z, by omega, by go_num, HOb.out _ rfl, HBb.out⟩
            case measure => simp [intOf]; omega
          · obtain rfl : q = m := by omega
            rename World => wq
            have O2 := hO.below (below_drewN wq 1) 6
            have kq : (wq.drewN 1).cell? ⟨ob, 5, none⟩ = some (.int .i64 o.to) := by
              have : wq.cell? ⟨ob, 5, none⟩ = some (.int .i64 o.to) := by simp [World.cell?, hbx]
              exact this
            have hsd := o_send O2 (by omega) o.to (some ⟨gb, 0, none⟩) q 64 (buf_lies O2.b O2.b64 hm64) hm64
            have HB2 : Hid ((wq.drewN 1).heap[ob]? = some (.cells #[.int .i64 o.k, .int .i64 o.w, .int .i64 o.no, .int .i64 o.a, .int .i64 o.v, .int .i64 o.to, .slice o.da o.dn o.dc, .int .i64 o.m] 59 (0, 0))) := hbx
            have hob7 : rl L1 wq 6 ob = 6 := (rl_old (heap_lt hbx)).trans hob6
            clear hO hbx O2 hob6
            go_wp2_with fail
            refine wp_region_held_drew (S := fun w' => w'.cell? ⟨ob, 5, none⟩ = some (.int .i64 o.to)) (by kernel_rfl) kq (fun hHeld => ?_)
            refine wpAnyH_take (i := 0) (oi := ⟨some 106, .move (.tmp 4), 24, "owns.go:113", #[], none⟩) (v := (.pointer (some ⟨xb, 0, none⟩))) rfl (by kernel_rfl) (by kernel_rfl) (by kernel_rfl) (fun _ _ _ h => h) (Or.inl ⟨by rfl, fun _ _ => by rfl⟩) hHeld ?_
            simp only [Act.put, List.setIfInBounds_toArray, List.set_cons_zero, List.set_cons_succ]
            refine wpAnyH_take (i := 1) (oi := ⟨some 107, .fieldAddr 59 (.tmp 10) 5, 0, "owns.go:113", #[], none⟩) (v := (.pointer (some ⟨ob, 5, none⟩))) rfl (by kernel_rfl) (by kernel_rfl) (by kernel_rfl) (fun _ _ _ h => h) (Or.inl ⟨by rfl, fun _ _ => by rfl⟩) hHeld ?_
            simp only [Act.put, List.setIfInBounds_toArray, List.set_cons_zero, List.set_cons_succ]
            refine wpAnyH_take (i := 2) (oi := ⟨some 108, .load 3 (.tmp 107), 3, "owns.go:113", #[⟨1, .data⟩], none⟩) (v := (.int .i64 o.to)) rfl (by kernel_rfl) (by kernel_rfl) (by kernel_rfl) (fun _ _ _ h => h) (Or.inl ⟨by rfl, fun w' h' => by unfold execOp; go_simp⟩) hHeld ?_
            simp only [Act.put, List.setIfInBounds_toArray, List.set_cons_zero, List.set_cons_succ]
            refine wpAnyH_take (i := 3) (oi := ⟨some 109, .move (.tmp 8), 22, "owns.go:113", #[], none⟩) (v := (.slice (some ⟨gb, 0, none⟩) 64 64)) rfl (by kernel_rfl) (by kernel_rfl) (by kernel_rfl) (fun _ _ _ h => h) (Or.inl ⟨by rfl, fun _ _ => by rfl⟩) hHeld ?_
            simp only [Act.put, List.setIfInBounds_toArray, List.set_cons_zero, List.set_cons_succ]
            refine wpAnyH_take (i := 4) (oi := ⟨some 110, .move (.tmp 16), 3, "owns.go:113", #[], none⟩) (v := (.int .i64 q)) rfl (by kernel_rfl) (by kernel_rfl) (by kernel_rfl) (fun _ _ _ h => h) (Or.inl ⟨by rfl, fun _ _ => by rfl⟩) hHeld ?_
            simp only [Act.put, List.setIfInBounds_toArray, List.set_cons_zero, List.set_cons_succ]
            refine wpAnyH_take (i := 5) (oi := ⟨some 111, .slice 22 (.tmp 109) none (some (.tmp 110)) none, 22, "owns.go:113", #[⟨3, .data⟩, ⟨4, .data⟩], none⟩) (v := (.slice (some ⟨gb, 0, none⟩) q 64)) rfl (by kernel_rfl) (by kernel_rfl) (by kernel_rfl) (fun _ _ _ h => h) (Or.inl ⟨by rfl, fun w' h' => by unfold execOp; go_simp⟩) hHeld ?_
            simp only [Act.put, List.setIfInBounds_toArray, List.set_cons_zero, List.set_cons_succ]
            refine wpAnyH_take (i := 6) (oi := ⟨some 112, .build 28 #[(0, .tmp 108), (1, .tmp 111)], 28, "owns.go:113", #[⟨2, .data⟩, ⟨5, .data⟩], none⟩) (v := (.agg #[.int .i64 o.to, (.slice (some ⟨gb, 0, none⟩) q 64)])) rfl (by kernel_rfl) (by kernel_rfl) (by kernel_rfl) (fun _ _ _ h => h) (Or.inl ⟨by rfl, fun w' h' => by unfold execOp; go_simp⟩) hHeld ?_
            simp only [Act.put, List.setIfInBounds_toArray, List.set_cons_zero, List.set_cons_succ]
            refine wpAnyH_ready (rs := [7]) (by kernel_rfl) (by simp) ?_
            refine AllReadyH.cons (o := ⟨some 113, .call ⟨.value (.func 11), #[.tmp 106, .tmp 112], #[24, 28]⟩, 3, "owns.go:113", #[⟨0, .data⟩, ⟨6, .data⟩], none⟩) rfl (fun KK hK => ?_) (AllReadyH.nil)
            go_simp
            refine hsd.mono ?_
            rintro e ws ⟨rfl, Ls, Os, Ms⟩
            have hbs := Ms.box HB2.out hob7 (by decide)
            have ks : ws.cell? ⟨ob, 5, none⟩ = some (.int .i64 o.to) := by simp [World.cell?, hbs.1]
            have HOs : Hid (Oc w ws Ls xb rb hb gb (.slice fa P fc) vL vW (sendS S o.to (bz.take q)) S bz es ps) := Os
            have HBs : Hid (ws.heap[ob]? = some (.cells #[.int .i64 o.k, .int .i64 o.w, .int .i64 o.no, .int .i64 o.a, .int .i64 o.v, .int .i64 o.to, .slice o.da o.dn o.dc, .int .i64 o.m] 59 (0, 0)) ∧ Ls ob = 6) := hbs
            clear hsd HB2 hob7 Ms Os hbs
            go_wp2_with fail
            refine hK.out _ _ ks (fun hHeld => ?_)
            clear hK KK
            try simp only [Act.put, List.setIfInBounds_toArray, List.set_cons_zero, List.set_cons_succ]
            refine wpAnyH_ready (rs := [8]) (by kernel_rfl) (by simp) ?_
            refine AllReadyH.cons (o := ⟨some 18, .assign (.tmp 113), 3, "owns.go:113", #[⟨7, .data⟩, ⟨7, .chain⟩, ⟨0, .phase⟩, ⟨1, .phase⟩, ⟨2, .phase⟩, ⟨3, .phase⟩, ⟨4, .phase⟩, ⟨5, .phase⟩, ⟨6, .phase⟩, ⟨7, .phase⟩], none⟩) rfl (fun KK hK => ?_) (AllReadyH.nil)
            go_simp
            refine hK.out _ _ hHeld (fun hHeld => ?_)
            clear hK KK
            try simp only [Act.put, List.setIfInBounds_toArray, List.set_cons_zero, List.set_cons_succ]
            refine wpAnyH_done (by kernel_rfl) ?_ _
            have hr1 := HOs.out.below (below_drewN ws 1) 6
            have kr : (ws.drewN 1).cell? ⟨ob, 5, none⟩ = some (.int .i64 o.to) := by
              have hbs := HBs.out.1
              show ws.cell? ⟨ob, 5, none⟩ = _
              simp [World.cell?, hbs]
            have hby := bytes29_any (some ⟨gb, 0, none⟩) q 64 (bz.take q) (ws.drewN 1) (by omega) (buf_lies hr1.b hr1.b64 hm64)
            have HOr : Hid (Oc w (ws.drewN 1) (rl Ls ws 6) xb rb hb gb (.slice fa P fc) vL vW (sendS S o.to (bz.take q)) S bz es ps) := hr1
            have HBr : Hid ((ws.drewN 1).heap[ob]? = some (.cells #[.int .i64 o.k, .int .i64 o.w, .int .i64 o.no, .int .i64 o.a, .int .i64 o.v, .int .i64 o.to, .slice o.da o.dn o.dc, .int .i64 o.m] 59 (0, 0))) := HBs.out.1
            have hob6r : rl Ls ws 6 ob = 6 := (rl_old (heap_lt HBs.out.1)).trans HBs.out.2
            have HKr : Hid ((ws.drewN 1).cell? ⟨ob, 5, none⟩ = some (.int .i64 o.to)) := kr
            have hlr : S.last < 4611686018427387904 := by omega
            clear HOs HBs hr1 hHeld
            go_wp2_with fail
            refine wp_region_held_drew (S := fun w' => w'.cell? ⟨ob, 5, none⟩ = some (.int .i64 o.to)) (by kernel_rfl) kr (fun hHeld => ?_)
            refine wpAnyH_take (i := 0) (oi := ⟨some 114, .move (.tmp 5), 52, "owns.go:114", #[], none⟩) (v := (.pointer (some ⟨rb, 0, none⟩))) rfl (by kernel_rfl) (by kernel_rfl) (by kernel_rfl) (fun _ _ _ h => h) (Or.inl ⟨by rfl, fun _ _ => by rfl⟩) hHeld ?_
            simp only [Act.put, List.setIfInBounds_toArray, List.set_cons_zero, List.set_cons_succ]
            refine wpAnyH_take (i := 1) (oi := ⟨some 115, .fieldAddr 59 (.tmp 10) 5, 0, "owns.go:114", #[], none⟩) (v := (.pointer (some ⟨ob, 5, none⟩))) rfl (by kernel_rfl) (by kernel_rfl) (by kernel_rfl) (fun _ _ _ h => h) (Or.inl ⟨by rfl, fun _ _ => by rfl⟩) hHeld ?_
            simp only [Act.put, List.setIfInBounds_toArray, List.set_cons_zero, List.set_cons_succ]
            refine wpAnyH_take (i := 2) (oi := ⟨some 116, .load 3 (.tmp 115), 3, "owns.go:114", #[⟨1, .data⟩], none⟩) (v := (.int .i64 o.to)) rfl (by kernel_rfl) (by kernel_rfl) (by kernel_rfl) (fun _ _ _ h => h) (Or.inl ⟨by rfl, fun w' h' => by unfold execOp; go_simp⟩) hHeld ?_
            simp only [Act.put, List.setIfInBounds_toArray, List.set_cons_zero, List.set_cons_succ]
            refine wpAnyH_take (i := 3) (oi := ⟨some 117, .move (.tmp 8), 22, "owns.go:114", #[], none⟩) (v := (.slice (some ⟨gb, 0, none⟩) 64 64)) rfl (by kernel_rfl) (by kernel_rfl) (by kernel_rfl) (fun _ _ _ h => h) (Or.inl ⟨by rfl, fun _ _ => by rfl⟩) hHeld ?_
            simp only [Act.put, List.setIfInBounds_toArray, List.set_cons_zero, List.set_cons_succ]
            refine wpAnyH_take (i := 4) (oi := ⟨some 118, .move (.tmp 16), 3, "owns.go:114", #[], none⟩) (v := (.int .i64 q)) rfl (by kernel_rfl) (by kernel_rfl) (by kernel_rfl) (fun _ _ _ h => h) (Or.inl ⟨by rfl, fun _ _ => by rfl⟩) hHeld ?_
            simp only [Act.put, List.setIfInBounds_toArray, List.set_cons_zero, List.set_cons_succ]
            refine wpAnyH_take (i := 5) (oi := ⟨some 119, .slice 22 (.tmp 117) none (some (.tmp 118)) none, 22, "owns.go:114", #[⟨3, .data⟩, ⟨4, .data⟩], none⟩) (v := (.slice (some ⟨gb, 0, none⟩) q 64)) rfl (by kernel_rfl) (by kernel_rfl) (by kernel_rfl) (fun _ _ _ h => h) (Or.inl ⟨by rfl, fun w' h' => by unfold execOp; go_simp⟩) hHeld ?_
            simp only [Act.put, List.setIfInBounds_toArray, List.set_cons_zero, List.set_cons_succ]
            refine wpAnyH_ready (rs := [6]) (by kernel_rfl) (by simp) ?_
            refine AllReadyH.cons (o := ⟨some 120, .call ⟨.value (.func 19), #[.tmp 119], #[22]⟩, 22, "owns.go:114", #[⟨5, .data⟩], none⟩) rfl (fun KK hK => ?_) (AllReadyH.nil)
            go_simp
            refine hby.mono ?_
            rintro e wb ⟨cb, cc, rfl, hcb, bb⟩
            have Ob := HOr.out.below bb 6
            have ksb : wb.cell? ⟨ob, 5, none⟩ = some (.int .i64 o.to) := cell_later bb HKr.out
            have hsd := o_dsend Ob hlr o.to cb q cc (Lies.owned hcb) hm64
            have HBb : Hid (wb.heap[ob]? = some (.cells #[.int .i64 o.k, .int .i64 o.w, .int .i64 o.no, .int .i64 o.a, .int .i64 o.v, .int .i64 o.to, .slice o.da o.dn o.dc, .int .i64 o.m] 59 (0, 0))) := (bb.block ob (heap_lt HBr.out)).trans HBr.out
            have hob6b : rl (rl Ls ws 6) (ws.drewN 1) 6 ob = 6 := (rl_old (heap_lt HBr.out)).trans hob6r
            clear hby HOr Ob hcb bb HBr HKr hob6r
            go_wp2_with fail
            refine hK.out _ _ ksb (fun hHeld => ?_)
            clear hK KK
            try simp only [Act.put, List.setIfInBounds_toArray, List.set_cons_zero, List.set_cons_succ]
            refine wpAnyH_take (i := 7) (oi := ⟨some 121, .build 28 #[(0, .tmp 116), (1, .tmp 120)], 28, "owns.go:114", #[⟨2, .data⟩, ⟨6, .data⟩], none⟩) (v := (.agg #[.int .i64 o.to, .slice cb q cc])) rfl (by kernel_rfl) (by kernel_rfl) (by kernel_rfl) (fun _ _ _ h => h) (Or.inl ⟨by rfl, fun w' h' => by unfold execOp; go_simp⟩) hHeld ?_
            simp only [Act.put, List.setIfInBounds_toArray, List.set_cons_zero, List.set_cons_succ]
            refine wpAnyH_ready (rs := [8]) (by kernel_rfl) (by simp) ?_
            refine AllReadyH.cons (o := ⟨some 122, .call ⟨.value (.func 24), #[.tmp 114, .tmp 121], #[52, 28]⟩, 3, "owns.go:114", #[⟨0, .data⟩, ⟨7, .data⟩, ⟨6, .chain⟩], none⟩) rfl (fun KK hK => ?_) (AllReadyH.nil)
            go_simp
            refine hsd.mono ?_
            rintro e ws2 ⟨rfl, Ls2, Os2, Ms2⟩
            have ks2 : ws2.cell? ⟨ob, 5, none⟩ = some (.int .i64 o.to) := by
              have zz5 := (Ms2.box HBb.out hob6b (by decide)).1
              simp [World.cell?, zz5]
            clear hsd HBb Ms2 ksb hob6b
            go_wp2_with fail
            refine hK.out _ _ ks2 (fun hHeld => ?_)
            clear hK KK
            try simp only [Act.put, List.setIfInBounds_toArray, List.set_cons_zero, List.set_cons_succ]
            refine wpAnyH_ready (rs := [9]) (by kernel_rfl) (by simp) ?_
            refine AllReadyH.cons (o := ⟨some 19, .assign (.tmp 122), 3, "owns.go:114", #[⟨8, .data⟩, ⟨8, .chain⟩, ⟨0, .phase⟩, ⟨1, .phase⟩, ⟨2, .phase⟩, ⟨3, .phase⟩, ⟨4, .phase⟩, ⟨5, .phase⟩, ⟨6, .phase⟩, ⟨7, .phase⟩, ⟨8, .phase⟩], none⟩) rfl (fun KK hK => ?_) (AllReadyH.nil)
            go_simp
            refine hK.out _ _ hHeld (fun hHeld => ?_)
            clear hK KK
            try simp only [Act.put, List.setIfInBounds_toArray, List.set_cons_zero, List.set_cons_succ]
            refine wpAnyH_done (by kernel_rfl) ?_ _
            have HT : Hid (Oc w ws2 Ls2 xb rb hb gb (.slice fa P fc) vL vW (sendS S o.to (bz.take q)) (sendS S o.to (bz.take q)) bz es ps) := Os2
            have hbb : (sendA S == sendA S) = true := by simp
            have hl' : (sendS S o.to (bz.take q)).last ≤ t + 1 := by unfold sendS; split <;> (first | omega | (dsimp only; omega))
            have hel' : es.length ≤ 7 * t + 1 := by omega
            obtain ⟨S', hS'⟩ : ∃ x, sendS S o.to (bz.take q) = x := ⟨_, rfl⟩
            rw [hS'] at HT hl'
            clear Os2 hS' hel hHeld
            go_wp2_with fail
            go_loopw [7, 20] (fun fv k wr => ∃ (q : Nat) (lab : Nat → Nat) (vL vW : Value) (es : List It) (ps : List Pf), q ≤ 2 ∧ k = .int .i64 q ∧ es.length ≤ 7 * t + 1 + 3 * q ∧ ps.length ≤ 2 * t + q ∧ Oc w wr lab xb rb hb gb fv vL vW S' S' bz es ps) (fun _ k _ => 2 - (intOf k).toNat)
            case atStart => exact ⟨0, _, _, _, _, _, by decide, rfl, by omega, by omega, by rw [HP.out]; exact HT.out⟩
            case round =>
              clear HT hel' HP hpl
              obtain ⟨q, lab, vL, vW, es, ps, hq2, rfl, hel, hpl, hO⟩ := hrel
              obtain ⟨fa, fc, rfl⟩ := own_slice hO.p.row
              by_cases hq : q < 2
              · have hqi : (q : Int) < 2 := by omega
                have HO : Hid (Oc w _ lab xb rb hb gb (.slice fa ps.length fc) vL vW S' S' bz es ps) := hO
                obtain ⟨P, hP⟩ : ∃ P, ps.length = P := ⟨_, rfl⟩
                rw [hP] at HO
                have HP : Hid (ps.length = P) := hP
                rw [hP]
                clear hP hO
                go_wp2_with fail
                refine (o_under HO.out).mono ?_
                rintro e w1u ⟨lv, fs, L1u, rfl, O1, U1, F1, hm1, b1u⟩
                obtain ⟨la, lc, rfl⟩ := own_slice U1.row
                obtain ⟨nf, hnf⟩ : ∃ x, fs.length = x := ⟨_, rfl⟩
                have HO1 : Hid (Oc w w1u L1u xb rb hb gb (.slice fa P fc) vL vW S' S' bz es ps) := O1
                have HU1 : Hid (Uf w1u L1u es ps (.slice la nf lc) fs 0) := by rw [← hnf]; exact U1
                have HF1 : Hid (FRow w1u L1u 7 (.slice la nf lc) fs) := by rw [← hnf]; exact F1
                have HN : Hid (fs.length = nf) := hnf
                rw [hnf]
                clear HO O1 U1 F1 b1u hnf
                go_wp2_with fail
                refine (dunderN HO1.out.d 6).mono ?_
                rintro e w2u ⟨lv2, fs2, rfl, F2, hm2, b2u⟩
                obtain ⟨la2, lc2, rfl⟩ := own_slice F2.row
                obtain ⟨nf2, hnf2⟩ : ∃ x, fs2.length = x := ⟨_, rfl⟩
                rw [hnf2] at F2
                rw [hnf2]
                have O2 := HO1.out.below b2u 6
                have U2 := HU1.out.mv (Stq.below b2u 6) (by decide)
                have F1' := HF1.out.turns (Below.turns b2u (fun _ => False)) (fun _ _ _ q => q) (fun _ hi r => (rl_old (k := 6) hi).trans r)
                have hsf := sameFls_true (w := w2u) F1' F2 (hm1.trans hm2.symm) (by have := U2.few; omega)
                obtain ⟨L2u, hL2u⟩ : ∃ x, rl L1u w1u 6 = x := ⟨_, rfl⟩
                rw [hL2u] at O2 U2
                have HO2 : Hid (Oc w w2u L2u xb rb hb gb (.slice fa P fc) vL vW S' S' bz es ps) := O2
                have HU2 : Hid (Uf w2u L2u es ps (.slice la nf lc) fs 0) := U2
                clear HO1 HU1 HF1 F2 b2u O2 U2 F1' hL2u hm1 hm2 hnf2
                go_wp2_with fail
                refine hsf.mono ?_
                rintro e w3u ⟨rfl, b3u⟩
                have O3 := HO2.out.below b3u 6
                have U3 := HU2.out.mv (Stq.below b3u 6) (by decide)
                obtain ⟨L3u, hL3u⟩ : ∃ x, rl L2u w2u 6 = x := ⟨_, rfl⟩
                rw [hL3u] at O3 U3
                have HO3 : Hid (Oc w w3u L3u xb rb hb gb (.slice fa P fc) vL vW S' S' bz es ps) := O3
                have HU3 : Hid (Uf w3u L3u es ps (.slice la nf lc) fs 0) := U3
                clear HO2 HU2 hsf b3u O3 U3 hL3u
                go_wp2_with fail
                go_loopw [24] (fun j wr => ∃ (p : Nat) (lab : Nat → Nat) (vL vW : Value) (es : List It), p ≤ nf ∧ p ≤ 3 ∧ j = .int .i64 p ∧ es.length ≤ 7 * t + 1 + 3 * q + p ∧ Oc w wr lab xb rb hb gb (.slice fa P fc) vL vW S' S' bz es ps ∧ Uf wr lab es ps (.slice la nf lc) fs p) (fun j _ => 3 - (intOf j).toNat)
                case atStart => exact ⟨0, _, _, _, _, Nat.zero_le _, by decide, rfl, by omega, HO3.out, HU3.out⟩
                case round =>
                  clear HO3 HU3 hel
                  obtain ⟨p, lab, vL, vW, es, hpn, hp3, rfl, hel, hO, hU⟩ := hrel
                  by_cases hpc : p < nf ∧ p < 3
                  · obtain ⟨hp1, hp2⟩ := hpc
                    have hpi : (p : Int) < nf := by omega
                    have hpj : (p : Int) < 3 := by omega
                    have hrow := hU.row
                    rw [HN.out] at hrow
                    obtain ⟨gl, cl, hla, _, _, k2⟩ := own_get3 hrow hp1
                    obtain ⟨rfl, rfl⟩ : la = some ⟨gl, 0, none⟩ ∧ lc = cl := by cases hla; exact ⟨rfl, rfl⟩
                    obtain ⟨e, he⟩ : ∃ e, fs[p]? = some e := ⟨_, List.getElem?_eq_getElem (by rw [HN.out]; exact hp1)⟩
                    have hPd := hU.da p e (Nat.le_refl _) he
                    obtain ⟨ea, ec, hev⟩ := hPd.da.slice
                    rw [(flC_at fs p e he).2.2, hev] at k2
                    have hkeep := o_keep hO (by rw [← hev]; exact hPd) (by omega)
                    have HU : Hid (Uf _ lab es ps (.slice (some ⟨gl, 0, none⟩) nf lc) fs p) := hU
                    clear hU hO hrow hla hPd
                    go_wp2_with fail
                    refine hkeep.mono ?_
                    rintro e' w5 ⟨rfl, vA, vC, L5k, u5, O5, M5⟩
                    have U5 := (HU.out.mv M5 (by decide)).kept (u := u5) he
                    rw [hev] at U5
                    go_wp2_with fail
                    go_roundw
                    case rel => exact ⟨p + 1, _, _, _, _, by omega, by omega, by go_num, by simp; omega, O5, U5⟩
                    case measure => simp [intOf]; omega
                  · have hrow := hO.p.row
                    rw [HP.out] at hrow
                    have HO4 : Hid (Oc w _ lab xb rb hb gb (.slice fa P fc) vL vW S' S' bz es ps) := hO
                    have HU4 : Hid (Uf _ lab es ps (.slice la nf lc) fs p) := hU
                    have hP2 : P ≤ 60 := by have := HP.out; omega
                    clear hO hU
                    have hway : (¬ (p : Int) < nf ∧ ¬ p < nf ∧ decide (p < nf) = false ∧ decide ((p : Int) < nf) = false) ∨ ((p : Int) < nf ∧ p < nf ∧ ¬ (p : Int) < 3 ∧ decide ((p : Int) < 3) = false) := by
                      by_cases q : p < nf
                      · exact .inr ⟨by omega, q, by omega, decide_eq_false (by omega)⟩
                      · exact .inl ⟨by omega, q, decide_eq_false q, decide_eq_false (by omega)⟩
                    clear hpc
                    rcases hway with ⟨hx, hx2, hx3, hx4⟩ | ⟨hx, hx2, hj, hj2⟩
                    all_goals
                      rename World => wz
                      go_wp2_with (at_builtin; go_loud (refine wpList_append_own_at _ rfl _ _ 57 rfl 0 34 i1 (.slice none 0 0) 1 24 Try.underlying57 hi1 hy0 hy1 hy2 rfl (by decide) _ P _ rfl (hrow.alloc _) ⟨wz.heap.size, 0, none⟩ 1 1 [.slice la nf lc] rfl rfl (cell_one_new _ _ _) (by intro u hu; simp at hu; subst hu; rfl) (by unfold maxLen; omega) (by omega) (by first | omega | (simp; done) | (simp; omega)) ?_; intro vB wB hoB hgB hnB hatB))
                      obtain ⟨hpl', hmv⟩ := (show Pls wz lab (.slice fa P fc) ps from HO4.out.p).add HU4.out ((Turns.alloc _ wz _).trans (Turns.grown (F := fun i => (Value.slice fa P fc).ownBlock = some i) hgB (fun b hb => hb)) (fun _ _ h => h)) (by rw [HP.out]; exact hoB) (fun b e => by
                        rcases hatB with q | q
                        · left; exact q.symm.trans e
                        · right; rw [q] at e; cases e; simp)
                      have O6 := HO4.out.fls hmv hpl'
                      go_wp2_with fail
                      go_roundw
                      case rel => exact ⟨q + 1, _, _, _, _, _, by omega, by go_num, by omega, by have := HP.out; simp; omega, O6⟩
                      case measure => simp [intOf]; omega
              · obtain rfl : q = 2 := by omega
                go_wp2_with fail
                go_roundw
                case rel => exact ⟨t + 1, lab, vL, vW, S', bz, es, ps, by omega, by omega, by go_num, by omega, by omega, by omega, hO⟩
                case measure => simp [intOf]; omega
    · have hway : (¬ (t : Int) < n ∧ ¬ t < n ∧ decide (t < n) = false ∧ decide ((t : Int) < n) = false) ∨ ((t : Int) < n ∧ t < n ∧ ¬ (t : Int) < 30 ∧ decide ((t : Int) < 30) = false) := by
        by_cases q : t < n
        · exact .inr ⟨by omega, q, by omega, decide_eq_false (by omega)⟩
        · exact .inl ⟨by omega, q, decide_eq_false q, decide_eq_false (by omega)⟩
      clear hlt hL
      rcases hway with ⟨hx, hx2, hx3, hx4⟩ | ⟨hx, hx2, hj, hj2⟩
      all_goals
        rename World => wz
        have hwh := whole_h hO.h (by omega)
        have HO : Hid (Oc w wz lab xb rb hb gb (.slice fa ps.length fc) vL vW S S bs es ps) := hO
        obtain ⟨P, hP⟩ : ∃ P, ps.length = P := ⟨_, rfl⟩
        rw [hP] at HO ⊢
        have HP : Hid (ps.length = P) := hP
        clear hO hP
        go_wp2_with fail
        refine hwh.mono ?_
        rintro e w1x ⟨rfl, b1x⟩
        have O1 := HO.out.below b1x 6
        have hap := apart_h O1.h (by omega)
        have HO1 : Hid (Oc w w1x _ xb rb hb gb (.slice fa P fc) vL vW S S bs es ps) := O1
        clear HO O1 b1x hwh
        go_wp2_with fail
        refine hap.mono ?_
        rintro e w2x ⟨rfl, t2x⟩
        have E2 := HO1.out.over t2x
        have haf := apartFlights_h E2.p (by have := HP.out; omega)
        have HE2 : Hid (Oe w w2x _ xb rb (.slice fa P fc) S S ps) := E2
        clear HO1 E2 t2x hap
        go_wp2_with fail
        refine haf.mono ?_
        rintro e w3x ⟨rfl, t3x⟩
        obtain ⟨N3, D3, K3⟩ := HE2.out.over t3x
        obtain ⟨L3x, hL3x⟩ : ∃ x, rl (rl (rl lab wz 6) w1x 6) w2x 6 = x := ⟨_, rfl⟩
        rw [hL3x] at N3 D3 K3
        have hu1 := underN N3 6
        have HN3 : Hid (Dn w3x L3x 2 rb S ∧ Wk w L3x w3x) := ⟨D3, K3⟩
        clear HE2 t3x haf N3 D3 K3 hL3x
        go_wp2_with fail
        refine hu1.mono ?_
        rintro e w4x ⟨lv, fs, rfl, F4, hm4, b4x⟩
        have D4 := HN3.out.1.turns (Below.turns b4x (fun _ => False)) (fun _ _ _ q => q) (fun _ hi r => (rl_old (k := 6) hi).trans r)
        have K4 := HN3.out.2.below b4x 6
        obtain ⟨la, lc, rfl⟩ := own_slice F4.row
        have few4 : fs.length ≤ 4096 := by have := D4.ok.few; rw [← hm4, List.length_map] at this; exact this
        have hu2 := dunderN D4 6
        obtain ⟨nf, hnf⟩ : ∃ x, fs.length = x := ⟨_, rfl⟩
        rw [hnf] at F4 ⊢
        have HF4 : Hid (FRow w4x _ 6 (.slice la nf lc) fs) := F4
        have HK4 : Hid (Wk w _ w4x) := K4
        clear HN3 hu1 F4 D4 K4 b4x
        go_wp2_with fail
        refine hu2.mono ?_
        rintro e w5x ⟨lv2, fs2, rfl, F5, hm5, b5x⟩
        have F4' := HF4.out.turns (Below.turns b5x (fun _ => False)) (fun _ _ _ q => q) (fun _ hi r => (rl_old (k := 6) hi).trans r)
        have hsf := sameFls_true (w := w5x) F4' F5 (hm4.trans hm5.symm) (by omega)
        have K5 := HK4.out.below b5x 6
        obtain ⟨la2, lc2, rfl⟩ := own_slice F5.row
        have HK5 : Hid (Wk w _ w5x) := K5
        clear HF4 HK4 hu2 F5 F4' K5 b5x
        go_wp2_with fail
        refine hsf.mono ?_
        rintro e w6x ⟨rfl, b6x⟩
        have K6 := HK5.out.below b6x 6
        clear hsf HK5 b6x
        go_wp2_with fail
        go_ret
        exact ⟨rfl, K6.b⟩
end Go.Proofs.Ytpbanjgjljdepaa
