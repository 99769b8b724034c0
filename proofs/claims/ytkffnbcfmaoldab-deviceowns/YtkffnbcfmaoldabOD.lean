/- (*Hoard).looks by its contract. -/
import Derived.Test.YtkffnbcfmaoldabOC
import Derived.Test.YtkffnbcfmaoldabDView
namespace Go.Proofs.Ytkffnbcfmaoldab
open Go.RowKit Go.Maps
set_option maxRecDepth 100000

theorem Try.info31 : (Try.prog.info? 31).map (fun i => (i.zero, i.size, i.bytes)) = some (some (.slice none 0 0), 1, 24) := by kernel_rfl
theorem Lk.fresh {w0 w : World} {d : Nat} {S : DevS} {k N : Nat} {F : Nat → Prop} {hb : Nat} {K : Nat → Prop} {vL vW pv : Value} {es : List It} {ps : List (Nat × Nat)} (h : Lk w0 w d S k N F hb K vL vW pv es ps) {g : Nat} (hg : w.heap.size ≤ g) : w0.heap.size ≤ g ∧ ¬ F g ∧ ¬ K g ∧ pv.ownBlock ≠ some g ∧ ∀ p ∈ ps, p.1 ≠ g :=
  ⟨Nat.le_trans h.O.B.size hg, fun q => by have := h.O.D.lt g q; omega, fun q => by have := (h.kl g q).2; omega, fun q => by have := (h.P.row.lt g q).2; omega, fun p hp q => by have := h.P.lt p hp; omega⟩
/-- What has come about since the world w. -/
structure Sn (w wr : World) (F K : Nat → Prop) (pv : Value) (es : List It) (ps : List (Nat × Nat)) (K' : Nat → Prop) (pv' : Value) (es' : List It) (ps' : List (Nat × Nat)) (q r : Nat) : Prop where
  t : Turns (fun i => F i ∨ K i ∨ pv.ownBlock = some i) w wr
  k : ∀ i, K' i → K i ∨ w.heap.size ≤ i
  p : ∀ b, pv'.ownBlock = some b → pv.ownBlock = some b ∨ w.heap.size ≤ b
  g : ∀ x ∈ ps', x ∈ ps ∨ w.heap.size ≤ x.1
  n : es'.length ≤ es.length + q
  m : ps'.length = ps.length + r
  e : ∀ x ∈ es', x ∈ es ∨ x.L.length ≤ 4096
  l : ∀ x ∈ ps', x ∈ ps ∨ x.2 ≤ 1000
theorem Sn.refl (w : World) (F K : Nat → Prop) (pv : Value) (es : List It) (ps : List (Nat × Nat)) : Sn w w F K pv es ps K pv es ps 0 0 :=
  ⟨Turns.refl _ _, fun _ => Or.inl, fun _ => Or.inl, fun _ => Or.inl, Nat.le_refl _, rfl, fun _ => Or.inl, fun _ => Or.inl⟩
theorem Sn.same {w wr w' : World} {F K K' : Nat → Prop} {pv pv' : Value} {es es' : List It} {ps ps' : List (Nat × Nat)} {q r : Nat} (h : Sn w wr F K pv es ps K' pv' es' ps' q r) (t : Turns F wr w') : Sn w w' F K pv es ps K' pv' es' ps' q r :=
  { h with t := h.t.trans t (fun _ _ => Or.inl) }
theorem Sn.kept {w wr w' : World} {F K K' : Nat → Prop} {pv pv' : Value} {es es' : List It} {ps ps' : List (Nat × Nat)} {q r g : Nat} {L : List Int} {u : Value} (h : Sn w wr F K pv es ps K' pv' es' ps' q r) (t : Turns K' wr w') (hg : w.heap.size ≤ g) (hL : L.length ≤ 4096) : Sn w w' F K pv es ps (fun i => K' i ∨ i = g ∨ (wr.heap.size ≤ i ∧ i < w'.heap.size)) pv' (es' ++ [⟨g, L, u⟩]) ps' (q + 1) r :=
  { h with
    t := h.t.trans t (fun i hi e => (h.k i e).elim (fun e => Or.inr (Or.inl e)) (fun e => by omega))
    k := fun i e => e.elim (h.k i) (fun e => e.elim (fun e => Or.inr (by omega)) (fun e => Or.inr (by have := h.t.size; omega)))
    n := by have := h.n; simp; omega
    e := fun x hx => (List.mem_append.1 hx).elim (h.e x) (fun hx => by obtain rfl := List.mem_singleton.1 hx; exact Or.inr hL) }
theorem Sn.add {w wr w' : World} {F K K' : Nat → Prop} {pv pv' pv2 : Value} {es es' : List It} {ps ps' : List (Nat × Nat)} {q r G m : Nat} (h : Sn w wr F K pv es ps K' pv' es' ps' q r) (t : Turns (fun i => pv'.ownBlock = some i) wr w') (hG : w.heap.size ≤ G) (hat : ∀ b, pv2.ownBlock = some b → pv'.ownBlock = some b ∨ wr.heap.size ≤ b) (hm : m ≤ 1000) : Sn w w' F K pv es ps K' pv2 es' (ps' ++ [(G, m)]) q (r + 1) :=
  { h with
    t := h.t.trans t (fun i hi e => (h.p i e).elim (fun e => Or.inr (Or.inr e)) (fun e => by omega))
    p := fun b e => (hat b e).elim (h.p b) (fun e => Or.inr (by have := h.t.size; omega))
    g := fun x hx => (List.mem_append.1 hx).elim (h.g x) (fun hx => by obtain rfl := List.mem_singleton.1 hx; exact Or.inr hG)
    m := by have := h.m; simp; omega
    l := fun x hx => (List.mem_append.1 hx).elim (h.l x) (fun hx => by obtain rfl := List.mem_singleton.1 hx; exact Or.inr hm) }

/-- What looks leaves. -/
def LooksR (w0 w : World) (d : Nat) (S : DevS) (k N : Nat) (F : Nat → Prop) (hb : Nat) (K : Nat → Prop) (pv : Value) (es : List It) (ps : List (Nat × Nat)) (e : Ending) (w' : World) : Prop :=
  ∃ K' vL' vW' pv' es' ps', e = .returned (.tuple #[pv', .bool true]) ∧ Lk w0 w' d S k N F hb K' vL' vW' pv' es' ps' ∧ Sn w w' F K pv es ps K' pv' es' ps' 12 2
set_option maxHeartbeats 4000000 in
theorem looks_h {w0 w : World} {d : Nat} {S : DevS} {k N : Nat} {F : Nat → Prop} {hb : Nat} {K : Nat → Prop} {vL vW pv : Value} {es : List It} {ps : List (Nat × Nat)} (h : Lk w0 w d S k N F hb K vL vW pv es ps) (ho : S.off = false) (hk : k ≤ 8) (hN : N ≤ 1000) (b : Nat) (hbk : b < k) (hes : es.length ≤ 900) (hps : ps.length ≤ 100) :
    Calls Try.prog 23 #[.pointer (some ⟨hb, 0, none⟩), .pointer (some ⟨d, 0, none⟩), .int .i64 b, pv] w fun e w' => LooksR w0 w d S k N F hb K pv es ps e w' := by
  obtain ⟨i0, hi, hz0, hz1, hz2⟩ := info_parts Try.info31
  have hgood := h.O.D.good
  have hpn := h.O.pn
  obtain ⟨M, hM⟩ : ∃ M, S.pend.length = M := ⟨_, rfl⟩
  have hMi : (M : Int) ≤ 1000 := by omega
  have hrd := rdB_len hgood hbk
  have hlast := hgood.len
  have hpd : ∀ p ∈ S.pend, p.2.length = 512 := fun p hp => (hgood.pend p hp).2.1
  go_enter Try.func23, Try.ntmps23
  go_wp2_with fail
  go_loopw [3, 10] (fun v i wr => ∃ (q : Nat) (K' : Nat → Prop) (vL' vW' : Value) (es' : List It) (ps' : List (Nat × Nat)), q ≤ 2 ∧ i = .int .i64 q ∧ Lk w0 wr d S k N F hb K' vL' vW' v es' ps' ∧ Sn w wr F K pv es ps K' v es' ps' (6 * q) q) (fun _ i _ => 2 - (intOf i).toNat)
  case atStart => exact ⟨0, K, vL, vW, es, ps, by omega, rfl, h, Sn.refl w F K pv es ps⟩
  case round =>
    obtain ⟨q, K', vL', vW', es', ps', hq, rfl, hL, hS⟩ := hrel
    have hn := hS.n
    have hm := hS.m
    by_cases hlt : q < 2
    · have hqi : (q : Int) < 2 := by omega
      go_wp2_with fail
      refine (read_on hL.O.D ho b hbk).mono ?_
      rintro e w1 ⟨g1, rfl, o1, D1, t1, l1⟩
      have hL1 := hL.same ⟨D1, t1⟩
      have hS1 := hS.same t1
      have f1 := hL.fresh l1
      go_wp2_with (go_at_call 13; refine (num_id _ _).mono ?_; rintro e wn ⟨rfl, hwn⟩; subst wn)
      refine (keep_h hL1.H hL1.O.B.size g1 (rdB S b) 512 hrd (by omega) (by omega) o1.blk (fun e he r => f1.2.2.1 (r ▸ hL1.H.kg e he))).mono ?_
      rintro e w2 ⟨rfl, vA2, vC2, u2, hd2, t2⟩
      have hL2 := hL1.kept hd2 t2 f1.1 (heap_lt o1.blk) f1.2.1 f1.2.2.2.1 f1.2.2.2.2
      have hS2 := hS1.kept (L := rdB S b) (u := u2) t2 (Nat.le_trans hS.t.size l1) (by omega)
      clear hL1 hS1 hd2 t2 D1 t1 f1 o1
      generalize (fun i => K' i ∨ i = g1 ∨ (w1.heap.size ≤ i ∧ i < w2.heap.size)) = K2 at *
      generalize (es' ++ [⟨g1, rdB S b, u2⟩] : List It) = es2 at *
      have hn2 := hS2.n
      go_wp2_with fail
      refine (durable_any hL2.O.D).mono ?_
      rintro e w3 ⟨⟨g3, rfl, l3, b3⟩, q3⟩
      have hL3 := hL2.same q3
      have hS3 := hS2.same q3.2
      have f3 := hL2.fresh l3
      have s3 : w.heap.size ≤ g3 := Nat.le_trans hS2.t.size l3
      clear hL2 hS2 hL hS q3 l3
      go_wp2_with fail
      refine (keep_h hL3.H hL3.O.B.size g3 S.last (512 * k) hlast (by omega) (by omega) b3 (fun e he r => f3.2.2.1 (r ▸ hL3.H.kg e he))).mono ?_
      rintro e w4 ⟨rfl, vA4, vC4, u4, hd4, t4⟩
      have hL4 := hL3.kept hd4 t4 f3.1 (heap_lt b3) f3.2.1 f3.2.2.2.1 f3.2.2.2.2
      have hS4 := hS3.kept (L := S.last) (u := u4) t4 s3 (by omega)
      clear hL3 hS3 hd4 t4 f3 b3 s3
      generalize (fun i => K2 i ∨ i = g3 ∨ (w3.heap.size ≤ i ∧ i < w4.heap.size)) = K4 at *
      generalize (es2 ++ [⟨g3, S.last, u4⟩] : List It) = es4 at *
      have hn4 := hS4.n
      go_wp2_with fail
      refine (pending_any hL4.O.D (by omega)).mono ?_
      rintro e w5 ⟨⟨G, gs, rfl, P5, lG, lgs⟩, q5⟩
      have hL5 := hL4.same q5
      have hS5 := hS4.same q5.2
      have fG := hL4.fresh lG
      have fg : ∀ g ∈ gs, w0.heap.size ≤ g ∧ ¬ F g ∧ ¬ K4 g ∧ _ := fun g hg => hL4.fresh (lgs g hg)
      have sG : w.heap.size ≤ G := Nat.le_trans hS4.t.size lG
      have sg : ∀ g ∈ gs, w.heap.size ≤ g := fun g hg => Nat.le_trans hS4.t.size (lgs g hg)
      have hlen := P5.len
      have hnod := P5.nod
      have hout := P5.out
      rw [hM]
      clear hL4 hS4 q5 lG lgs
      go_wp2_with fail
      go_loopw [14] (fun j wr => ∃ (t : Nat) (K6 : Nat → Prop) (vL6 vW6 : Value) (es6 : List It), t ≤ 4 ∧ t ≤ M ∧ j = .int .i64 t ∧ Lk w0 wr d S k N F hb K6 vL6 vW6 u3 es6 ps' ∧ Sn w wr F K pv es ps K6 u3 es6 ps' (6 * q + 2 + t) q ∧ wr.heap[G]? = some (.cells (pc S.pend gs).toArray 41 (0, 0)) ∧ ¬ K6 G ∧ ∀ i g, t ≤ i → gs[i]? = some g → ¬ K6 g ∧ ∀ p, S.pend[i]? = some p → wr.heap[g]? = some (bl p.2)) (fun j _ => 4 - (intOf j).toNat)
      case atStart => exact ⟨0, K4, vA4, vC4, es4, by omega, by omega, rfl, hL5, hS5, P5.row, fG.2.2.1, fun i g _ hg => ⟨(fg g (List.mem_of_getElem? hg)).2.2.1, fun p hp => P5.dat i p g hp hg⟩⟩
      case round =>
        have fG1 := fG.2.1
        have fG3 := fG.2.2.2.2
        clear hL5 hS5 P5 fG
        rename_i v14
        obtain ⟨t, K6, vL6, vW6, es6, ht, htM, hv14, hL, hS, hrow, hKG, hgs⟩ := hrel
        have hn6 := hS.n
        by_cases hlm : t < M ∧ t < 4
        · obtain ⟨h1, h2⟩ := hlm
          have h1i : (t : Int) < M := by omega
          have h2i : (t : Int) < 4 := by omega
          obtain ⟨p, hp⟩ : ∃ p, S.pend[t]? = some p := ⟨_, List.getElem?_eq_getElem (by omega)⟩
          obtain ⟨g, hg⟩ : ∃ g, gs[t]? = some g := ⟨_, List.getElem?_eq_getElem (by rw [hlen]; omega)⟩
          have hgm := List.mem_of_getElem? hg
          have fgg := fg g hgm
          obtain ⟨hKg, hdat⟩ := hgs t g (Nat.le_refl _) hg
          have hb6 := hdat p hp
          obtain ⟨e1, e2⟩ := pc_at _ _ t p g hp hg
          have c1 : wr.cell? ⟨G, t * 2 + 1, none⟩ = some (hv g) := by simp only [World.cell?, hrow]; simpa using e2
          have hpl := hpd p (List.mem_of_getElem? hp)
          subst hv14
          clear e1 e2 hdat
          go_wp2_with fail
          refine (keep_h hL.H hL.O.B.size g p.2 512 hpl (by omega) (by omega) hb6 (fun e he r => hKg (r ▸ hL.H.kg e he))).mono ?_
          rintro e w7 ⟨rfl, vA7, vC7, u7, hd7, t7⟩
          have hgl := heap_lt hb6
          have hL7 := hL.kept hd7 t7 fgg.1 hgl fgg.2.1 fgg.2.2.2.1 fgg.2.2.2.2
          have hS7 := hS.kept (L := p.2) (u := u7) t7 (sg g hgm) (by omega)
          have hGl := heap_lt hrow
          have hrow7 := (t7.block G hGl hKG).trans hrow
          have hGg : G ≠ g := fun r => hout (r ▸ hgm)
          have hKG7 : ¬ (K6 G ∨ G = g ∨ (wr.heap.size ≤ G ∧ G < w7.heap.size)) := fun r => r.elim hKG (fun r => r.elim hGg (fun r => by omega))
          have hgs7 : ∀ i x, t + 1 ≤ i → gs[i]? = some x → ¬ (K6 x ∨ x = g ∨ (wr.heap.size ≤ x ∧ x < w7.heap.size)) ∧ ∀ p, S.pend[i]? = some p → w7.heap[x]? = some (bl p.2) := fun i x hi hx => by
            obtain ⟨a1, a2⟩ := hgs i x (by omega) hx
            have hil : i < S.pend.length := by rw [← hlen]; exact (List.getElem?_eq_some_iff.1 hx).1
            have a3 := a2 _ (List.getElem?_eq_getElem hil)
            have a4 := heap_lt a3
            refine ⟨fun r => r.elim a1 (fun r => r.elim (fun r => ?_) (fun r => by omega)), fun p' hp' => (t7.block x a4 a1).trans (a2 p' hp')⟩
            subst r
            obtain ⟨b1, b2⟩ := List.getElem?_eq_some_iff.1 hx
            obtain ⟨b3, b4⟩ := List.getElem?_eq_some_iff.1 hg
            exact List.pairwise_iff_getElem.1 hnod t i b3 b1 (by omega) (b4.trans b2.symm)
          have HL : Hid _ := hL7
          have HS : Hid _ := hS7
          have HG : Hid _ := hgs7
          clear hL hS hgs hL7 hS7 hgs7 hd7 t7 hb6
          go_wp2_with fail
          go_roundw
          case rel =>
            first
            | exact ⟨t + 1, _, _, _, _, by omega, by omega, by go_num, HL.out, HS.out, hrow7, hKG7, HG.out⟩
            | ((repeat apply Exists.intro); exact And.intro ⟨t + 1, _, _, _, _, by omega, by omega, by go_num, HL.out, HS.out, hrow7, hKG7, HG.out⟩ rfl)
          case measure => simp [intOf]; omega
        · have hrp := hL.P.row
          have hsz := hL.O.B.size
          obtain ⟨pa, pcp, hpv⟩ := row_slice hrp
          have hpl2 : ps'.length ≤ 102 := by omega
          have hpcl : (pc S.pend gs).length = M * 2 := by rw [pc_len _ _ hlen, hM]
          have HL : Hid _ := hL
          have HS : Hid _ := hS
          clear hL hS hgs
          obtain ⟨Z, hZ⟩ : ∃ Z, ps'.length = Z := ⟨_, rfl⟩
          have HZ : Hid (ps'.length = Z) := hZ
          rw [hZ] at hrp hpv hpl2
          have hm' : Z = ps.length + q := by omega
          clear hZ hm
          subst hv14
          by_cases h1 : t < M
          all_goals
            have h1i : ¬ ((t : Int) < M ∧ (t : Int) < 4) := by omega
            have h2i : t < M → ¬ (t : Int) < 4 := by omega
            go_wp2_with (at_builtin; refine wpList_append_own_at _ rfl _ _ 53 rfl w0.heap.size 31 i0 (.slice none 0 0) 1 24 Try.underlying53 hi hz0 hz1 hz2 rfl (by decide) _ Z _ rfl (hrp.alloc _) ⟨wr.heap.size, 0, none⟩ 1 1 [.slice (some ⟨G, 0, none⟩) M M] rfl rfl (cell_one_new _ _ _) (by intro u hu; simp at hu; subst hu; rfl) (by unfold maxLen; omega) (by omega) (by simp; omega) ?_; intro vB wB hoB hgB hnB hatB)
            have tB : Turns (fun i => u3.ownBlock = some i) wr wB := (Turns.alloc _ wr _).trans (Turns.grown (F := fun i => u3.ownBlock = some i) hgB (fun b hb => hb)) (fun _ _ h => h)
            have hat2 : ∀ x, vB.ownBlock = some x → u3.ownBlock = some x ∨ wr.heap.size ≤ x := fun x e => by
              rcases hatB with r | r
              · exact Or.inl (r.symm.trans e)
              · right; rw [r] at e; cases e; simp
            have hL9 := HL.out.add (m := M) hrow hpcl ⟨fG1, hKG⟩ fG3 tB (HZ.out ▸ hoB) hat2
            have hS9 := HS.out.add (m := M) tB sG hat2 (by omega)
            refine ⟨⟨q + 1, _, _, _, _, _, by omega, by go_num, hL9, { hS9 with n := ?_ }⟩, by simp [intOf]; omega⟩
            have := hS9.n
            omega
    · have hqi : ¬ (q : Int) < 2 := by omega
      obtain rfl : q = 2 := by omega
      go_wp2
      refine bodyPost_ret (results_tmp2 rfl _ _ _) rfl ?_
      exact ⟨K', vL', vW', u3, es', ps', rfl, hL, hS⟩
end Go.Proofs.Ytkffnbcfmaoldab
