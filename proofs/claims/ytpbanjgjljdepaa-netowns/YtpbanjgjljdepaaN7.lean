/- Under of a net. -/
import Derived.Test.YtpbanjgjljdepaaN6
import Derived.Deep.RegionHeldLaw
import Derived.Deep.AppendLies
namespace Go.Proofs.Ytpbanjgjljdepaa
open Go.RowKit Go.Maps
set_option maxRecDepth 100000
variable {w w' : World} {lab lab' : Nat → Nat} {k j xb bm : Nat} {last : Int} {es : List En} {F : Nat → Prop} {S : St}

theorem FRow.below {v : Value} (h : FRow w lab k v es) (b : Below w.heap.size w w') : FRow w' lab k v es :=
  h.turns (Below.turns b (fun _ => False)) (fun _ _ _ q => q) (fun _ _ q => q)
/-- What has been gathered of a net's flights. -/
structure Cols (es : List En) (left : Lit → Bool) (ss : List Sf) : Prop where
  nd : (ss.map Sf.no).Nodup
  sub : ∀ x ∈ ss, x.en.fl ∈ es.map En.fl
  cov : ∀ e ∈ es, left (.int .i64 e.no) = false → e.fl ∈ ss.map fun x => x.en.fl
  gone : ∀ x ∈ ss, left (.int .i64 x.no) = false
theorem Cols.start : Cols es (has (vD (es.map fun e => (e.no, pkV e)))) [] := by
  refine ⟨List.nodup_nil, (fun x h => by cases h), fun e he h => ?_, (fun x h => by cases h)⟩
  rw [vD_has_int, vlk_fnd] at h
  have : (fnd es e.no).isSome = true := List.find?_isSome.2 ⟨e, he, by simp⟩
  cases q : fnd es e.no with
  | none => rw [q] at this; cases this
  | some y => rw [q] at h; cases h
theorem Cols.step {left : Lit → Bool} {ss : List Sf} (h : Cols es left ss) (hr : es.Pairwise (fun a b => a.no < b.no)) {x : Sf} {e : En} (hl : left (.int .i64 x.no) = true) (he : fnd es x.no = some e) (hx : x.en.fl = e.fl) : Cols es (fun z => left z && !z.sameKey (.int .i64 x.no)) (ss ++ [x]) := by
  obtain ⟨hm, hn⟩ := fnd_mem he
  refine ⟨?_, fun y hy => ?_, fun y hy q => ?_, fun y hy => ?_⟩
  · rw [List.map_append, List.nodup_append]
    refine ⟨h.nd, by simp, fun a ha b hb e => ?_⟩
    simp at hb; subst hb; subst e
    obtain ⟨z, hz, hzn⟩ := List.mem_map.1 ha
    have := h.gone z hz
    rw [hzn, hl] at this; cases this
  · rcases List.mem_append.1 hy with q | q
    · exact h.sub y q
    · rw [List.mem_singleton] at q; subst q; rw [hx]; exact List.mem_map_of_mem hm
  · rw [List.map_append, List.mem_append]
    by_cases r : y.no = x.no
    · right
      have hye : fnd es y.no = some y := by
        have : ∀ {l : List En}, l.Pairwise (fun a b => a.no < b.no) → y ∈ l → fnd l y.no = some y := fun {l} hl hy => by
          induction l with
          | nil => cases hy
          | cons z l ih =>
            obtain ⟨p1, p2⟩ := List.pairwise_cons.1 hl
            rcases List.mem_cons.1 hy with t | t
            · subst t; simp [fnd]
            · have h3 := p1 y t
              have h4 := ih p2 t
              unfold fnd at h4 ⊢
              rw [List.find?_cons_of_neg (by simp; omega)]; exact h4
        exact this hr hy
      rw [r, he] at hye
      rw [← Option.some.inj hye, ← hx]; simp
    · left
      have e1 : (Lit.int .i64 y.no).sameKey (.int .i64 x.no) = false := by simp [Lit.sameKey, r]
      simp only [e1, Bool.not_false, Bool.and_true] at q
      exact h.cov y hy q
  · rcases List.mem_append.1 hy with q | q
    · rw [h.gone y q]; rfl
    · rw [List.mem_singleton] at q; subst q; simp [Lit.sameKey]
theorem nos_inj : ∀ {l : List Fl}, l.Pairwise (fun a b => a.no < b.no) → ∀ {a b : Fl}, a ∈ l → b ∈ l → a.no = b.no → a = b
  | [], _, _, _, ha, _, _ => by cases ha
  | z :: l, hl, a, b, ha, hb, hab => by
    obtain ⟨p1, p2⟩ := List.pairwise_cons.1 hl
    rcases List.mem_cons.1 ha with r | r <;> rcases List.mem_cons.1 hb with s | s
    · rw [r, s]
    · have := p1 b s; rw [r] at hab; omega
    · have := p1 a r; rw [s] at hab; omega
    · exact nos_inj p2 r s hab
theorem nodup_of_keys : ∀ {l : List Fl}, (l.map Fl.no).Nodup → l.Nodup
  | [], _ => List.nodup_nil
  | z :: l, h => by
    rw [List.map_cons, List.nodup_cons] at h
    exact List.nodup_cons.2 ⟨fun q => h.1 (List.mem_map_of_mem q), nodup_of_keys h.2⟩
theorem Cols.done {left : Lit → Bool} {ss ts : List Sf} (h : Cols es left ss) (hl : ∀ k, left k = false) (hr : (es.map En.fl).Pairwise (fun a b => a.no < b.no)) (hp : ts.Perm ss) (hs : ts.Pairwise (fun a b => a.no ≤ b.no)) : ts.map (fun x => x.en.fl) = es.map En.fl := by
  have hp1 : (ss.map fun x => x.en.fl).Perm (es.map En.fl) := by
    refine (List.perm_ext_iff_of_nodup ?_ ?_).2 (fun x => ⟨fun q => ?_, fun q => ?_⟩)
    · exact nodup_of_keys (by rw [List.map_map]; exact h.nd)
    · rw [List.nodup_iff_pairwise_ne]
      exact hr.imp (fun {a b} q e => by rw [e] at q; omega)
    · obtain ⟨y, hy, rfl⟩ := List.mem_map.1 q; exact h.sub y hy
    · obtain ⟨y, hy, rfl⟩ := List.mem_map.1 q; exact h.cov y hy (hl _)
  have hp2 := (hp.map fun x => x.en.fl).trans hp1
  refine hp2.eq_of_pairwise (le := fun a b => a.no ≤ b.no) (fun a b ha hb h1 h2 => ?_) ?_ ?_
  · exact nos_inj hr (hp2.mem_iff.1 ha) hb (by omega)
  · rw [List.pairwise_map]; exact hs
  · exact hr.imp (fun q => Int.le_of_lt q)
theorem sf_flat (ss : List Sf) : (ss.map Sf.en).flatMap flC = ss.flatMap sfC := by rw [List.flatMap_map]; rfl
theorem Try.infoFL : (Try.prog.info? 42).map (fun i => (i.zero, i.size, i.bytes)) = some (some (.agg #[.int .i64 0, .int .i64 0, .slice none 0 0]), 3, 40) := by kernel_rfl
theorem iter_ne {bm r n : Nat} {D : DataW Value} {left : Lit → Bool} {cnt : Nat} (h : w.ranges Try.prog 3 RV bm r n D left cnt) {base e s k : Nat} {v : Value} {xs : List Value} (ho : w.ownsRow base e s v k xs) : v.ownBlock ≠ some r := fun q => by
  rcases ho.2 with ⟨r1, _⟩ | ⟨g, cap, cur, r1, _, hh, _⟩
  · rw [r1] at q; cases q
  · rw [r1] at q; cases q
    obtain ⟨es, clock, since, seen, c0, _, _, _, _, hit, _⟩ := h
    rw [hh] at hit
    cases hit
theorem Ens.perm {es fs : List En} (h : Ens w lab k es) (hp : fs.Perm es) : Ens w lab k fs :=
  ⟨fun e he => h.da e (hp.mem_iff.1 he), (hp.pairwise_iff (fun q g ga gb => q g gb ga)).2 h.sep⟩
theorem Ens.later {es : List En} (h : Ens w lab k es) (t : Turns F w w') (hF : ∀ i, F i → ∃ cs T f, w.heap[i]? = some (.cells cs T f) ∧ 5 ≠ T) : Ens w' lab k es :=
  ⟨fun e he => ⟨own_turns (h.da e he).own t (fun b hb q => by
    obtain ⟨cs, T, f, h1, h2⟩ := hF b q
    exact (h.da e he).ne_cells h1 h2 hb), (h.da e he).lb, (h.da e he).len⟩, h.sep⟩
theorem ranges_turns {bm r n : Nat} {D : DataW Value} {left : Lit → Bool} {cnt : Nat} (h : w.ranges Try.prog 3 RV bm r n D left cnt) (t : Turns F w w') (h1 : ¬ F bm) (h2 : ¬ F r) : w'.ranges Try.prog 3 RV bm r n D left cnt := by
  obtain ⟨es, clock, since, seen, c0, hb, Ft, hs, hD, hr, rest⟩ := h
  exact ⟨es, clock, since, seen, c0, (t.block bm (heap_lt hb) h1).trans hb, Ft, hs, hD, (t.block r (heap_lt hr) h2).trans hr, rest⟩
theorem cell_turns {i o : Nat} {v : Value} (t : Turns F w w') (h : w.cell? ⟨i, o, none⟩ = some v) (hF : ¬ F i) : w'.cell? ⟨i, o, none⟩ = some v :=
  (World.cell?_of_block (a := ⟨i, o, none⟩) (t.block i (World.block_lt_of_cell? w _ h) hF)).trans h
/-- What the loop of Under holds. -/
structure UnI (w wr : World) (lab : Nat → Nat) (j bm rr n : Nat) (es : List En) (v : Value) (left : Lit → Bool) (cnt : Nat) (ss : List Sf) : Prop where
  rg : wr.ranges Try.prog 3 RV bm rr n (vD (es.map fun e => (e.no, pkV e))) left cnt
  le : ss.length + cnt ≤ es.length
  row : wr.ownsRow w.heap.size 42 3 v ss.length (ss.flatMap sfC)
  nn : v ≠ .slice none 0 0
  en : Ens wr (rl lab w j) j (ss.map Sf.en)
  col : Cols es left ss
  b : Below w.heap.size w wr
set_option maxHeartbeats 4000000 in
theorem under_X (h : NtX w lab k xb bm last es) (hr : (es.map En.fl).Pairwise (fun a b => a.no < b.no)) (hf : es.length ≤ 4096) (j : Nat) :
    Calls Try.prog 15 #[.pointer (some ⟨xb, 0, none⟩)] w fun e w' => ∃ v fs, e = .returned v ∧ FRow w' (rl lab w j) j v fs ∧ fs.map En.fl = es.map En.fl ∧ Below w.heap.size w w' := by
  obtain ⟨i0, hi, hz0, hz1, hz2⟩ := info_parts Try.infoFL
  have hown := h.map.own
  have hsz := h.msz
  have hbl := hown.lt
  have hln : (Maps.size (vD (es.map fun e => (e.no, pkV e))) : Int) = (es.length : Int) := by rw [hsz]
  have c0 := h.c0
  have hxl := heap_lt h.box
  have hri : es.Pairwise (fun a b => a.no < b.no) := by rw [List.pairwise_map] at hr; exact hr
  obtain ⟨n, hn⟩ : ∃ n, es.length = n := ⟨_, rfl⟩
  rw [hn] at hown hln hf
  have HN : Hid (es.length = n) := hn
  have HS : Hid (Maps.size (vD (es.map fun e => (e.no, pkV e))) = n) := hsz.trans hn
  clear hn hsz
  go_enter Try.func15, Try.ntmps15
  go_wp2_with (first
    | (at_len; refine wpList_len_own _ rfl _ 74 rfl 3 28 Try.underlying74 _ bm n _ rfl hown ?_)
    | (at_make; refine wpList_make_own _ rfl _ _ 34 rfl w.heap.size 42 i0 (.agg #[.int .i64 0, .int .i64 0, .slice none 0 0]) 3 Try.underlying34 hi hz0 hz1 _ _ _ n rfl rfl hln (by rw [hz2]; omega) (by unfold maxLen; omega) (Nat.le_refl _) ?_; intro w1 hrow1 hg1; have c1 : w1.cell? ⟨xb, 0, none⟩ = some (.map (some bm)) := (hg1.cell c0 (by simp)))
    | (at_range; refine wpList_range_own _ rfl _ 74 rfl 3 28 lawI Try.underlying74 _ bm n _ rfl (hown.kept hg1 (by simp)) ?_; intro w0 hrg0 hg0 hs0))
  have hb1 : Below w.heap.size w w1 := (Below.refl _ _).grown hg1 (Nat.le_refl _) (fun j hj => by cases hj)
  have hb0 : Below w.heap.size w w0 := hb1.grown hg0 hg1.size (fun j hj => by cases hj)
  go_frame
  go_loopw [3] (fun v wr => ∃ (left : Lit → Bool) (cnt : Nat) (ss : List Sf), UnI w wr lab j bm w1.heap.size n es v left cnt ss) (fun _ wr => wr.rangeLeft bm w1.heap.size)
  case atStart =>
    exact ⟨_, _, [], hrg0, by rw [HS.out, HN.out]; simp, hrow1.kept hg0 (Or.inr (by simp [Value.ownBlock])), by simp, Ens.nil _ _ _, Cols.start, hb0⟩
  case round =>
    obtain ⟨left, cnt, ss, I⟩ := hrel
    have hle := I.le
    rw [HN.out] at hle
    have hrg := I.rg
    go_wp2_with (at_next; refine wpList_next_ranges _ rfl _ rfl 3 lawI RV (Value.int .i64) id (fun key kl hk => by obtain ⟨x, hx, _⟩ := Maps.keyOf_int_inv Try.underlying3 hk; exact ⟨x, hx⟩) (fun v _ _ => ⟨v, rfl⟩) bm w1.heap.size n _ _ _ rfl hrg ?_ ?_)
    · intro hc0 hl0
      rcases I.row.2 with ⟨hnil, _⟩ | ⟨g, cap, cur, rfl, hbase, hb, h1, h2, h3, h4⟩
      · exact absurd hnil I.nn
      obtain ⟨m, hm⟩ : ∃ m, ss.length = m := ⟨_, rfl⟩
      rw [hm] at hle
      have hrow := I.row
      rw [hm] at hrow ⊢
      have hc := sort_any hrow hm (by omega)
      have HC : Hid (Calls Try.prog 32 #[.slice (some ⟨g, 0, none⟩) m cap, .func (.func 33) #[] #[]] wr fun e w' => e = .returned (.tuple #[]) ∧ ∃ ts : List Sf, ts.Perm ss ∧ ts.Pairwise (fun a b => a.no ≤ b.no) ∧ w'.ownsRow w.heap.size 42 3 (.slice (some ⟨g, 0, none⟩) m cap) m (ts.flatMap sfC) ∧ wr.grownBy w' (some g)) := hc
      have HI : Hid (UnI w wr lab j bm w1.heap.size n es (.slice (some ⟨g, 0, none⟩) ss.length cap) left cnt ss) := I
      have HM : Hid (ss.length = m) := hm
      have HB : Hid (wr.heap[g]? = some (.cells cur 42 (0, 0))) := hb
      clear hc I hrow hb hm h1 h2 h3 h4 hrg hown hrow1 hg0 hs0 hrg0 h
      go_wp2_with fail
      refine Calls.mono (R := fun e w' => e = .returned (.tuple #[]) ∧ ∃ ts : List Sf, ts.Perm ss ∧ ts.Pairwise (fun a b => a.no ≤ b.no) ∧ w'.ownsRow w.heap.size 42 3 (.slice (some ⟨g, 0, none⟩) m cap) m (ts.flatMap sfC) ∧ wr.grownBy w' (some g)) HC.out ?_
      rintro e w' ⟨rfl, ts, hp, hs, hr', hg'⟩
      have hlen : ts.length = m := hp.length_eq.trans HM.out
      have I := HI.out
      have tG : Turns (fun i => i = g) wr w' := Turns.grown hg' (fun b hb => (Option.some.inj hb).symm)
      have hFR : FRow w' (rl lab w j) j (.slice (some ⟨g, 0, none⟩) m cap) (ts.map Sf.en) := by
        refine ⟨?_, (I.en.later tG (fun i q => ⟨cur, 42, (0, 0), by rw [q]; exact HB.out, by decide⟩)).perm (hp.map _), fun b q => ?_⟩
        · rw [List.length_map, hlen, sf_flat]; exact ownsRow_mono hr' (Nat.zero_le _)
        · cases q; exact rl_new hbase
      have hfl : (ts.map Sf.en).map En.fl = es.map En.fl := by rw [List.map_map]; exact I.col.done hl0 hr hp hs
      have HFR : Hid (FRow w' (rl lab w j) j (.slice (some ⟨g, 0, none⟩) m cap) (ts.map Sf.en)) := hFR
      have HFl : Hid ((ts.map Sf.en).map En.fl = es.map En.fl) := hfl
      have HBl : Hid (Below w.heap.size w w') := I.b.grown hg' I.b.size (fun i q => by cases q; exact hbase)
      clear I hFR hfl hr' hg' hp hs tG HC HI
      go_wp2
      go_ret
      exact ⟨_, _, rfl, HFR.out, HFl.out, HBl.out⟩
    · intro x c kl yd yp w2 cnt2 hkey hlk hv hyp hat hrg2 hlt hg2 hs2 hen
      obtain ⟨x', ex, rfl, _⟩ := Maps.keyOf_int_inv Try.underlying3 hkey
      obtain rfl : x = x' := by cases ex; rfl
      have hhas : has (vD (es.map fun e => (e.no, pkV e))) (.int .i64 x) = true := has_true_of_atKey hat
      rw [vD_has_int, vlk_fnd] at hhas
      obtain ⟨e, he⟩ : ∃ e, fnd es x = some e := by
        cases q : fnd es x with
        | none => rw [q] at hhas; cases hhas
        | some e => exact ⟨e, rfl⟩
      have hc : c = pkV e := by
        have := hat (.held (.int .i64 0))
        rw [vD_at, vlk_fnd, he, ← hv] at this
        simp at this
        exact this.symm
      obtain ⟨eno, eto, ed, ev⟩ := e
      have hno : eno = x := (fnd_mem he).2
      have hd := h.en.da _ (fnd_mem he).1
      obtain ⟨ao, cc, hev, hL⟩ := Lies.da hd
      change ev = .slice ao ed.length cc at hev
      change Lies w ao ed.length cc ed at hL
      have hln2 : ed.length ≤ 140737488355328 := hd.len
      obtain ⟨m, hm⟩ : ∃ m, ed.length = m := ⟨_, rfl⟩
      rw [hm] at hev hL hln2
      subst hev
      change c = .agg #[.int .i64 eto, .slice ao m cc] at hc
      subst hc
      have hsB := I.b.size
      have hrow2 := I.row.kept hg2 (Or.inr (iter_ne hrg I.row))
      have u2 : Turns (fun i => i = w1.heap.size) wr w2 := Turns.grown hg2 (fun b hb => (Option.some.inj hb).symm)
      have hB2 : Below w.heap.size w w2 := I.b.trans (u2.below (fun i q => by have := hg1.size; omega) hsB)
      have hE2 : Ens w2 (rl lab w j) j (ss.map Sf.en) := ⟨fun y hy => ⟨own_turns (I.en.da y hy).own u2 (fun b hb q => by rw [q] at hb; exact iter_ne hrg (I.en.da y hy).own hb), (I.en.da y hy).lb, (I.en.da y hy).len⟩, I.en.sep⟩
      obtain ⟨W3, hW3⟩ : ∃ W, w2.alloc (.cells #[.int .i64 eto, .slice ao m cc] 28) = W := ⟨_, rfl⟩
      have z3 : W3.heap[w2.heap.size]? = some (.cells #[.int .i64 eto, .slice ao m cc] 28) := by rw [← hW3]; exact heap_alloc_new w2 _
      have b3 : Below w2.heap.size w2 W3 := by rw [← hW3]; exact (Below.refl _ w2).alloc (Nat.le_refl _) _
      have k0 : W3.cell? ⟨w2.heap.size, 0, none⟩ = some (.int .i64 eto) := by simp [World.cell?, z3]
      have k1 : W3.cell? ⟨w2.heap.size, 1, none⟩ = some (.slice ao m cc) := by simp [World.cell?, z3]
      have hB3 : Below w.heap.size w W3 := hB2.trans (b3.mono hB2.size)
      have hL3 : Lies W3 ao m cc ed := hL.below hB3 (Nat.le_refl _)
      have hrg3 : W3.ranges Try.prog 3 RV bm w1.heap.size n (vD (es.map fun e => (e.no, pkV e))) (fun z => left z && !z.sameKey (.int .i64 x)) cnt2 := by rw [← hW3]; exact hrg2.alloc _
      have hrow3 : W3.ownsRow w.heap.size 42 3 u3 ss.length (ss.flatMap sfC) := own_turns hrow2 (Below.turns b3 (fun _ => False)) (fun _ _ q => q)
      have hE3 : Ens W3 (rl lab w j) j (ss.map Sf.en) := hE2.turns (Below.turns b3 (fun _ => False)) (fun _ _ _ q => q) (fun _ _ q => q)
      obtain ⟨av, cv, hu⟩ := own_slice hrow3
      subst hu
      obtain ⟨q, hq⟩ : ∃ q, ss.length = q := ⟨_, rfl⟩
      rw [hq] at hrow3 hle ⊢
      have HQ : Hid (ss.length = q) := hq
      have HI : Hid (UnI w wr lab j bm w1.heap.size n es (.slice av ss.length cv) left cnt ss) := I
      have HE3 : Hid (Ens W3 (rl lab w j) j (ss.map Sf.en)) := hE3
      have HRG : Hid (W3.ranges Try.prog 3 RV bm w1.heap.size n (vD (es.map fun e => (e.no, pkV e))) (fun z => left z && !z.sameKey (.int .i64 x)) cnt2) := hrg3
      have HM : Hid (ed.length = m) := hm
      have HB3 : Hid (Below w.heap.size w W3) := hB3
      have HF : Hid (fnd es x = some ⟨eno, eto, ed, .slice ao m cc⟩) := he
      have HNo : Hid (eno = x) := hno
      have hge : ∀ b, (Value.slice av q cv).ownBlock = some b → w.heap.size ≤ b := fun b e => (hrow3.lt b e).1
      have hB3s := hB3.size
      have hws : w2.heap.size < W3.heap.size := heap_lt z3
      have hne2 : ∀ b, (Value.slice av q cv).ownBlock = some b → b ≠ w2.heap.size := fun b e r => own_typ hrow3 z3 (by decide) (by rw [← r]; exact e)
      have hrl3 : ∀ b, (Value.slice av q cv).ownBlock = some b → b < W3.heap.size := fun b e => own_lt hrow3 e
      clear I hE2 hE3 hrow2 hrg hrg2 hrg3 hL hd hm hq hB2 hB3 hno he hhas hat hv hyp h hg0 hs0 hrg0 hown hrow1 u2 b3 hs2
      go_wp2_with fail
      go_region_held3 (fun w' => w'.cell? ⟨w2.heap.size, 0, none⟩ = some (.int .i64 eto) ∧ w'.cell? ⟨w2.heap.size, 1, none⟩ = some (.slice ao m cc))
        (first | exact ⟨k0, k1⟩ | exact ⟨p0, p1⟩ | exact ⟨r0 _, r1 _⟩ | exact ⟨q0, q1⟩)
        (first
          | (go_at_call 31; refine (copied_any ao m cc ed _ hln2 (hL3.below (below_drewN W3 1) (Nat.le_refl _))).mono ?_; rintro e w4 ⟨g, rfl, hg4, hb4, b4⟩; have p0 := cell_later b4 k0; have p1 := cell_later b4 k1; have r0 : ∀ o, (w4.alloc o).cell? ⟨w2.heap.size, 0, none⟩ = some (.int .i64 eto) := fun o => cell_later ((Below.refl _ w4).alloc (Nat.le_refl _) _) p0; have r1 : ∀ o, (w4.alloc o).cell? ⟨w2.heap.size, 1, none⟩ = some (.slice ao m cc) := fun o => cell_later ((Below.refl _ w4).alloc (Nat.le_refl _) _) p1; have hrow4 := own_turns hrow3 (Below.turns ((below_drewN W3 1).trans b4) (fun _ => False)) (fun _ _ q => q))
          | (refine step_append_lies _ rfl (.tmp 22) (.tmp 30) 34 rfl w.heap.size 42 i0 (.agg #[.int .i64 0, .int .i64 0, .slice none 0 0]) 3 40 Try.underlying34 hi hz0 hz1 hz2 rfl (by decide) _ q _ rfl (hrow4.alloc _) ⟨w4.heap.size, 0, none⟩ 1 1 [.int .i64 x, .int .i64 eto, .slice (some ⟨g, 0, none⟩) m m] rfl rfl (World.news_of_block (heap_alloc_new _ _)) (by intro u hu; simp at hu; rcases hu with rfl | rfl | rfl <;> rfl) (by decide) (by unfold maxLen; omega) (by omega) (by have := b4.size; simp at this ⊢; omega) _ rfl ?_; intro gC cC w5 ho5 hg5 hat5 hlt5; have hT5 := (Turns.alloc _ w4 _).trans (Turns.grown (F := fun i => (Value.slice av q cv).ownBlock = some i) hg5 (fun b hb => hb)) (fun _ _ h => h); have q0 := cell_turns hT5 p0 (fun e => hne2 _ e rfl); have q1 := cell_turns hT5 p1 (fun e => hne2 _ e rfl)))
      have u34 : Turns (fun i => (Value.slice av q cv).ownBlock = some i) W3 w5 := (Below.turns ((below_drewN W3 1).trans b4) _).trans hT5 (fun _ _ q => q)
      have hg4' : W3.heap.size ≤ g := hg4
      have hgne : (Value.slice av q cv).ownBlock ≠ some g := fun e => by have := hrl3 g e; omega
      have hb5 : w5.heap[g]? = some (bl ed) := (hT5.block g (heap_lt hb4) hgne).trans hb4
      have hI5 : UnI w w5 lab j bm w1.heap.size n es (.slice (some ⟨gC, 0, none⟩) (q + 1) cC) (fun z => left z && !z.sameKey (.int .i64 x)) cnt2 (ss ++ [⟨x, eto, ed, some ⟨g, 0, none⟩, m, m⟩]) := by
        refine ⟨ranges_turns HRG.out u34 (fun e => by have := hge _ e; omega) (iter_ne HRG.out hrow3), ?_, ?_, by simp, ?_, ?_, ?_⟩
        · rw [List.length_append, HN.out, HQ.out]; simp; omega
        · rw [List.length_append, HQ.out, List.flatMap_append]
          simpa [sfC] using ho5
        · rw [List.map_append]
          refine (HE3.out.later u34 (fun i e => ?_)).snoc ⟨?_, fun b e => ?_, ?_⟩ (fun b e y hy r => ?_)
          · rcases hrow3.2 with ⟨r, _⟩ | ⟨g', cap', cur', r, _, hh, _⟩
            · rw [r] at e; cases e
            · rw [r] at e; cases e; exact ⟨_, _, _, hh, by decide⟩
          · have := own_bl hb5 (by rw [HM.out]; exact hln2)
            show World.ownsRow w5 0 _ 1 (.slice (some ⟨g, 0, none⟩) m m) ed.length _
            rw [HM.out] at this ⊢; exact this
          · cases e; exact rl_new (Nat.le_trans hB3s hg4')
          · show ed.length ≤ _; rw [HM.out]; exact hln2
          · cases e
            have : g < W3.heap.size := (HE3.out.da y hy).lt _ r
            omega
        · exact HI.out.col.step hri (x := ⟨x, eto, ed, some ⟨g, 0, none⟩, m, m⟩) hlk HF.out (by show (⟨x, eto, ed⟩ : Fl) = ⟨eno, eto, ed⟩; rw [HNo.out])
        · exact HB3.out.trans (u34.below hge HB3.out.size)
      have hlt2 : w5.rangeLeft bm w1.heap.size < wr.rangeLeft bm w1.heap.size := by rw [hI5.rg.left_eq, HI.out.rg.left_eq]; exact hlt
      have HI5 : Hid (UnI w w5 lab j bm w1.heap.size n es (.slice (some ⟨gC, 0, none⟩) (q + 1) cC) (fun z => left z && !z.sameKey (.int .i64 x)) cnt2 (ss ++ [⟨x, eto, ed, some ⟨g, 0, none⟩, m, m⟩])) := hI5
      go_roundw
      case rel =>
        have hrel5 : ∃ (left : Lit → Bool) (cnt : Nat) (ss : List Sf), UnI w w5 lab j bm w1.heap.size n es (.slice (some ⟨gC, 0, none⟩) (q + 1) cC) left cnt ss := ⟨_, cnt2, _, HI5.out⟩
        repeat apply Exists.intro
        exact And.intro hrel5 rfl
      case measure => exact hlt2
theorem underN (h : Nt w lab k xb S) (j : Nat) :
    Calls Try.prog 15 #[.pointer (some ⟨xb, 0, none⟩)] w fun e w' => ∃ v fs, e = .returned v ∧ FRow w' (rl lab w j) j v fs ∧ fs.map En.fl = S.l ∧ Below w.heap.size w w' := by
  obtain ⟨bm, es, h, hl, ok⟩ := h
  rw [← hl]
  exact under_X h (by rw [hl]; exact ok.ris) (by have := ok.few; rw [← hl, List.length_map] at this; exact this) j
end Go.Proofs.Ytpbanjgjljdepaa
