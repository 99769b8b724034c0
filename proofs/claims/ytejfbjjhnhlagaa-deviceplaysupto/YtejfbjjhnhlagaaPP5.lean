/- done, at Crash. -/
import Derived.Test.YtejfbjjhnhlagaaPP4
import Derived.BigQuiet
namespace Go.Proofs.Ytejfbjjhnhlagaa
open Go.RowKit Go.Maps
set_option maxRecDepth 100000

theorem Try.info4 : (Try.prog.info? 4).map (fun i => (i.zero, i.size, i.bytes)) = some (some (.bool false), 1, 1) := by kernel_rfl
section
variable {P : Program} (w : World)
/-- A copy by append onto the nil slice, of bools that came in. -/
theorem wpList_append_bools {ops : Array Oper} {rest : List Oper} {o : Oper} {a : Act} {Q : Exit → Act → World → Prop} (hgd : o.guard = none) (s x : Operand) (t : TypeId)
    (ho : o.op = .call { callee := .builtin .append, args := #[s, x], argTypes := #[t, t] })
    (e : TypeId) (i : TypeInfo) (z : Value) (ht : P.underlying t = some (.slice e)) (hi : P.info? e = some i) (hz : i.zero = some z)
    (hsize : i.size = 1) (hby : i.bytes = 1) (hzs : z.cells.size = 1)
    (ka : Option Addr) (kn kc : Nat) (ks : List Bool) (hK : KLies w ka kn kc ks) (hkz : ka = none → kn = 0 ∧ kc = 0) (hm : kn ≤ 2000000) (hs : a.eval s = .slice none 0 0) (hx : a.eval x = .slice ka kn kc)
    (h : ∀ v' w', w'.ownsRow w.heap.size e 1 v' kn (ks.map Value.bool) → Below w.heap.size w w' → wpList P ops Q rest (a.put o.dst v') w') :
    wpList P ops Q (o :: rest) a w := by
  have hnil : w.ownsRow w.heap.size e 1 (.slice none 0 0) 0 [] := ⟨by simp, Or.inl ⟨rfl, rfl⟩⟩
  have key : ∃ v' w', (Builtin.append_ #[t, t] o.type #[.slice none 0 0, .slice ka kn kc]).run P w = .ok v' w' ∧ w'.ownsRow w.heap.size e 1 v' kn (ks.map Value.bool) ∧ Below w.heap.size w w' := by
    cases ka with
    | none =>
      obtain ⟨rfl, rfl⟩ := hkz rfl
      obtain rfl : ks = [] := List.eq_nil_of_length_eq_zero hK.hlen
      exact ⟨_, _, run_append_owned_none (P := P) w w.heap.size t o.type e i 1 ht hi _ 0 [] hnil, hnil, Below.refl _ _⟩
    | some ad =>
      have hc : ∀ j u, (ks.map Value.bool)[j]? = some u → w.cell? (ad.add j) = some u := fun j u hu => by
        rw [List.getElem?_map, Option.map_eq_some_iff] at hu
        obtain ⟨b, hb, rfl⟩ := hu
        obtain ⟨g, o', e', hc⟩ := hK.hcells j b hb
        obtain rfl := Option.some.inj e'
        rw [Addr.add_lit]; exact hc
      have h1 : ∀ u ∈ ks.map Value.bool, u.oneCell' = true := fun u hu => by
        obtain ⟨b, _, rfl⟩ := List.mem_map.1 hu
        rfl
      obtain ⟨v', w', hr, h2, h3, _⟩ := run_append_own (P := P) w w.heap.size t o.type e i z 1 1 ht hi hz hsize hby hzs (by decide) _ 0 [] hnil ad kn kc (ks.map Value.bool) (by simp [hK.hlen]) hc h1 (by unfold maxLen; omega) (by omega) (Nat.le_refl _)
      refine ⟨v', w', hr, by simpa using h2, (Below.refl _ w).grown h3 (Nat.le_refl _) (fun k hk => by cases hk)⟩
  refine wpList_plain hgd fun K hK => ?_
  obtain ⟨v', w', hr, h2, h3⟩ := key
  unfold Oper.wp execOp
  simp only [ho, resolve, invoke, builtin, Sem.run_bind, Sem.run_pure, Result.andThen_ok, List.map_toArray, List.map_cons, List.map_nil, hs, hx, hr]
  exact hK _ _ (h v' w' h2 h3)
end
/-- A row of bools that may go on. -/
theorem own_kb {w : World} {base n : Nat} {v : Value} {ks : List Bool} (h : w.ownsRow base 4 1 v n (ks.map Value.bool)) (h0 : 0 < n) : ∃ g c, v = .slice (some ⟨g, 0, none⟩) n c ∧ base ≤ g ∧ n ≤ c ∧ g < w.heap.size ∧ ∀ j b, ks[j]? = some b → w.cell? ⟨g, j, none⟩ = some (.bool b) := by
  have hl := h.1
  rcases h.2 with ⟨_, rfl⟩ | ⟨g, cap, cur, rfl, hg, hh, hnc, _⟩
  · omega
  · refine ⟨g, cap, rfl, hg, hnc, heap_lt hh, fun j b hj => ?_⟩
    have hjl := (List.getElem?_eq_some_iff.1 hj).1
    rw [List.length_map] at hl
    rw [h.cellAt j (by omega), List.getElem?_map, hj]
    rfl

set_option maxHeartbeats 4000000 in
theorem done_crash {w : World} {base yb : Nat} {s : Int} {N : Nat} {a b : Nat → Value} {T : Nat → Option PairT} {bv : Value} {es : List Ke} (h : Pz w base yb s N a b T bv es (fun _ => False)) (hbal : Bal T) (hT2 : T 2 = none) {q : Nat} (hq : q ≤ 1) {t : PairT} (ht : T q = some t) (hN : N ≤ 1000000000) (hes : es.length ≤ 900000000000) (k1 k2 k3 : Value) (da : Option Addr) (dn dc : Nat) (bs : List Int) (ka : Option Addr) (kn kc : Nat) (ks : List Bool) (hok : OpOk w base da dn dc bs ka kn kc ks) :
    Calls Try.prog 7 #[.pointer (some ⟨yb, 0, none⟩), .agg #[.pointer (some ⟨t.db, 0, none⟩), .pointer (some ⟨t.rb, 0, none⟩)], .agg #[.int .i64 8, k1, k2, k3, .slice da dn dc, .slice ka kn kc]] w fun e w' => e = .returned (.bool true) ∧ Aft w w' base yb s (N + 1) a b (es.length + 3) := by
  have hNes : N ≤ 1000000000 ∧ es.length ≤ 900000000000 := ⟨hN, hes⟩
  clear hNes
  have hSU := hbal q t ht
  obtain ⟨db, rb, S, U, k, F, R⟩ := t
  simp only at hSU
  subst hSU
  obtain ⟨W, hW⟩ : ∃ W, (w.alloc (.cells #[.pointer (some ⟨db, 0, none⟩), .pointer (some ⟨rb, 0, none⟩)] 28)).alloc (.cells #[.int .i64 8, k1, k2, k3, .slice da dn dc, .slice ka kn kc] 36) = W := ⟨_, rfl⟩
  have hbW : Below w.heap.size w W := by rw [← hW]; exact alloc2 _ _ _
  have bx := Box2.new w 28 36 (.pointer (some ⟨db, 0, none⟩)) (.pointer (some ⟨rb, 0, none⟩)) (.int .i64 8) k1 k2 k3 (.slice da dn dc) (.slice ka kn kc)
  rw [hW] at bx
  have hs : W.heap.size = w.heap.size + 2 := by rw [← hW]; simp
  obtain ⟨z0, f0⟩ := h.below hbW
  replace z0 := z0.less (P' := fun i => i = w.heap.size ∨ i = w.heap.size + 1) (fun i hi => Or.inr (by omega))
  have B0 := f0.blw
  have hpn := (z0.two (by omega) ht).2.2.1.pn
  simp only at hpn
  obtain ⟨B, hB⟩ : ∃ B, w.heap.size = B := ⟨_, rfl⟩
  have HB : Hid (w.heap.size = B) := hB
  rw [hB] at bx z0
  clear h hs f0
  have p0 := bx.p0
  have o0 := bx.o0
  go_enter Try.func7, Try.ntmps7
  have o5 := bx.o5
  have hokW := hok.below B0
  obtain ⟨i0, hi, hz0, hz1, hz2⟩ := info_parts Try.info4
  have hkm := hok.km
  have hkl := hok.k.hlen
  go_wp2_with (first
    | (at_builtin; refine wpList_append_bools _ rfl _ _ 34 rfl 4 i0 (.bool false) Try.underlying34 hi hz0 hz1 hz2 rfl ka kn kc ks hokW.k hok.kz hkm rfl rfl ?_; intro v1 w1 ho1 hb1; obtain ⟨a1, c1, rfl⟩ := row_slice ho1)
    | (at_builtin; refine wpList_append_own _ rfl _ _ 34 rfl W.heap.size 4 i0 (.bool false) 1 1 Try.underlying34 hi hz0 hz1 hz2 rfl (by decide) _ kn _ rfl (ho1.alloc _) ⟨w1.heap.size, 0, none⟩ 3 3 [.bool true, .bool true, .bool false] rfl rfl (cell_three_new _ _ _ _ _) (by intro u hu; simp at hu; rcases hu with rfl | rfl <;> rfl) (by unfold maxLen; omega) (by omega) (by have := hb1.size; simp; omega) ?_; intro v2 w2 ho2 hg2 hn2; rw [show ks.map Value.bool ++ [.bool true, .bool true, .bool false] = (ks ++ [true, true, false]).map Value.bool by simp] at ho2; obtain ⟨g, c2, rfl, hgW, hgc, hgl, hgk⟩ := own_kb ho2 (by omega)))
  have hA := hb1.alloc hb1.size (.cells #[.bool true, .bool true, .bool false] 4)
  have bW2 : Below W.heap.size W w2 := hA.trans ((Turns.grown (F := fun i => (Value.slice a1 kn c1).ownBlock = some i) hg2 (fun b hb => hb)).below (fun i e => (ho1.lt i e).1) hA.size)
  obtain ⟨z2, f2⟩ := z0.below bW2
  have bx2 := bx.fr f2 (Or.inl rfl) (Or.inr rfl)
  replace z2 := z2.less (P' := fun i => i = B ∨ i = B + 1 ∨ i = g) (fun i hi => by
    rcases hi with r | r | r
    · exact Or.inl (Or.inl r)
    · exact Or.inl (Or.inr r)
    · exact Or.inr (by omega))
  have B2 := B0.trans f2.blw
  have z2d : Pz w2.drew base yb s N a b T bv es (fun i => i = B ∨ i = B + 1 ∨ i = g) := z2.drewN 1
  have B2d : Below base w w2.drew := ⟨B2.os, B2.tape, B2.output, B2.size, B2.block⟩
  obtain ⟨p0', p1', o0', o1', o2', o3', o4', o5'⟩ := bx2
  have hKw : KLies w2.drew (some ⟨g, 0, none⟩) kn c2 ks := ⟨hkl, by omega, fun j b hj => ⟨g, 0, rfl, by
    rw [Nat.zero_add]
    refine hgk j b ?_
    rw [List.getElem?_append_left (List.getElem?_eq_some_iff.1 hj).1]
    exact hj⟩⟩
  obtain ⟨dv, _, hPF, _, _⟩ := (z2d.two (by omega) ht).2.2
  have hFg : ∀ ad, (some ⟨g, 0, none⟩ : Option Addr) = some ad → ¬ F ad.block := fun ad had => by obtain rfl := Option.some.inj had; exact (hPF g (Or.inr (Or.inr rfl))).1
  have hci : (kn : Int) ≤ c2 := by omega
  clear p0 o0 o5 ho1 ho2 hg2 hn2 hA bW2 hb1
  go_region_held3 (fun w' => w'.cell? ⟨B, 0, none⟩ = some (.pointer (some ⟨db, 0, none⟩)) ∧ w'.cell? ⟨B + 1, 5, none⟩ = some (.slice ka kn kc)) (first | exact ⟨p0', o5'⟩ | exact ⟨y0, y5⟩)
    (first
      | (go_at_call 16; refine (crash_any dv (some ⟨g, 0, none⟩) kn c2 ks hKw (by omega) hFg (by omega)).mono ?_; rintro e w3 ⟨rfl, hw3⟩; obtain ⟨z3, f3⟩ := z2d.dev (by omega) ht hw3 (Nat.le_refl N); have y0 : w3.cell? ⟨B, 0, none⟩ = some (.pointer (some ⟨db, 0, none⟩)) := f3.cell (Or.inl rfl) p0'; have y1 : w3.cell? ⟨B, 1, none⟩ = some (.pointer (some ⟨rb, 0, none⟩)) := f3.cell (Or.inl rfl) p1'; have y5 : w3.cell? ⟨B + 1, 5, none⟩ = some (.slice ka kn kc) := f3.cell (Or.inr (Or.inl rfl)) o5'))
  have ht3 := upd_same T q (some (⟨db, rb, crashed S ks, S, k, grow F w2.drew w3, R⟩ : PairT))
  have hgk3 : ∀ j b, (ks ++ [true, true, false])[j]? = some b → w3.cell? ⟨g, j, none⟩ = some (.bool b) := fun j b hj => f3.cell (Or.inr (Or.inr rfl)) (hgk j b hj)
  have B3 := B2d.trans f3.blw
  have hok3 := hok.below B3
  obtain ⟨_, rv3, hPR, _, hRb⟩ := (z3.two (by omega) ht3).2.2
  clear p0' p1' o0' o1' o2' o3' o4' o5' z2 z2d dv hw3 y0 hgk hKw
  go_wp2_with fail
  refine (refCrash_any rv3 (by omega) ka kn kc ks hok3.k (by omega) (fun ad had h0 r => by have := hok.kl ad had h0; have := hRb _ r; omega)).mono ?_
  rintro e w4 ⟨rfl, hw4⟩
  obtain ⟨z4, f4⟩ := z3.ref (by omega) ht3 hw4
  have hgk4 : ∀ j b, (ks ++ [true, true, false])[j]? = some b → w4.cell? ⟨g, j, none⟩ = some (.bool b) := fun j b hj => f4.cell (Or.inr (Or.inr rfl)) (hgk3 j b hj)
  have B4 := B3.trans f4.blw
  have hok4 := hok.below B4
  have v5 : w4.cell? ⟨B + 1, 5, none⟩ = some (.slice ka kn kc) := f4.cell (Or.inr (Or.inl rfl)) y5
  have hAf : ∀ m, Aft w (w4.drewN m) base yb s (N + 1) a b (es.length + 3) := fun m => Aft.of (z4.drewN m) hbal hT2 hq (fun r hr => by rw [upd_other _ _ hr, upd_other _ _ hr]) (upd_same _ _ _) rfl (by omega) (Nat.le_succ N) (below_drewN B4 m)
  have HA : Hid (∀ m, Aft w (w4.drewN m) base yb s (N + 1) a b (es.length + 3)) := hAf
  have hKK := hok4.k
  have e1 : (ks ++ [true, true, false])[kn]? = some true := by rw [List.getElem?_append_right (by omega), hkl]; simp
  have e2 : (ks ++ [true, true, false])[kn + 1]? = some true := by rw [List.getElem?_append_right (by omega), hkl]; simp
  have e3 : (ks ++ [true, true, false])[kn + 2]? = some false := by rw [List.getElem?_append_right (by omega), hkl]; simp
  have x1 := hgk4 _ _ e1
  have x2 := hgk4 _ _ e2
  have x3 := hgk4 _ _ e3
  have hgk5 : ∀ j b, ks[j]? = some b → w4.cell? ⟨g, j, none⟩ = some (.bool b) := fun j b hj => hgk4 j b (by rw [List.getElem?_append_left (List.getElem?_eq_some_iff.1 hj).1]; exact hj)
  have hkni : (kn : Int) ≤ 2000000 := by omega
  clear z3 z4 rv3 hw4 ht3 y1 y5 hgk3 hgk4 hAf e1 e2 e3 hPR hRb
  go_wp2_with fail
  go_loopw [16] (fun i wr => ∃ j m : Nat, j ≤ kn ∧ i = .int .i64 j ∧ wr = w4.drewN m) (fun i _ => kn - (intOf i).toNat)
  case atStart => exact ⟨0, 0, Nat.zero_le _, rfl, rfl⟩
  case round =>
    obtain ⟨j, m, hj, rfl, rfl⟩ := hrel
    by_cases hlt : j < kn
    · have hji : (j : Int) < kn := by omega
      obtain ⟨b0, hb0⟩ : ∃ b0, ks[j]? = some b0 := ⟨_, List.getElem?_eq_getElem (by omega)⟩
      obtain ⟨kg, ko, rfl, u1⟩ := hKK.hcells j b0 hb0
      have u2 := hgk5 j b0 hb0
      clear x1 x2 x3 hKK hgk5 hb0
      cases b0
      all_goals (
        go_wp2_with fail
        go_quiet (fail)
        go_wp2_with fail
        go_roundw
        case rel => exact ⟨j + 1, _, by omega, by go_num, rfl⟩
        case measure => simp [intOf]; omega)
    · obtain rfl : j = kn := by omega
      have hA := HA.out m
      go_wp2
      go_ret
      exact ⟨rfl, hA⟩
end Go.Proofs.Ytejfbjjhnhlagaa
