/- NetRefuses, walked. -/
import Derived.Test.YtpbanjgjljdepaaR1
namespace Go.Proofs.Ytpbanjgjljdepaa
open Go.RowKit Go.Maps
set_option maxRecDepth 100000
theorem Bz.Lie.at {W : World} {ao : Option Addr} {n i : Nat} {os : List Bz} (h : Bz.Lie W ao n os) (hi : i < n) : ∃ g a da dn dc Z, ao = some ⟨g, a, none⟩ ∧ W.cell? ⟨g, a + i, none⟩ = some (.slice da dn dc) ∧ Lies W da dn dc Z ∧ dn ≤ 140737488351232 := by
  obtain ⟨o, ho⟩ : ∃ o, os[i]? = some o := ⟨_, List.getElem?_eq_getElem (by rw [h.hlen]; exact hi)⟩
  obtain ⟨h1, g, a, e, h2⟩ := h.hat i o ho
  have := h2 0 _ rfl
  rw [Nat.mul_one, Nat.add_zero] at this
  exact ⟨g, a, o.da, o.dn, o.dc, o.Z, e, this, h1.li, h1.le⟩
set_option maxHeartbeats 8000000 in
theorem netRefuses_any (ao : Option Addr) (n c : Nat) (os : List Bz) (no at_ x : Int) (w : World) (hL : Bz.Lie w ao n os) (hn : n ≤ 140737488355328) (kno : KeyI no) (kat : KeyI at_) (kx : KeyI x) :
    Calls Try.prog 4 #[.slice ao n c, .int .i64 no, .int .i64 at_, .int .i64 x] w fun e w' => e = .returned (.bool true) ∧ Below w.heap.size w w' := by
  have hni : (n : Int) ≤ 140737488355328 := by omega
  go_enter Try.func4, Try.ntmps4
  go_wp2_with fail
  refine (known_any w).mono ?_
  rintro e w1 ⟨rfl, b1⟩
  have W1 := (Wk.refl w).below b1 9
  go_wp2_with fail
  refine (RfI.new W1).mono ?_
  rintro e w2 ⟨xb, rfl, F2⟩
  clear b1 W1
  go_wp2_with fail
  go_loopw [11] (fun i wr => ∃ t : Nat, t ≤ n ∧ t ≤ 300 ∧ i = .int .i64 t ∧ RfI w wr xb t) (fun i _ => 300 - (intOf i).toNat)
  case atStart => exact ⟨0, Nat.zero_le _, Nat.zero_le _, rfl, F2⟩
  case round =>
    obtain ⟨t, ht, ht3, rfl, F3⟩ := hrel
    by_cases hlt : t < n ∧ t < 300
    · obtain ⟨hlt1, hlt2⟩ := hlt
      have a1 : (t : Int) < n := by omega
      have a2 : (t : Int) < 300 := by omega
      obtain ⟨g, a, da, dn, dc, Z, rfl, x0, hZ, hdn⟩ := (hL.below F3.at).at hlt1
      have hS := F3.send (by omega) t hZ (Nat.le_trans hdn (by decide))
      clear F3 F2 hZ
      go_wp2_with fail
      refine hS.mono ?_
      rintro e w3 ⟨⟨r, rfl⟩, F3⟩
      clear hS
      go_wp2_with fail
      go_roundw
      case rel => first | exact ⟨t + 1, by omega, by omega, by go_num, F3⟩ | (repeat apply Exists.intro; refine And.intro ?_ rfl; exact ⟨t + 1, by omega, by omega, by go_num, F3⟩)
      case measure => simp [intOf]; omega
    · have hU := F3.under
      have HX : Hid (¬ (t < n ∧ t < 300)) := hlt
      have hst : ((t : Int) < n ∧ ¬ (t : Int) < 300) ∨ ¬ (t : Int) < n := by omega
      clear F3 F2 hlt
      rcases hst with ⟨s1, s2⟩ | s1
      all_goals
        go_wp2_with fail
        refine hU.mono ?_
        rintro e w3 ⟨S, lab, av, cv, fs, rfl, N3, hfl, hS⟩
        clear hU
        have HF : Hid (fs.map En.fl = S.l) := hfl
        have HS : Hid (Sq S t) := hS
        have hlf : Hid (fs.length ≤ 1000000) := by
          have e1 := congrArg List.length hfl
          rw [List.length_map, hS.le] at e1
          show _ ≤ _
          omega
        clear hfl hS
        by_cases hu : 1 ≤ no ∧ no ≤ t
        · obtain ⟨u1, u2⟩ := hu
          obtain ⟨i, hi⟩ : ∃ i : Nat, no = (i : Int) + 1 := ⟨(no - 1).toNat, by omega⟩
          subst hi
          have hit : i < t := by omega
          obtain ⟨e, he⟩ : ∃ e, fs[i]? = some e := ⟨_, List.getElem?_eq_getElem (by have e1 := congrArg List.length HF.out; rw [List.length_map, HS.out.le] at e1; omega)⟩
          have hSl : S.l[i]? = some e.fl := by rw [← HF.out, List.getElem?_map, he]; rfl
          have hfd := HS.out.some N3.nt.ok hSl
          have hno : e.no = (i : Int) + 1 := HS.out.at_ i _ hSl
          obtain ⟨q1, q2, q3, q4, q5⟩ := findS_some hfd
          have hsm : (findS S ((i : Int) + 1)).isSome = true := by rw [hfd]; rfl
          obtain ⟨g, cc, hv, x0, x1, x2⟩ := N3.fr.at he
          have hfl2 : fs.length = t := by have e1 := congrArg List.length HF.out; rw [List.length_map, HS.out.le] at e1; exact e1
          rw [hfl2] at hv
          obtain ⟨rfl, rfl⟩ : av = some ⟨g, 0, none⟩ ∧ cv = cc := by cases hv; exact ⟨rfl, rfl⟩
          have hd := N3.fr.en.da e (List.mem_of_getElem? he)
          obtain ⟨ea, ec, hev⟩ := hd.slice
          obtain ⟨m, hm⟩ : ∃ m, e.d.length = m := ⟨_, rfl⟩
          have hml : m ≤ 140737488355328 := by rw [← hm]; exact hd.len
          rw [hm] at hev
          rw [hev] at x2
          have hsub : IntKind.i64.wrap ((i : Int) + 1 - 1) = i := by rw [IntKind.wrap_i64]; omega
          have a3 : (i : Int) < t := by omega
          have a4 : (t : Int) ≤ 300 := by omega
          have hkn : KeyI ((i : Int) + 1) := kno
          have HD : Hid (takeD S ((i : Int) + 1) = e.d) := q2
          have HE : Hid (fs[i]? = some e) := he
          have HM : Hid (e.d.length = m) := hm
          have HV : Hid (e.v = .slice ea m ec) := hev
          have HNo : Hid (e.no = (i : Int) + 1) := hno
          have hFp := flipN N3.nt (at_ := at_) (v := x) hkn
          clear hd hfd hSl q1 q2 q3 q4 q5 he hm hev hno hv hfl2 u1
          by_cases ha : 0 ≤ at_ ∧ at_ < m
          · by_cases hx : 1 ≤ x ∧ x ≤ 255
            · have qE : flipE S ((i : Int) + 1) at_ x = 0 := by unfold flipE; rw [if_pos hsm, HD.out, HM.out, if_pos ha, if_pos hx]
              have qS : (flipS S ((i : Int) + 1) at_ x).l = S.l.map fun f => if f.no = (i : Int) + 1 then ⟨f.no, f.to, flipD f.d at_ x⟩ else f := by unfold flipS; rw [if_pos qE]
              obtain ⟨a, rfl⟩ : ∃ a : Nat, at_ = a := ⟨at_.toNat, by omega⟩
              have hai : (a : Int) < m := by omega
              rw [qE] at hFp
              have HQ : Hid ((flipS S ((i : Int) + 1) a x).l = S.l.map fun f => if f.no = (i : Int) + 1 then ⟨f.no, f.to, flipD f.d a x⟩ else f) := qS
              have hwv : IntKind.u8.wrap x = x := by simp [IntKind.wrap, IntKind.bits, IntKind.signed]; omega
              obtain ⟨S', hS'⟩ : ∃ S', flipS S ((i : Int) + 1) a x = S' := ⟨_, rfl⟩
              rw [hS'] at hFp HQ
              clear qE qS hsm hS'
              go_wp2_with fail
              refine hFp.mono ?_
              rintro en w4 ⟨rfl, h4, t4⟩
              have N4 := N3.step t4 h4
              generalize rl lab w3 1 = l4 at N4
              clear hFp N3 t4 h4 x0 x1 x2
              obtain ⟨g', c', hv', y0, y1, y2⟩ := N4.fr.at HE.out
              have hlf2 : fs.length = t := by have e1 := congrArg List.length HF.out; rw [List.length_map, HS.out.le] at e1; exact e1
              rw [hlf2] at hv'
              obtain ⟨rfl, rfl⟩ : g = g' ∧ cv = c' := by cases hv'; exact ⟨rfl, rfl⟩
              rw [HV.out] at y2
              have hd4 := N4.fr.en.da e (List.mem_of_getElem? HE.out)
              have ho4 : w4.ownsRow 0 5 1 (.slice ea m ec) m (e.d.map (Value.int .u8)) := by have := hd4.own; rw [HV.out, HM.out] at this; exact this
              obtain ⟨gd, rfl⟩ : ∃ gd, ea = some ⟨gd, 0, none⟩ := by
                rcases ho4.2 with ⟨_, h0⟩ | ⟨gd, cap, cur, q, _⟩
                · omega
                · cases q; exact ⟨gd, rfl⟩
              have g0 : w4.cell? ⟨gd, a, none⟩ = some (.int .u8 (e.d.getD a 0)) := by
                rw [ho4.cellAt a (by omega)]
                have hl := HM.out
                simp [List.getD, show a < e.d.length by omega]
              have fz := ho4.frozenAt a
              obtain ⟨C, hC⟩ : ∃ C, e.d.getD a 0 = C := ⟨_, rfl⟩
              rw [hC] at g0
              have HC : Hid (e.d.getD a 0 = C) := hC
              have Hlg : Hid (l4 gd = 2 ∧ gd < w4.heap.size) := ⟨hd4.lb gd (by rw [HV.out]; rfl), hd4.lt gd (by rw [HV.out]; rfl)⟩
              have HN4 : Hid (Nf w w4 l4 xb S' (.slice (some ⟨g, 0, none⟩) t cv) fs) := N4
              clear hd4 ho4 hC hv' N4 hlf2
              go_wp2_with fail
              go_region
              have N4 := HN4.out
              have t2 := Turns.cell w4 gd a (.int .u8 (xorB C x))
              have tD : Turns (fun _ => False) (w4.setCell ⟨gd, a, none⟩ (.int .u8 (xorB C x))) (w4.setCell ⟨gd, a, none⟩ (.int .u8 (xorB C x))).drew := Turns.drewN _ _ 1
              have t3 : Turns (fun i => i = gd) w4 (w4.setCell ⟨gd, a, none⟩ (.int .u8 (xorB C x))).drew := t2.trans tD (fun _ _ q => q.elim)
              have hri : fs.Pairwise (fun a b => a.no < b.no) := by
                refine List.pairwise_iff_getElem.2 fun p q hp hq hpq => ?_
                have e1 := HS.out.at_ p (fs[p]).fl (by rw [← HF.out, List.getElem?_map, List.getElem?_eq_getElem hp]; rfl)
                have e2 := HS.out.at_ q (fs[q]).fl (by rw [← HF.out, List.getElem?_map, List.getElem?_eq_getElem hq]; rfl)
                simp only at e1 e2
                omega
              have hfn : fnd fs ((i : Int) + 1) = some e := by
                obtain ⟨y, hy⟩ : ∃ y, fnd fs ((i : Int) + 1) = some y := Option.isSome_iff_exists.1 (List.find?_isSome.2 ⟨e, List.mem_of_getElem? HE.out, by simp [HNo.out]⟩)
                obtain ⟨r1, r2⟩ := fnd_mem hy
                have : ∀ {l : List En}, l.Pairwise (fun a b => a.no < b.no) → ∀ {a b : En}, a ∈ l → b ∈ l → a.no = b.no → a = b := fun {l} hl => by
                  induction l with
                  | nil => intro a b ha; cases ha
                  | cons z l ih =>
                    obtain ⟨p1, p2⟩ := List.pairwise_cons.1 hl
                    intro a b ha hb hab
                    rcases List.mem_cons.1 ha with r | r <;> rcases List.mem_cons.1 hb with s | s
                    · rw [r, s]
                    · have := p1 b s; rw [r] at hab; omega
                    · have := p1 a r; rw [s] at hab; omega
                    · exact ih p2 r s hab
                rw [this hri r1 (List.mem_of_getElem? HE.out) (by rw [r2, HNo.out])] at hy
                exact hy
              have f5 := N4.fr.flip hri (at_ := (a : Int)) (x := x) hfn (g := gd) (c := ec) (by rw [HV.out, HM.out])
              rw [show ((a : Int).toNat) = a from rfl, HC.out] at f5
              have N5 : Nf w (w4.setCell ⟨gd, a, none⟩ (.int .u8 (xorB C x))).drew l4 xb S' (.slice (some ⟨g, 0, none⟩) t cv) (fs.map (flE ((i : Int) + 1) a x)) :=
                ⟨N4.nt.turns t3 (fun i _ q r => by rw [r, Hlg.out.1] at q; cases q) (fun _ _ q => q), N4.wk.turns t3 (fun i q r => by rw [q, Hlg.out.1] at r; cases r) (fun _ _ => rfl), f5.turns tD (fun _ _ _ q => q) (fun _ _ q => q)⟩
              have hF5 : (fs.map (flE ((i : Int) + 1) a x)).map En.fl = S'.l := by rw [flE_fl, HF.out, HQ.out]
              have hl5 : (fs.map (flE ((i : Int) + 1) a x)).length ≤ 1000000 := by rw [List.length_map]; exact hlf.out
              clear N4 t2 tD t3 hri hfn f5
              go_wp2_with (go_at_call 13; refine (num_any _ _).mono ?_; rintro e wn ⟨rfl, hwn⟩; subst wn)
              have hU := N5.under hF5 hl5
              clear N5
              go_wp2_with fail
              refine hU.mono ?_
              rintro e w8 ⟨u8, rfl, b8, hSF⟩
              clear hU
              go_wp2_with fail
              refine hSF.mono ?_
              rintro e w9 ⟨rfl, b9⟩
              clear hSF
              go_wp2_with fail
              go_ret
              exact ⟨rfl, b8.trans (b9.mono b8.size)⟩
            · have qE : flipE S ((i : Int) + 1) at_ x = 203 := by unfold flipE; rw [if_pos hsm, HD.out, HM.out, if_pos ha, if_neg hx]
              have qS : flipS S ((i : Int) + 1) at_ x = S := by unfold flipS; rw [qE]; rfl
              rw [qE, qS] at hFp
              obtain ⟨ha1, ha2⟩ := ha
              have hxx : x < 1 ∨ (¬ x < 1 ∧ 255 < x) := by omega
              clear qE qS hsm hx
              go_wp2_with fail
              refine hFp.mono ?_
              rintro en w4 ⟨rfl, h4, t4⟩
              have N5 := N3.step t4 h4
              generalize rl lab w3 1 = l4 at N5
              clear hFp N3 t4 h4
              rcases hxx with hx1 | ⟨hx1, hx2⟩
              · go_wp2_with (go_at_call 13; refine (num_any _ _).mono ?_; rintro e wn ⟨rfl, hwn⟩; subst wn)
                have hU := N5.under HF.out hlf.out
                clear N5
                go_wp2_with fail
                refine hU.mono ?_
                rintro e w8 ⟨u8, rfl, b8, hSF⟩
                clear hU
                go_wp2_with fail
                refine hSF.mono ?_
                rintro e w9 ⟨rfl, b9⟩
                clear hSF
                go_wp2_with fail
                go_ret
                exact ⟨rfl, b8.trans (b9.mono b8.size)⟩
              · go_wp2_with (go_at_call 13; refine (num_any _ _).mono ?_; rintro e wn ⟨rfl, hwn⟩; subst wn)
                have hU := N5.under HF.out hlf.out
                clear N5
                go_wp2_with fail
                refine hU.mono ?_
                rintro e w8 ⟨u8, rfl, b8, hSF⟩
                clear hU
                go_wp2_with fail
                refine hSF.mono ?_
                rintro e w9 ⟨rfl, b9⟩
                clear hSF
                go_wp2_with fail
                go_ret
                exact ⟨rfl, b8.trans (b9.mono b8.size)⟩
          · have qE : flipE S ((i : Int) + 1) at_ x = 202 := by unfold flipE; rw [if_pos hsm, HD.out, HM.out, if_neg ha]
            have qS : flipS S ((i : Int) + 1) at_ x = S := by unfold flipS; rw [qE]; rfl
            rw [qE, qS] at hFp
            have haa : ¬ 0 ≤ at_ ∨ (0 ≤ at_ ∧ decide (at_ < (m : Int)) = false) := by
              by_cases h0 : 0 ≤ at_
              · exact Or.inr ⟨h0, decide_eq_false (by omega)⟩
              · exact Or.inl h0
            clear qE qS hsm ha
            rcases haa with ha1 | ⟨ha1, ha2⟩
            all_goals
              go_wp2_with fail
              refine hFp.mono ?_
              rintro en w4 ⟨rfl, h4, t4⟩
              have N5 := N3.step t4 h4
              generalize rl lab w3 1 = l4 at N5
              clear hFp N3 t4 h4
              go_wp2_with (go_at_call 13; refine (num_any _ _).mono ?_; rintro e wn ⟨rfl, hwn⟩; subst wn)
              have hU := N5.under HF.out hlf.out
              clear N5
              go_wp2_with fail
              refine hU.mono ?_
              rintro e w8 ⟨u8, rfl, b8, hSF⟩
              clear hU
              go_wp2_with fail
              refine hSF.mono ?_
              rintro e w9 ⟨rfl, b9⟩
              clear hSF
              go_wp2_with fail
              go_ret
              exact ⟨rfl, b8.trans (b9.mono b8.size)⟩
        · have hfn := HS.out.none hu
          obtain ⟨z1, z2, z3, z4, z5, z6⟩ := findS_none hfn
          obtain ⟨z7, z8⟩ := flip_none hfn 0 1
          have hlast : S.last < 4611686018427387904 := by rw [HS.out.la]; omega
          have hT := takeN N3.nt kno 3
          rw [z1, z2, z3, z4] at hT
          have huu : ¬ 1 ≤ no ∨ (1 ≤ no ∧ decide (no ≤ (t : Int)) = false) := by
            by_cases h0 : 1 ≤ no
            · exact Or.inr ⟨h0, decide_eq_false (by omega)⟩
            · exact Or.inl h0
          have HZ : Hid (takeE S no = 201 ∧ takeS S no = S ∧ copyS S no = S ∧ copyA S no = 0 ∧ flipE S no 0 1 = 201 ∧ flipS S no 0 1 = S) := ⟨z1, z4, z5, z6, z7, z8⟩
          clear hu hfn z1 z2 z3 z4 z5 z6 z7 z8
          rcases huu with hu1 | ⟨hu1, hu2⟩
          all_goals
            go_wp2_with fail
            refine hT.mono ?_
            rintro en w4 ⟨u, rfl, h4, d4, t4, hu4⟩
            have N4 := N3.take t4 hu4 h4
            obtain ⟨ua, uc, rfl⟩ := d4.slice
            generalize tl lab w3 1 3 (.slice ua ([] : List Int).length uc) = l4 at N4
            clear hT N3 h4 d4 t4 hu4
            rw [show ([] : List Int).length = 0 from rfl]
            obtain ⟨W4, hW4⟩ : ∃ W, w4.alloc (.cells #[.int .i64 0, .slice ua 0 uc] 28) = W := ⟨_, rfl⟩
            have N5 := N4.more (w' := W4) (by rw [← hW4]; exact (Below.refl _ w4).alloc (Nat.le_refl _) _)
            generalize rl l4 w4 9 = l5 at N5
            have hD := dropN N5.nt kno
            rw [HZ.out.1, HZ.out.2.1] at hD
            clear N4
            go_wp2_with fail
            refine hD.mono ?_
            rintro en w6 ⟨rfl, h6, t6⟩
            have N6 := N5.step t6 h6
            generalize rl l5 W4 1 = l6 at N6
            have hC := copyN N6.nt hlast kno
            rw [HZ.out.1, HZ.out.2.2.1, HZ.out.2.2.2.1] at hC
            clear hD N5 h6 t6 hW4
            go_wp2_with fail
            refine hC.mono ?_
            rintro en w7 ⟨rfl, h7, t7⟩
            have N7 := N6.step t7 h7
            generalize rl l6 w6 1 = l7 at N7
            have hFp := flipN N7.nt (at_ := 0) (v := 1) kno
            rw [HZ.out.2.2.2.2.1, HZ.out.2.2.2.2.2] at hFp
            clear hC N6 h7 t7
            go_wp2_with fail
            refine hFp.mono ?_
            rintro en w10 ⟨rfl, h10, t10⟩
            have N5 := N7.step t10 h10
            generalize rl l7 w7 1 = l10 at N5
            clear hFp N7 h10 t10
            go_wp2_with (go_at_call 13; refine (num_any _ _).mono ?_; rintro e wn ⟨rfl, hwn⟩; subst wn)
            have hU := N5.under HF.out hlf.out
            clear N5
            go_wp2_with fail
            refine hU.mono ?_
            rintro e w8 ⟨u8, rfl, b8, hSF⟩
            clear hU
            go_wp2_with fail
            refine hSF.mono ?_
            rintro e w9 ⟨rfl, b9⟩
            clear hSF
            go_wp2_with fail
            go_ret
            exact ⟨rfl, b8.trans (b9.mono b8.size)⟩
end Go.Proofs.Ytpbanjgjljdepaa
