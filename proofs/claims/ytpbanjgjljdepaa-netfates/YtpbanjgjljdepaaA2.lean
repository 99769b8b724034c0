/- NetFates, walked. -/
import Derived.Test.YtpbanjgjljdepaaA1
namespace Go.Proofs.Ytpbanjgjljdepaa
open Go.RowKit Go.Maps
set_option maxRecDepth 100000
set_option maxHeartbeats 60000000 in
theorem netFates_any (ao : Option Addr) (n c : Nat) (os : List Ft) (w : World) (hL : Ft.Lie w ao n os) (hn : n ≤ 140737488355328) :
    Calls Try.prog 5 #[.slice ao n c] w fun e w' => e = .returned (.bool true) ∧ Below w.heap.size w w' := by
  obtain ⟨i0, hi, hz0, hz1, hz2⟩ := info_parts Try.infoFL
  have hni : (n : Int) ≤ 140737488355328 := by omega
  go_enter Try.func5, Try.ntmps5
  go_wp2_with fail
  refine (known_any w).mono ?_
  rintro e w1 ⟨rfl, b1⟩
  have W1 := (Wk.refl w).below b1 9
  go_wp2_with fail
  refine (FtI.new W1).mono ?_
  rintro e w2 ⟨xb, rfl, F2⟩
  clear b1 W1
  go_wp2_with fail
  go_loopw [5, 6, 7] (fun v la i wr => ∃ (t : Nat) (l : Int), t ≤ n ∧ t ≤ 1000 ∧ i = .int .i64 t ∧ la = .int .i64 l ∧ FtI w wr xb v l t) (fun _ _ i _ => 1000 - (intOf i).toNat)
  case atStart => exact ⟨0, 0, Nat.zero_le _, Nat.zero_le _, rfl, rfl, F2⟩
  case round =>
    obtain ⟨t, l, ht, ht3, rfl, rfl, F3⟩ := hrel
    by_cases hlt : t < n ∧ t < 1000
    · obtain ⟨hlt1, hlt2⟩ := hlt
      have a1 : (t : Int) < n := by omega
      have a2 : (t : Int) < 1000 := by omega
      obtain ⟨g, a, o, hao, hIn, hIl, x0, x1, x2, x3, x4⟩ := hL.at2 F3.at hlt1
      subst hao
      obtain ⟨kk, hkk⟩ : ∃ kk, o.k = kk := ⟨_, rfl⟩
      rw [hkk] at x0
      clear hkk
      obtain ⟨W1, hW1⟩ : ∃ W, wr.alloc (.cells #[.int .i64 kk, .int .i64 o.K, .int .i64 o.a, .int .i64 o.v, .slice o.da o.dn o.dc] 47) = W := ⟨_, rfl⟩
      have b1 : Below wr.heap.size wr W1 := by rw [← hW1]; exact (Below.refl _ wr).alloc (Nat.le_refl _) _
      have z1 : W1.heap[wr.heap.size]? = some (.cells #[.int .i64 kk, .int .i64 o.K, .int .i64 o.a, .int .i64 o.v, .slice o.da o.dn o.dc] 47) := by rw [← hW1]; exact heap_alloc_new wr _
      have y0 : W1.cell? ⟨wr.heap.size, 0, none⟩ = some (.int .i64 kk) := by simp [World.cell?, z1]
      have y1 : W1.cell? ⟨wr.heap.size, 1, none⟩ = some (.int .i64 o.K) := by simp [World.cell?, z1]
      have y2 : W1.cell? ⟨wr.heap.size, 2, none⟩ = some (.int .i64 o.a) := by simp [World.cell?, z1]
      have y3 : W1.cell? ⟨wr.heap.size, 3, none⟩ = some (.int .i64 o.v) := by simp [World.cell?, z1]
      have y4 : W1.cell? ⟨wr.heap.size, 4, none⟩ = some (.slice o.da o.dn o.dc) := by simp [World.cell?, z1]
      have HIn : Hid (o.In W1) := hIn.below b1
      have HIb : Hid (∀ w', Below w.heap.size w w' → Lies w' o.da o.dn o.dc o.Z) := fun w' b => hIl w' b
      obtain ⟨S, lab, fs, N0, hfl, hla, hl1, hl2⟩ := F3
      have N1 := N0.more b1
      have hbx : rl lab wr 9 wr.heap.size = 9 := rl_new (Nat.le_refl _)
      generalize rl lab wr 9 = lb at N1 hbx
      have hlen : fs.length = S.l.length := by have := congrArg List.length hfl; simpa using this
      obtain ⟨m, hm⟩ : ∃ m, fs.length = m := ⟨_, rfl⟩
      have hmt : m ≤ t := by omega
      obtain ⟨av, cv, hv⟩ := own_slice N1.fr.row
      rw [hm] at hv
      subst hv
      have HN : Hid (Nf w W1 lb xb S (.slice av m cv) fs) := N1
      have HF : Hid (fs.map En.fl = S.l) := hfl
      have HLa : Hid (S.last = l) := hla
      have HM : Hid (fs.length = m) := hm
      have HZ1 : Hid (W1.heap[wr.heap.size]? = some (.cells #[.int .i64 kk, .int .i64 o.K, .int .i64 o.a, .int .i64 o.v, .slice o.da o.dn o.dc] 47)) := z1
      have HK : Hid (S.l.length = m) := hlen.symm.trans hm
      have hmi : (m : Int) ≤ 1000 := by omega
      have hl0 : 0 ≤ l := by rw [← hla]; exact N1.nt.ok.l0
      have hw1 : IntKind.i64.wrap (l + 1) = l + 1 := by rw [IntKind.wrap_i64]; omega
      clear F2 hIn N0 N1 hfl hla hl2 hlen hm b1 z1 hL
      by_cases hA : m = 0 ∨ kk < 1 ∨ 4 < kk
      · as_aux_lemma =>
          have hst : m = 0 ∨ (¬ m = 0 ∧ kk < 1) ∨ (¬ m = 0 ∧ ¬ kk < 1 ∧ 4 < kk) := by omega
          have hS := sendN HN.out.nt (by rw [HLa.out]; omega) t o.da o.dn o.dc o.Z HIn.out.li (Nat.le_trans HIn.out.le (by decide))
          obtain ⟨q1, q2, q3⟩ := send_not (S := S) (to := t) (d := o.Z) (by rw [HK.out]; omega)
          rw [q1, HLa.out] at hS
          have HQ2 : Hid ((sendS S t o.Z).last = l + 1) := by show _ = _; rw [q2, HLa.out]
          have HQ3 : Hid ((sendS S t o.Z).l = S.l ++ [⟨l + 1, t, o.Z⟩]) := by show _ = _; rw [q3, HLa.out]
          obtain ⟨S', hS'⟩ : ∃ S', sendS S t o.Z = S' := ⟨_, rfl⟩
          rw [hS'] at hS HQ2 HQ3
          have hbb : ((l + 1 : Int) != l + 1) = false := by simp
          clear q1 q2 q3 hA hS'
          obtain ⟨n1, n2, n3⟩ : (m : Int) = m ∧ o.da = o.da ∧ o.dn = o.dn := ⟨rfl, rfl, rfl⟩
          clear n1 n2 n3
          rcases hst with h0 | ⟨h0, h1⟩ | ⟨h0, h1, h2⟩
          all_goals
            first | (subst h0) | (have h0' : ¬ (m : Int) = 0 := (by omega))
            go_wp2_with fail
            refine hS.mono ?_
            rintro e w3 ⟨rfl, h3, t3⟩
            have N3 := HN.out.step t3 h3
            have z3 := (t3.block _ (heap_lt HZ1.out) (by rw [hbx]; decide)).trans HZ1.out
            have y4' : w3.cell? ⟨wr.heap.size, 4, none⟩ = some (.slice o.da o.dn o.dc) := by simp [World.cell?, z3]
            generalize rl lb W1 1 = l3 at N3
            have hbs := bytes29_any o.da o.dn o.dc o.Z w3 (Nat.le_trans HIn.out.le (by decide)) (by
              have hb3 : Below w.heap.size w w3 := N3.wk.b
              exact HIb.out w3 hb3)
            have HN3 : Hid (Nf w w3 l3 xb S' _ fs) := N3
            clear hS N3 h3 t3 z3
            go_wp2_with fail
            refine hbs.mono ?_
            rintro e w4 ⟨aU, cU, rfl, hoU, b4⟩
            have N4 := HN3.out.moreM b4 2
            have dU : Da w4 (rl l3 w3 2) 2 o.Z (.slice aU o.dn cU) := ⟨by rw [HIn.out.li.hlen]; exact ownsRow_mono hoU (Nat.zero_le _), fun b e => rl_new (own_ge hoU e), by rw [HIn.out.li.hlen]; exact Nat.le_trans HIn.out.le (by decide)⟩
            have hap : ∀ g, (Value.slice aU o.dn cU).ownBlock = some g → ∀ x ∈ fs, x.v.ownBlock ≠ some g := fun g hg x hx r => by
              have h1 := own_ge hoU hg
              have h2 := (HN3.out.fr.en.da x hx).lt g r
              omega
            generalize rl l3 w3 2 = l4 at N4 dU
            have hr4 := N4.fr.row
            rw [HM.out] at hr4
            have HN4 : Hid (Nf w w4 l4 xb S' _ fs) := N4
            clear hbs N4 hoU b4 HN3
            have hnews : ∀ (i : Nat) (u : Value), ([.int .i64 (l + 1), .int .i64 t, .slice aU o.dn cU] : List Value)[i]? = some u → (w4.alloc (.cells #[.int .i64 (l + 1), .int .i64 t, .slice aU o.dn cU] 42)).cell? ((⟨w4.heap.size, 0, none⟩ : Addr).add i) = some u := World.news_of_block (heap_alloc_new _ _)
            go_wp2_with (at_builtin; refine wpList_append_own_at _ rfl _ _ 34 rfl 0 42 i0 (.agg #[.int .i64 0, .int .i64 0, .slice none 0 0]) 3 40 Try.underlying34 hi hz0 hz1 hz2 rfl (by decide) _ _ _ rfl (World.ownsRow.alloc hr4 _) ⟨w4.heap.size, 0, none⟩ 1 1 [.int .i64 (l + 1), .int .i64 t, .slice aU o.dn cU] rfl rfl hnews (by intro u hu; simp at hu; rcases hu with rfl | rfl | rfl <;> rfl) (by unfold maxLen; omega) (by omega) (Nat.zero_le _) ?_; intro v5 w5 hv5 hg5 hn5 hb5)
            have N5 := HN4.out.push HM.out dU hap hv5 hg5 hb5
            have F5 : FtI w w5 xb v5 (l + 1) (t + 1) := ⟨S', _, _, N5, by rw [List.map_append, HF.out, HQ3.out]; rfl, HQ2.out, by omega, by rw [HQ3.out, List.length_append, HK.out]; simp only [List.length_cons, List.length_nil]; omega⟩
            clear N5 hv5 hg5 hn5 hb5 hnews hr4 dU hap
            go_wp2_with fail
            go_roundw
            case rel => first | exact ⟨t + 1, l + 1, by omega, by omega, by go_num, rfl, F5⟩ | (repeat apply Exists.intro; refine And.intro ?_ rfl; exact ⟨t + 1, l + 1, by omega, by omega, by go_num, rfl, F5⟩)
            case measure => simp [intOf]; omega
      · have hm0 : 0 < m := by omega
        have hLi0 : (0 : Int) < m := by omega
        have hmn : ¬ m = 0 := by omega
        have hmz : ¬ (m : Int) = 0 := by omega
        have hk1 : ¬ kk < 1 := by omega
        have hk4 : ¬ 4 < kk := by omega
        have t1 : o.K.tmod (m : Int) < m := Int.tmod_lt_of_pos _ hLi0
        have t2 : -(m : Int) < o.K.tmod (m : Int) := Int.lt_tmod_of_pos _ hLi0
        have p1 : 0 ≤ (o.K.tmod (m : Int) + m) % (m : Int) := Int.emod_nonneg _ (by omega)
        have p2 : (o.K.tmod (m : Int) + m) % (m : Int) < m := Int.emod_lt_of_pos _ hLi0
        obtain ⟨q, h6⟩ : ∃ q : Nat, (o.K.tmod (m : Int) + m) % (m : Int) = (q : Int) := ⟨_, (Int.toNat_of_nonneg p1).symm⟩
        have h5 : (o.K.tmod (m : Int) + m).tmod (m : Int) = (q : Int) := by rw [Int.tmod_eq_emod_of_nonneg (by omega)]; exact h6
        have hq : q < m := by omega
        have hqi : (q : Int) < m := by omega
        obtain ⟨f, hf⟩ : ∃ f, fs[q]? = some f := ⟨_, List.getElem?_eq_getElem (by rw [HM.out]; exact hq)⟩
        obtain ⟨r1, r2, r3, r4, hkn⟩ := HN.out.one HF.out hf
        obtain ⟨gv, cv', hv', c0, c1, c2⟩ := HN.out.fr.at hf
        rw [HM.out] at hv'
        obtain ⟨rfl, rfl⟩ : av = some ⟨gv, 0, none⟩ ∧ cv = cv' := by cases hv'; exact ⟨rfl, rfl⟩
        have hd := HN.out.fr.en.da f (List.mem_of_getElem? hf)
        obtain ⟨fno, fto, fd, fv⟩ := f
        obtain ⟨fa, fc, hfv⟩ := hd.slice
        change fv = .slice fa fd.length fc at hfv
        obtain ⟨fn, hfn⟩ : ∃ x, fd.length = x := ⟨_, rfl⟩
        rw [hfn] at hfv
        subst hfv
        simp only at c0 c1 c2 hkn r1 r2 r4
        have hfl8 : fn ≤ 140737488355328 := by rw [← hfn]; exact hd.len
        have HRf : Hid (findS S fno = some ⟨fno, fto, fd⟩) := r1
        have HRn : Hid (fnd fs fno = some ⟨fno, fto, fd, .slice fa fn fc⟩) := r2
        have HRe : Hid (fs.eraseIdx q = les fs fno) := r4
        have HFn : Hid (fd.length = fn) := hfn
        have HAt : Hid (fs[q]? = some ⟨fno, fto, fd, .slice fa fn fc⟩) := hf
        obtain ⟨W2, hW2⟩ : ∃ W, W1.alloc (.cells #[.int .i64 fno, .int .i64 fto, .slice fa fn fc] 42) = W := ⟨_, rfl⟩
        have b2 : Below W1.heap.size W1 W2 := by rw [← hW2]; exact (Below.refl _ W1).alloc (Nat.le_refl _) _
        have z2 : W2.heap[W1.heap.size]? = some (.cells #[.int .i64 fno, .int .i64 fto, .slice fa fn fc] 42) := by rw [← hW2]; exact heap_alloc_new W1 _
        have x5 := (b2.block _ (heap_lt HZ1.out)).trans HZ1.out
        have hb9 : rl lb W1 9 wr.heap.size = 9 := (rl_old (heap_lt HZ1.out)).trans hbx
        have hb8 : rl lb W1 9 W1.heap.size = 9 := rl_new (Nat.le_refl _)
        have N2 := HN.out.more b2
        generalize rl lb W1 9 = lc at N2 hb9 hb8
        have e0 : W2.cell? ⟨wr.heap.size, 0, none⟩ = some (.int .i64 kk) := by simp [World.cell?, x5]
        have e2 : W2.cell? ⟨wr.heap.size, 2, none⟩ = some (.int .i64 o.a) := by simp [World.cell?, x5]
        have e3 : W2.cell? ⟨wr.heap.size, 3, none⟩ = some (.int .i64 o.v) := by simp [World.cell?, x5]
        have d0 : W2.cell? ⟨W1.heap.size, 0, none⟩ = some (.int .i64 fno) := by simp [World.cell?, z2]
        have d1 : W2.cell? ⟨W1.heap.size, 1, none⟩ = some (.int .i64 fto) := by simp [World.cell?, z2]
        have d2 : W2.cell? ⟨W1.heap.size, 2, none⟩ = some (.slice fa fn fc) := by simp [World.cell?, z2]
        have HN2 : Hid (Nf w W2 lc xb S (.slice (some ⟨gv, 0, none⟩) m cv) fs) := N2
        have HZ2 : Hid (W2.heap[W1.heap.size]? = some (.cells #[.int .i64 fno, .int .i64 fto, .slice fa fn fc] 42)) := z2
        have HX5 : Hid (W2.heap[wr.heap.size]? = some (.cells #[.int .i64 kk, .int .i64 o.K, .int .i64 o.a, .int .i64 o.v, .slice o.da o.dn o.dc] 47)) := x5
        obtain ⟨z1, z2', z3, z4, z5⟩ := findS_some HRf.out
        have HZs : Hid (takeE S fno = 0 ∧ takeD S fno = fd ∧ takeT S fno = fto ∧ copyS S fno = sendS S fto fd ∧ copyA S fno = sendA S) := ⟨z1, z2', z3, z4, z5⟩
        clear r1 r2 r3 r4 hv' hd hfn hf z2 x5 b2 N2 HN hA z1 z2' z3 z4 z5
        obtain hk | hk | hk | hk : kk = 1 ∨ kk = 2 ∨ kk = 3 ∨ kk = 4 := by omega
        · subst hk
          clear hk1 hk4
          as_aux_lemma =>
            have hT0 := takeN HN2.out.nt (no := fno) hkn 3
            rw [HZs.out.1, HZs.out.2.1, HZs.out.2.2.1] at hT0
            go_wp2_with fail
            refine hT0.mono ?_
            rintro e w3 ⟨u, rfl, h3, dU, t3, hu3⟩
            have N3 := HN2.out.take t3 hu3 h3
            have z3 := (t3.block _ (heap_lt HZ2.out) (by rw [hb8]; decide)).trans HZ2.out
            generalize tl lc W2 1 3 u = l3 at N3 dU
            obtain ⟨ua, uc, hua⟩ := dU.slice
            rw [HFn.out] at hua
            subst hua
            obtain ⟨WX, hWX⟩ : ∃ W, w3.alloc (.cells #[.int .i64 fto, .slice ua fn uc] 28) = W := ⟨_, rfl⟩
            have bX : Below w3.heap.size w3 WX := by rw [← hWX]; exact (Below.refl _ w3).alloc (Nat.le_refl _) _
            have zX : WX.heap[w3.heap.size]? = some (.cells #[.int .i64 fto, .slice ua fn uc] 28) := by rw [← hWX]; exact heap_alloc_new w3 _
            have z4 := (bX.block _ (heap_lt z3)).trans z3
            have d0X' : WX.cell? ⟨W1.heap.size, 0, none⟩ = some (.int .i64 fno) := by simp [World.cell?, z4]
            have d1X : WX.cell? ⟨W1.heap.size, 1, none⟩ = some (.int .i64 fto) := by simp [World.cell?, z4]
            have d2X : WX.cell? ⟨W1.heap.size, 2, none⟩ = some (.slice fa fn fc) := by simp [World.cell?, z4]
            have p0X : WX.cell? ⟨w3.heap.size, 0, none⟩ = some (.int .i64 fto) := by simp [World.cell?, zX]
            have p1X : WX.cell? ⟨w3.heap.size, 1, none⟩ = some (.slice ua fn uc) := by simp [World.cell?, zX]
            have NX := N3.more bX
            have hLu : Lies WX ua fn uc fd := (dU.lies HFn.out).below bX (Nat.le_refl _)
            have hLf : Lies WX fa fn fc fd := by have := (NX.fr.en.da _ (List.mem_of_getElem? HAt.out)).lies HFn.out; exact this
            have hSm := same_any ua fa fn fn uc fc fd fd WX (by omega) hLu hLf
            simp only [decide_true] at hSm
            generalize rl l3 w3 9 = lx at NX
            have HNX0 : Hid (Nf w WX lx xb (takeS S fno) (.slice (some ⟨gv, 0, none⟩) m cv) fs) := NX
            have hbb : (fto != fto) = false := by simp
            clear hT0 N3 NX h3 t3 z3 z4 zX bX dU hu3 hLu hLf
            go_wp2_with fail
            refine hSm.mono ?_
            rintro e wY ⟨rfl, my, rfl⟩
            have f0 : (WX.drewN my).cell? ⟨W1.heap.size, 0, none⟩ = some (.int .i64 fno) := d0X'
            have f1 : (WX.drewN my).cell? ⟨W1.heap.size, 1, none⟩ = some (.int .i64 fto) := d1X
            have f2 : (WX.drewN my).cell? ⟨w3.heap.size, 0, none⟩ = some (.int .i64 fto) := p0X
            have NY : Nf w (WX.drewN my) (rl lx WX 9) xb (takeS S fno) (.slice (some ⟨gv, 0, none⟩) m cv) fs := HNX0.out.more (below_drewN WX my)
            clear HNX0 hSm d0X' d1X d2X p0X p1X hWX
            obtain ⟨WX, hWX⟩ : ∃ W, WX.drewN my = W := ⟨_, rfl⟩
            rw [hWX] at f0 f1 f2 NY ⊢
            generalize rl lx _ 9 = lx at NY
            have d0X := f0
            have HNX : Hid (Nf w WX lx xb (takeS S fno) (.slice (some ⟨gv, 0, none⟩) m cv) fs) := NY
            clear NY hWX
            go_wp2_with (go_at_call 13; refine (num_any _ _).mono ?_; rintro e wn ⟨rfl, hwn⟩; subst wn)
            go_loopw [16, 17] (fun u ii wr => ∃ s : Nat, s ≤ m ∧ ii = .int .i64 s ∧ wr.ownsRow WX.heap.size 42 3 u ((fs.take s).eraseIdx q).length (((fs.take s).eraseIdx q).flatMap flC) ∧ Below WX.heap.size WX wr) (fun _ ii _ => m - (intOf ii).toNat)
            case atStart => exact ⟨0, Nat.zero_le _, rfl, by simpa using World.ownsRow_nil _ _ _ _, Below.refl _ _⟩
            case round =>
              obtain ⟨s, hs, rfl, hrow, hB⟩ := hrel
              have NB := HNX.out.moreM hB 9
              by_cases hsm : s < m
              · have hsi : (s : Int) < m := by omega
                obtain ⟨y, hy⟩ : ∃ y, fs[s]? = some y := ⟨_, List.getElem?_eq_getElem (by rw [HM.out]; exact hsm)⟩
                obtain ⟨g', c', hv', p0, p1, p2⟩ := NB.fr.at hy
                rw [HM.out] at hv'
                obtain ⟨rfl, rfl⟩ : gv = g' ∧ cv = c' := by cases hv'; exact ⟨rfl, rfl⟩
                have het := erase_take fs q s y hy
                by_cases hti2 : s = q
                · subst hti2
                  rw [if_pos rfl, List.append_nil] at het
                  have HRow : Hid (wr.ownsRow WX.heap.size 42 3 u16 ((fs.take (s + 1)).eraseIdx s).length (((fs.take (s + 1)).eraseIdx s).flatMap flC)) := by rw [het]; exact hrow
                  have hnb : ((s : Int) != (s : Int)) = false := by simp
                  clear NB hrow het hv' hy
                  go_wp2_with fail
                  go_roundw
                  case rel => first | exact ⟨s + 1, by omega, by go_num, HRow.out, hB⟩ | (repeat apply Exists.intro; refine And.intro ?_ rfl; exact ⟨s + 1, by omega, by go_num, HRow.out, hB⟩)
                  case measure => simp [intOf]; omega
                · rw [if_neg hti2] at het
                  have hne : ((s : Int) != (q : Int)) = true := by simp; omega
                  have hne2 : ¬ (s : Int) = (q : Int) := by omega
                  have hyd := (NB.fr.en.da y (List.mem_of_getElem? hy)).slice
                  obtain ⟨yno, yto, yd, yv⟩ := y
                  obtain ⟨ya, yc, hyv⟩ := hyd
                  change yv = .slice ya yd.length yc at hyv
                  obtain ⟨yn, hyn⟩ : ∃ yn, yd.length = yn := ⟨_, rfl⟩
                  rw [hyn] at hyv
                  subst hyv
                  simp only at p0 p1 p2
                  obtain ⟨qq, hqq⟩ : ∃ qq, ((fs.take s).eraseIdx q).length = qq := ⟨_, rfl⟩
                  have hqn : qq ≤ m := by
                    have := List.length_eraseIdx_le (l := fs.take s) (i := q)
                    rw [List.length_take] at this; omega
                  rw [hqq] at hrow
                  obtain ⟨au, cu, hu⟩ := own_slice hrow
                  subst hu
                  have hnews : ∀ (i : Nat) (u : Value), ([.int .i64 yno, .int .i64 yto, .slice ya yn yc] : List Value)[i]? = some u → (wr.alloc (.cells #[.int .i64 yno, .int .i64 yto, .slice ya yn yc] 42)).cell? ((⟨wr.heap.size, 0, none⟩ : Addr).add i) = some u := World.news_of_block (heap_alloc_new _ _)
                  have HET : Hid ((fs.take (s + 1)).eraseIdx q = (fs.take s).eraseIdx q ++ [⟨yno, yto, yd, .slice ya yn yc⟩]) := het
                  have HQ : Hid (((fs.take s).eraseIdx q).length = qq) := hqq
                  have hBs := hB.size
                  clear NB het hv' hy hyn hqq hti2
                  go_wp2_with (at_builtin; refine wpList_append_own_at _ rfl _ _ 34 rfl WX.heap.size 42 i0 (.agg #[.int .i64 0, .int .i64 0, .slice none 0 0]) 3 40 Try.underlying34 hi hz0 hz1 hz2 rfl (by decide) _ qq _ rfl (World.ownsRow.alloc hrow _) ⟨wr.heap.size, 0, none⟩ 1 1 [.int .i64 yno, .int .i64 yto, .slice ya yn yc] rfl rfl hnews (by intro u hu; simp at hu; rcases hu with rfl | rfl | rfl <;> rfl) (by unfold maxLen; omega) (by omega) (by simp; omega) ?_; intro v5 w5 hv5 hg5 hn5 hb5)
                  have HV5 : Hid (w5.ownsRow WX.heap.size 42 3 v5 ((fs.take (s + 1)).eraseIdx q).length (((fs.take (s + 1)).eraseIdx q).flatMap flC)) := by
                    rw [HET.out, List.length_append, HQ.out, List.flatMap_append]; exact hv5
                  have hB5 : Below WX.heap.size WX w5 := (hB.alloc hBs _).grown hg5 (by simp; omega) (fun b e => own_ge hrow e)
                  clear hv5 hg5 hn5 hb5 hrow hnews
                  go_wp2_with fail
                  go_roundw
                  case rel => first | exact ⟨s + 1, by omega, by go_num, HV5.out, hB5⟩ | (repeat apply Exists.intro; refine And.intro ?_ rfl; exact ⟨s + 1, by omega, by go_num, HV5.out, hB5⟩)
                  case measure => simp [intOf]; omega
              · obtain rfl : s = m := by omega
                have hLe : (fs.take s).eraseIdx q = les fs fno := by
                  rw [List.take_of_length_le (by rw [HM.out]; exact Nat.le_refl _)]; exact HRe.out
                rw [hLe] at hrow
                obtain ⟨au, cu, hu⟩ := own_slice hrow
                have NC := HNX.out.cut (les_sub fs fno) hrow hB
                generalize rl lx WX 2 = l9 at NC
                have d9 : wr.cell? ⟨W1.heap.size, 0, none⟩ = some (.int .i64 fno) := cell_later hB d0X
                obtain ⟨y1, y2, y3, y4', y5, y6⟩ := findS_none (take_gone S fno)
                have hD := dropN NC.nt (no := fno) hkn
                rw [y1, y4'] at hD
                have HNC : Hid (Nf w wr l9 xb (takeS S fno) u16 (les fs fno)) := NC
                have HKt : Hid ((takeS S fno).l.length ≤ t) := by
                  show _ ≤ _
                  have := List.length_filter_le (fun f : Fl => f.no != fno) S.l
                  rw [HK.out] at this
                  exact Nat.le_trans this hmt
                rw [hu] at HNC
                rw [hu]
                clear NC NB hrow hB hLe y1 y2 y3 y4' y5 y6 hu
                go_wp2_with fail
                refine hD.mono ?_
                rintro e w6 ⟨rfl, h6, t6⟩
                have N6 := HNC.out.step t6 h6
                have F6 : FtI w w6 xb (.slice au (les fs fno).length cu) l (t + 1) := ⟨_, _, _, N6, les_fl HF.out, HLa.out, by omega, Nat.le_trans HKt.out (Nat.le_succ _)⟩
                clear N6 hD h6 t6
                go_wp2_with (go_at_call 13; refine (num_any _ _).mono ?_; rintro e wn ⟨rfl, hwn⟩; subst wn)
                go_roundw
                case rel => first | exact ⟨t + 1, l, by omega, by omega, by go_num, rfl, F6⟩ | (repeat apply Exists.intro; refine And.intro ?_ rfl; exact ⟨t + 1, l, by omega, by omega, by go_num, rfl, F6⟩)
                case measure => simp [intOf]; omega
        · subst hk
          clear hk1 hk4
          as_aux_lemma =>
            have hD0 := dropN HN2.out.nt (no := fno) hkn
            rw [HZs.out.1] at hD0
            go_wp2_with fail
            refine hD0.mono ?_
            rintro e WX ⟨rfl, h3, t3⟩
            have NX := HN2.out.step t3 h3
            have z3 := (t3.block _ (heap_lt HZ2.out) (by rw [hb8]; decide)).trans HZ2.out
            have d0X : WX.cell? ⟨W1.heap.size, 0, none⟩ = some (.int .i64 fno) := by simp [World.cell?, z3]
            generalize rl lc W2 1 = lx at NX
            have HNX : Hid (Nf w WX lx xb (takeS S fno) (.slice (some ⟨gv, 0, none⟩) m cv) fs) := NX
            clear hD0 NX h3 t3 z3
            go_wp2_with (go_at_call 13; refine (num_any _ _).mono ?_; rintro e wn ⟨rfl, hwn⟩; subst wn)
            go_loopw [16, 17] (fun u ii wr => ∃ s : Nat, s ≤ m ∧ ii = .int .i64 s ∧ wr.ownsRow WX.heap.size 42 3 u ((fs.take s).eraseIdx q).length (((fs.take s).eraseIdx q).flatMap flC) ∧ Below WX.heap.size WX wr) (fun _ ii _ => m - (intOf ii).toNat)
            case atStart => exact ⟨0, Nat.zero_le _, rfl, by simpa using World.ownsRow_nil _ _ _ _, Below.refl _ _⟩
            case round =>
              obtain ⟨s, hs, rfl, hrow, hB⟩ := hrel
              have NB := HNX.out.moreM hB 9
              by_cases hsm : s < m
              · have hsi : (s : Int) < m := by omega
                obtain ⟨y, hy⟩ : ∃ y, fs[s]? = some y := ⟨_, List.getElem?_eq_getElem (by rw [HM.out]; exact hsm)⟩
                obtain ⟨g', c', hv', p0, p1, p2⟩ := NB.fr.at hy
                rw [HM.out] at hv'
                obtain ⟨rfl, rfl⟩ : gv = g' ∧ cv = c' := by cases hv'; exact ⟨rfl, rfl⟩
                have het := erase_take fs q s y hy
                by_cases hti2 : s = q
                · subst hti2
                  rw [if_pos rfl, List.append_nil] at het
                  have HRow : Hid (wr.ownsRow WX.heap.size 42 3 u16 ((fs.take (s + 1)).eraseIdx s).length (((fs.take (s + 1)).eraseIdx s).flatMap flC)) := by rw [het]; exact hrow
                  have hnb : ((s : Int) != (s : Int)) = false := by simp
                  clear NB hrow het hv' hy
                  go_wp2_with fail
                  go_roundw
                  case rel => first | exact ⟨s + 1, by omega, by go_num, HRow.out, hB⟩ | (repeat apply Exists.intro; refine And.intro ?_ rfl; exact ⟨s + 1, by omega, by go_num, HRow.out, hB⟩)
                  case measure => simp [intOf]; omega
                · rw [if_neg hti2] at het
                  have hne : ((s : Int) != (q : Int)) = true := by simp; omega
                  have hne2 : ¬ (s : Int) = (q : Int) := by omega
                  have hyd := (NB.fr.en.da y (List.mem_of_getElem? hy)).slice
                  obtain ⟨yno, yto, yd, yv⟩ := y
                  obtain ⟨ya, yc, hyv⟩ := hyd
                  change yv = .slice ya yd.length yc at hyv
                  obtain ⟨yn, hyn⟩ : ∃ yn, yd.length = yn := ⟨_, rfl⟩
                  rw [hyn] at hyv
                  subst hyv
                  simp only at p0 p1 p2
                  obtain ⟨qq, hqq⟩ : ∃ qq, ((fs.take s).eraseIdx q).length = qq := ⟨_, rfl⟩
                  have hqn : qq ≤ m := by
                    have := List.length_eraseIdx_le (l := fs.take s) (i := q)
                    rw [List.length_take] at this; omega
                  rw [hqq] at hrow
                  obtain ⟨au, cu, hu⟩ := own_slice hrow
                  subst hu
                  have hnews : ∀ (i : Nat) (u : Value), ([.int .i64 yno, .int .i64 yto, .slice ya yn yc] : List Value)[i]? = some u → (wr.alloc (.cells #[.int .i64 yno, .int .i64 yto, .slice ya yn yc] 42)).cell? ((⟨wr.heap.size, 0, none⟩ : Addr).add i) = some u := World.news_of_block (heap_alloc_new _ _)
                  have HET : Hid ((fs.take (s + 1)).eraseIdx q = (fs.take s).eraseIdx q ++ [⟨yno, yto, yd, .slice ya yn yc⟩]) := het
                  have HQ : Hid (((fs.take s).eraseIdx q).length = qq) := hqq
                  have hBs := hB.size
                  clear NB het hv' hy hyn hqq hti2
                  go_wp2_with (at_builtin; refine wpList_append_own_at _ rfl _ _ 34 rfl WX.heap.size 42 i0 (.agg #[.int .i64 0, .int .i64 0, .slice none 0 0]) 3 40 Try.underlying34 hi hz0 hz1 hz2 rfl (by decide) _ qq _ rfl (World.ownsRow.alloc hrow _) ⟨wr.heap.size, 0, none⟩ 1 1 [.int .i64 yno, .int .i64 yto, .slice ya yn yc] rfl rfl hnews (by intro u hu; simp at hu; rcases hu with rfl | rfl | rfl <;> rfl) (by unfold maxLen; omega) (by omega) (by simp; omega) ?_; intro v5 w5 hv5 hg5 hn5 hb5)
                  have HV5 : Hid (w5.ownsRow WX.heap.size 42 3 v5 ((fs.take (s + 1)).eraseIdx q).length (((fs.take (s + 1)).eraseIdx q).flatMap flC)) := by
                    rw [HET.out, List.length_append, HQ.out, List.flatMap_append]; exact hv5
                  have hB5 : Below WX.heap.size WX w5 := (hB.alloc hBs _).grown hg5 (by simp; omega) (fun b e => own_ge hrow e)
                  clear hv5 hg5 hn5 hb5 hrow hnews
                  go_wp2_with fail
                  go_roundw
                  case rel => first | exact ⟨s + 1, by omega, by go_num, HV5.out, hB5⟩ | (repeat apply Exists.intro; refine And.intro ?_ rfl; exact ⟨s + 1, by omega, by go_num, HV5.out, hB5⟩)
                  case measure => simp [intOf]; omega
              · obtain rfl : s = m := by omega
                have hLe : (fs.take s).eraseIdx q = les fs fno := by
                  rw [List.take_of_length_le (by rw [HM.out]; exact Nat.le_refl _)]; exact HRe.out
                rw [hLe] at hrow
                obtain ⟨au, cu, hu⟩ := own_slice hrow
                have NC := HNX.out.cut (les_sub fs fno) hrow hB
                generalize rl lx WX 2 = l9 at NC
                have d9 : wr.cell? ⟨W1.heap.size, 0, none⟩ = some (.int .i64 fno) := cell_later hB d0X
                obtain ⟨y1, y2, y3, y4', y5, y6⟩ := findS_none (take_gone S fno)
                have hD := dropN NC.nt (no := fno) hkn
                rw [y1, y4'] at hD
                have HNC : Hid (Nf w wr l9 xb (takeS S fno) u16 (les fs fno)) := NC
                have HKt : Hid ((takeS S fno).l.length ≤ t) := by
                  show _ ≤ _
                  have := List.length_filter_le (fun f : Fl => f.no != fno) S.l
                  rw [HK.out] at this
                  exact Nat.le_trans this hmt
                rw [hu] at HNC
                rw [hu]
                clear NC NB hrow hB hLe y1 y2 y3 y4' y5 y6 hu
                go_wp2_with fail
                refine hD.mono ?_
                rintro e w6 ⟨rfl, h6, t6⟩
                have N6 := HNC.out.step t6 h6
                have F6 : FtI w w6 xb (.slice au (les fs fno).length cu) l (t + 1) := ⟨_, _, _, N6, les_fl HF.out, HLa.out, by omega, Nat.le_trans HKt.out (Nat.le_succ _)⟩
                clear N6 hD h6 t6
                go_wp2_with (go_at_call 13; refine (num_any _ _).mono ?_; rintro e wn ⟨rfl, hwn⟩; subst wn)
                go_roundw
                case rel => first | exact ⟨t + 1, l, by omega, by omega, by go_num, rfl, F6⟩ | (repeat apply Exists.intro; refine And.intro ?_ rfl; exact ⟨t + 1, l, by omega, by omega, by go_num, rfl, F6⟩)
                case measure => simp [intOf]; omega
        · subst hk
          clear hk1 hk4
          as_aux_lemma =>
            have hge : sendA S = l + 1 ∧ (sendS S fto fd).last = l + 1 ∧ (sendS S fto fd).l = S.l ++ [⟨l + 1, fto, fd⟩] := by
              obtain ⟨q1, q2, q3⟩ := send_not (S := S) (to := fto) (d := fd) (by rw [HK.out]; omega)
              rw [HLa.out] at q1 q2 q3; exact ⟨q1, q2, q3⟩
            have HG : Hid (sendA S = l + 1 ∧ (sendS S fto fd).last = l + 1 ∧ (sendS S fto fd).l = S.l ++ [⟨l + 1, fto, fd⟩]) := hge
            have hC := copyN HN2.out.nt (by rw [HLa.out]; omega) (no := fno) hkn
            rw [HZs.out.2.2.2.1, HZs.out.2.2.2.2, HZs.out.1, hge.1] at hC
            clear hge
            have F3' : FtI w W2 xb (.slice (some ⟨gv, 0, none⟩) m cv) l (t + 1) := ⟨S, lc, fs, HN2.out, HF.out, HLa.out, by omega, by rw [HK.out]; omega⟩
            by_cases hfb : 4096 < fn
            · have hfi : (4096 : Int) < fn := by omega
              go_wp2_with fail
              exact ⟨⟨t + 1, l, by omega, by omega, by go_num, rfl, F3'⟩, by simp [intOf]; omega⟩
            · have hfi : ¬ (4096 : Int) < fn := by omega
              have hbb : ((l + 1 : Int) != l + 1) = false := by simp
              clear F3'
              go_wp2_with fail
              refine hC.mono ?_
              rintro e w3 ⟨rfl, h3, t3⟩
              have N3 := HN2.out.step t3 h3
              have z3 := (t3.block _ (heap_lt HZ2.out) (by rw [hb8]; decide)).trans HZ2.out
              have g1 : w3.cell? ⟨W1.heap.size, 1, none⟩ = some (.int .i64 fto) := by simp [World.cell?, z3]
              have g2 : w3.cell? ⟨W1.heap.size, 2, none⟩ = some (.slice fa fn fc) := by simp [World.cell?, z3]
              have hb7 : rl lc W2 1 W1.heap.size = 9 := (rl_old (heap_lt HZ2.out)).trans hb8
              generalize rl lc W2 1 = l3 at N3 hb7
              have hd3 := N3.fr.en.da _ (List.mem_of_getElem? HAt.out)
              have hL3 : Lies w3 fa fn fc fd := by have := hd3.lies HFn.out; exact this
              have hr3 : w3.ownsRow 0 42 3 (.slice (some ⟨gv, 0, none⟩) m cv) m (fs.flatMap flC) := by have := N3.fr.row; rw [HM.out] at this; exact this
              have HN3 : Hid (Nf w w3 l3 xb (sendS S fto fd) (.slice (some ⟨gv, 0, none⟩) m cv) fs) := N3
              have hgw : gv ≠ W1.heap.size := fun e => by have := N3.fr.lv gv rfl; rw [e, hb7] at this; cases this
              clear hC N3 h3 t3 hd3
              go_wp2_with (go_at_call 13; refine (num_any _ _).mono ?_; rintro e wn ⟨rfl, hwn⟩; subst wn)
              go_region_held3 (fun w' => w'.cell? ⟨W1.heap.size, 1, none⟩ = some (.int .i64 fto) ∧ w'.cell? ⟨W1.heap.size, 2, none⟩ = some (.slice fa fn fc))
                (first | exact ⟨g1, g2⟩ | exact ⟨k1, k2⟩ | exact ⟨r1 _, r2 _⟩ | exact ⟨s1, s2⟩)
                (first
                  | (go_at_call 19; refine (bytes29_any fa fn fc fd _ hfl8 (hL3.below (below_drewN w3 1) (Nat.le_refl _))).mono ?_; rintro e w4 ⟨aU, cU, rfl, hoU, b4⟩; have b4 := Below.from_drewN b4; have k1 := cell_later b4 g1; have k2 := cell_later b4 g2; have r1 : ∀ o, (w4.alloc o).cell? ⟨W1.heap.size, 1, none⟩ = some (.int .i64 fto) := fun o => cell_later ((Below.refl _ w4).alloc (Nat.le_refl _) _) k1; have r2 : ∀ o, (w4.alloc o).cell? ⟨W1.heap.size, 2, none⟩ = some (.slice fa fn fc) := fun o => cell_later ((Below.refl _ w4).alloc (Nat.le_refl _) _) k2; have hr4 := own_turns hr3 (Below.turns b4 (fun _ => False)) (fun _ _ q => q))
                  | (refine step_append_lies _ rfl (.tmp 183) (.tmp 191) 34 rfl 0 42 i0 (.agg #[.int .i64 0, .int .i64 0, .slice none 0 0]) 3 40 Try.underlying34 hi hz0 hz1 hz2 rfl (by decide) _ m _ rfl (hr4.alloc _) ⟨w4.heap.size, 0, none⟩ 1 1 [.int .i64 (l + 1), .int .i64 fto, .slice aU fn cU] rfl rfl (World.news_of_block (heap_alloc_new _ _)) (by intro u hu; simp at hu; rcases hu with rfl | rfl | rfl <;> rfl) (by decide) (by unfold maxLen; omega) (by omega) (Nat.zero_le _) _ rfl ?_; intro gC cC w5 ho5 hg5 hat5 hlt5; have hT5 := (Turns.alloc _ w4 _).trans (Turns.grown (F := fun i => (Value.slice (some ⟨gv, 0, none⟩) m cv).ownBlock = some i) hg5 (fun b hb => hb)) (fun _ _ h => h); have s1 := cell_turns hT5 k1 (fun e => hgw (by cases e; rfl)); have s2 := cell_turns hT5 k2 (fun e => hgw (by cases e; rfl))))
              have N4 := HN3.out.moreM b4 2
              have dU : Da w4 (rl l3 w3 2) 2 fd (.slice aU fn cU) := ⟨by rw [HFn.out]; exact ownsRow_mono hoU (Nat.zero_le _), fun b e => rl_new (own_ge hoU e), by rw [HFn.out]; exact hfl8⟩
              have hap : ∀ g, (Value.slice aU fn cU).ownBlock = some g → ∀ x ∈ fs, x.v.ownBlock ≠ some g := fun g hg x hx r => by
                have h1 : w3.heap.size ≤ g := own_ge hoU hg
                have h2 := (HN3.out.fr.en.da x hx).lt g r
                omega
              have N5 := N4.push HM.out dU hap ho5 hg5 (hat5.imp (fun e => e.symm) (fun e => by rw [e]; rfl))
              have F5 : FtI w w5 xb (.slice (some ⟨gC, 0, none⟩) (m + 1) cC) (l + 1) (t + 1) := ⟨_, _, _, N5, by rw [List.map_append, HF.out, HG.out.2.2]; rfl, HG.out.2.1, by omega, by rw [HG.out.2.2, List.length_append, HK.out]; simp only [List.length_cons, List.length_nil]; omega⟩
              clear N4 N5 ho5 hg5 hat5 hT5 dU hap k1 k2 r1 r2 s1 s2 hr4 hoU b4 g1 g2
              go_wp2_with fail
              go_roundw
              case rel => first | exact ⟨t + 1, l + 1, by omega, by omega, by go_num, rfl, F5⟩ | (repeat apply Exists.intro; refine And.intro ?_ rfl; exact ⟨t + 1, l + 1, by omega, by omega, by go_num, rfl, F5⟩)
              case measure => simp [intOf]; omega
        · subst hk
          clear hk1 hk4
          as_aux_lemma =>
            have F3' : FtI w W2 xb (.slice (some ⟨gv, 0, none⟩) m cv) l (t + 1) := ⟨S, lc, fs, HN2.out, HF.out, HLa.out, by omega, by rw [HK.out]; omega⟩
            by_cases hf0 : fn = 0
            · subst hf0
              go_wp2_with fail
              exact ⟨⟨t + 1, l, by omega, by omega, by go_num, rfl, F3'⟩, by simp [intOf]; omega⟩
            · have hfz : ¬ (fn : Int) = 0 := by omega
              have hF0 : (0 : Int) < fn := by omega
              have u1 : o.a.tmod (fn : Int) < fn := Int.tmod_lt_of_pos _ hF0
              have u2 : -(fn : Int) < o.a.tmod (fn : Int) := Int.lt_tmod_of_pos _ hF0
              have u3' : 0 ≤ (o.a.tmod (fn : Int) + fn) % (fn : Int) := Int.emod_nonneg _ (by omega)
              have u4' : (o.a.tmod (fn : Int) + fn) % (fn : Int) < fn := Int.emod_lt_of_pos _ hF0
              obtain ⟨a', hae⟩ : ∃ a' : Nat, (o.a.tmod (fn : Int) + fn) % (fn : Int) = (a' : Int) := ⟨_, (Int.toNat_of_nonneg u3').symm⟩
              have ha5 : (o.a.tmod (fn : Int) + fn).tmod (fn : Int) = (a' : Int) := by rw [Int.tmod_eq_emod_of_nonneg (by omega)]; exact hae
              have ha' : a' < fn := by omega
              have hai : (a' : Int) < fn := by omega
              have v1 : o.v.tmod (255 : Int) < 255 := Int.tmod_lt_of_pos _ (by decide)
              have v2 : -(255 : Int) < o.v.tmod (255 : Int) := Int.lt_tmod_of_pos _ (by decide)
              have v3 : 0 ≤ (o.v.tmod (255 : Int) + 255) % (255 : Int) := Int.emod_nonneg _ (by decide)
              have v4 : (o.v.tmod (255 : Int) + 255) % (255 : Int) < 255 := Int.emod_lt_of_pos _ (by decide)
              obtain ⟨x', hxe⟩ : ∃ x' : Nat, (o.v.tmod (255 : Int) + 255) % (255 : Int) = (x' : Int) := ⟨_, (Int.toNat_of_nonneg v3).symm⟩
              have hx5 : (o.v.tmod (255 : Int) + 255).tmod (255 : Int) = (x' : Int) := by rw [Int.tmod_eq_emod_of_nonneg (by omega)]; exact hxe
              have hx' : x' < 255 := by omega
              have hxi : (x' : Int) < 255 := by omega
              have hd2 := HN2.out.fr.en.da _ (List.mem_of_getElem? HAt.out)
              have qE : flipE S fno a' (1 + (x' : Int)) = 0 := by
                have hsm : (findS S fno).isSome = true := by rw [HRf.out]; rfl
                unfold flipE; rw [if_pos hsm, HZs.out.2.1, HFn.out, if_pos ⟨by omega, hai⟩, if_pos ⟨by omega, by omega⟩]
              have qS : (flipS S fno a' (1 + (x' : Int))).l = S.l.map (fun f => if f.no = fno then ⟨f.no, f.to, flipD f.d a' (1 + (x' : Int))⟩ else f) ∧ (flipS S fno a' (1 + (x' : Int))).last = S.last := by unfold flipS; rw [if_pos qE]; exact ⟨rfl, rfl⟩
              have HQ : Hid ((flipS S fno a' (1 + (x' : Int))).l = S.l.map (fun f => if f.no = fno then ⟨f.no, f.to, flipD f.d a' (1 + (x' : Int))⟩ else f) ∧ (flipS S fno a' (1 + (x' : Int))).last = S.last) := qS
              have HQE : Hid (flipE S fno a' (1 + (x' : Int)) = 0) := qE
              obtain ⟨S', hS'⟩ : ∃ S', flipS S fno a' (1 + (x' : Int)) = S' := ⟨_, rfl⟩
              rw [hS'] at HQ
              have HS' : Hid (flipS S fno a' (1 + (x' : Int)) = S') := hS'
              have hwv : IntKind.u8.wrap (1 + (x' : Int)) = 1 + (x' : Int) := by simp [IntKind.wrap, IntKind.bits, IntKind.signed]; omega
              clear F3' qE qS hS' u3' u4' v3 v4 hae hxe hd2
              go_wp2_with fail
              go_quiet (fail)
              have d0q : (W2.drewN nq).cell? ⟨W1.heap.size, 0, none⟩ = some (.int .i64 fno) := d0
              have e3q : (W2.drewN nq).cell? ⟨wr.heap.size, 3, none⟩ = some (.int .i64 o.v) := e3
              go_wp2_with fail
              have NQ := HN2.out.more (below_drewN W2 nq)
              generalize rl lc W2 9 = lq at NQ
              have hFp := flipN NQ.nt (no := fno) (at_ := (a' : Int)) (v := 1 + (x' : Int)) hkn
              rw [HQE.out, HS'.out] at hFp
              refine hFp.mono ?_
              rintro e w4 ⟨rfl, h4, t4⟩
              have N4 := NQ.step t4 h4
              generalize rl lq (W2.drewN nq) 1 = l4 at N4
              clear hFp NQ h4 t4 d0q e3q
              obtain ⟨g', c', hv', y0', y1', y2'⟩ := N4.fr.at HAt.out
              rw [HM.out] at hv'
              obtain ⟨rfl, rfl⟩ : gv = g' ∧ cv = c' := by cases hv'; exact ⟨rfl, rfl⟩
              simp only at y0' y1' y2'
              have hd4 := N4.fr.en.da _ (List.mem_of_getElem? HAt.out)
              have ho4 : w4.ownsRow 0 5 1 (.slice fa fn fc) fn (fd.map (Value.int .u8)) := by have := hd4.own; simp only [HFn.out] at this; exact this
              obtain ⟨gd, rfl⟩ : ∃ gd, fa = some ⟨gd, 0, none⟩ := by
                rcases ho4.2 with ⟨_, h0⟩ | ⟨gd, cap, cur, q, _⟩
                · omega
                · cases q; exact ⟨gd, rfl⟩
              have g0 : w4.cell? ⟨gd, a', none⟩ = some (.int .u8 (fd.getD a' 0)) := by
                rw [ho4.cellAt a' (by omega)]
                have hl := HFn.out
                simp [List.getD, show a' < fd.length by omega]
              have fz := ho4.frozenAt a'
              obtain ⟨C, hC⟩ : ∃ C, fd.getD a' 0 = C := ⟨_, rfl⟩
              rw [hC] at g0
              have HC : Hid (fd.getD a' 0 = C) := hC
              have Hlg : Hid (l4 gd = 2 ∧ gd < w4.heap.size) := ⟨hd4.lb gd rfl, hd4.lt gd rfl⟩
              have HN4 : Hid (Nf w w4 l4 xb S' (.slice (some ⟨gv, 0, none⟩) m cv) fs) := N4
              clear hd4 ho4 hC hv' N4
              go_wp2_with (go_at_call 13; refine (num_any _ _).mono ?_; rintro e wn ⟨rfl, hwn⟩; subst wn)
              go_region
              have N4 := HN4.out
              have t2' := Turns.cell w4 gd a' (.int .u8 (xorB C (1 + (x' : Int))))
              have tD : Turns (fun _ => False) (w4.setCell ⟨gd, a', none⟩ (.int .u8 (xorB C (1 + (x' : Int))))) (w4.setCell ⟨gd, a', none⟩ (.int .u8 (xorB C (1 + (x' : Int))))).drew := Turns.drewN _ _ 1
              have t3 : Turns (fun i => i = gd) w4 (w4.setCell ⟨gd, a', none⟩ (.int .u8 (xorB C (1 + (x' : Int))))).drew := t2'.trans tD (fun _ _ q => q.elim)
              have hri : fs.Pairwise (fun a b => a.no < b.no) := ok_ris HN2.out.nt.ok HF.out
              have f5 := N4.fr.flip hri (at_ := (a' : Int)) (x := 1 + (x' : Int)) HRn.out (g := gd) (c := fc) (by show Value.slice _ fn fc = .slice _ fd.length fc; rw [HFn.out])
              rw [show ((a' : Int).toNat) = a' from rfl] at f5
              change FRow (w4.setCell ⟨gd, a', none⟩ (.int .u8 (xorB (fd.getD a' 0) (1 + (x' : Int))))) _ _ _ _ at f5
              rw [HC.out] at f5
              have N5 : Nf w (w4.setCell ⟨gd, a', none⟩ (.int .u8 (xorB C (1 + (x' : Int))))).drew l4 xb S' (.slice (some ⟨gv, 0, none⟩) m cv) (fs.map (flE fno a' (1 + (x' : Int)))) :=
                ⟨N4.nt.turns t3 (fun i _ q r => by rw [r, Hlg.out.1] at q; cases q) (fun _ _ q => q), N4.wk.turns t3 (fun i q r => by rw [q, Hlg.out.1] at r; cases r) (fun _ _ => rfl), f5.turns tD (fun _ _ _ q => q) (fun _ _ q => q)⟩
              have F5 : FtI w (w4.setCell ⟨gd, a', none⟩ (.int .u8 (xorB C (1 + (x' : Int))))).drew xb (.slice (some ⟨gv, 0, none⟩) m cv) l (t + 1) := ⟨S', l4, _, N5, by rw [flE_fl, HF.out, HQ.out.1], by rw [HQ.out.2, HLa.out], by omega, by rw [HQ.out.1, List.length_map, HK.out]; omega⟩
              clear N4 N5 t2' tD t3 hri f5
              go_wp2_with fail
              go_roundw
              case rel => first | exact ⟨t + 1, l, by omega, by omega, by go_num, rfl, F5⟩ | (repeat apply Exists.intro; refine And.intro ?_ rfl; exact ⟨t + 1, l, by omega, by omega, by go_num, rfl, F5⟩)
              case measure => simp [intOf]; omega
    · have hst : ((t : Int) < n ∧ ¬ (t : Int) < 1000) ∨ ¬ (t : Int) < n := by omega
      have hU := F3.end ht3
      clear F3 F2 hlt
      rcases hst with ⟨s1, s2⟩ | s1
      all_goals
        go_wp2_with fail
        refine hU.mono ?_
        rintro e w8 ⟨u8, rfl, b8, hSF⟩
        clear hU
        go_wp2_with fail
        refine hSF.mono ?_
        rintro e w9 ⟨rfl, b9⟩
        clear hSF
        go_wp2_with fail
        go_ret
        exact ⟨rfl, b8.trans (b9.mono b8.size)⟩
end Go.Proofs.Ytpbanjgjljdepaa
