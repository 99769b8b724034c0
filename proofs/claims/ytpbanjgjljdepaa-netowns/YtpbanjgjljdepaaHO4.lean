/- (*Hoard).apart by its contract. -/
import Derived.Test.YtpbanjgjljdepaaHO3
namespace Go.Proofs.Ytpbanjgjljdepaa
open Go.RowKit Go.Maps
set_option maxRecDepth 100000

/-- The mark of a list. -/
def mkb (t : Nat) : Int := ((1 + t % 250 : Nat) : Int)
theorem mkb_bd (t : Nat) : 1 ≤ mkb t ∧ mkb t ≤ 250 := by unfold mkb; omega
theorem mkbw (t : Nat) : IntKind.u8.wrap (IntKind.i64.wrap (1 + ((t % 250 : Nat) : Int))) = mkb t := by
  rw [Go.IntWalk.i64_in _ ⟨by omega, by omega⟩]
  unfold mkb
  rw [Go.IntWalk.u8_in _ ⟨by omega, by omega⟩]
  omega
abbrev u8s (k : Nat) (m : Int) : List Value := List.replicate k (Value.int .u8 m)
theorem rep_one (n k : Nat) (m : Int) : u8s n m ++ rep k [.int .u8 m] = u8s (n + k) m := by
  have : rep k [Value.int .u8 m] = List.replicate k (.int .u8 m) := by
    induction k with
    | zero => rfl
    | succ k ih => rw [rep_succ, ih, List.replicate_succ']
  rw [this, List.replicate_append_replicate]
abbrev mA (i : Nat) (x : It) : List Value := u8s x.L.length (mkb i)
abbrev mB (_ : Nat) (x : It) : List Value := x.L.map (Value.int .u8)
abbrev mC (i : Nat) (x : It) : List Value := u8s (x.L.length + 600) (mkb i)
/-- The hoard's lists as apart reads them. -/
structure Hl (w : World) (hb N : Nat) (aL : Option Addr) (cL : Nat) (es : List It) : Prop where
  box : w.cell? ⟨hb, 0, none⟩ = some (.slice aL N cL)
  row : w.ownsRow 0 22 1 (.slice aL N cL) N (es.map It.v)
theorem Hl.get {w : World} {hb N : Nat} {aL : Option Addr} {cL : Nat} {es : List It} (h : Hl w hb N aL cL es) {t : Nat} {e : It} (he : es[t]? = some e) (ht : t < N) : ∃ gL, aL = some ⟨gL, 0, none⟩ ∧ w.cell? ⟨gL, t, none⟩ = some e.v := by
  obtain ⟨g, cap, hv, hc⟩ := own_get h.row ht
  refine ⟨g, ?_, ?_⟩
  · cases hv; rfl
  · rw [hc]; simp [he]
theorem Hl.turns {F : Nat → Prop} {w w' : World} {hb N : Nat} {aL : Option Addr} {cL : Nat} {es : List It} (h : Hl w hb N aL cL es) (T : Turns F w w') (h1 : ¬ F hb) (h2 : ∀ b, (Value.slice aL N cL).ownBlock = some b → ¬ F b) : Hl w' hb N aL cL es :=
  ⟨(World.cell?_of_block (T.block hb (World.block_lt_of_cell? w _ h.box) h1)).trans h.box, own_turns h.row T h2⟩

set_option maxHeartbeats 4000000 in
theorem apart_h {w : World} {lab : Nat → Nat} {hb : Nat} {vL vW : Value} {es : List It} (h : Hd w lab hb vL vW es) (hes : es.length ≤ 1000) :
    Calls Try.prog 27 #[.pointer (some ⟨hb, 0, none⟩)] w fun e w' => e = .returned (.bool true) ∧ Turns (fun i => ∃ e ∈ es, e.v.ownBlock = some i) w w' := by
  obtain ⟨i0, hi, hz0, hz1, hz2⟩ := info_parts Try.info5
  obtain ⟨i1, hi', hy0, hy1, hy2⟩ := info_parts Try.info22
  obtain ⟨aL, cL, rfl⟩ := own_slice h.rl
  obtain ⟨N, hN⟩ : ∃ N, es.length = N := ⟨_, rfl⟩
  have hbox := h.box
  have hrl := h.rl
  have hsep := h.sep
  have hen := h.le
  rw [hN] at hbox hrl hes
  have b0 : w.cell? ⟨hb, 0, none⟩ = some (.slice aL N cL) := by simp [World.cell?, hbox]
  have hH : Hl w hb N aL cL es := ⟨b0, hrl⟩
  have hM : Rows w 5 1 It.v (fun e => e.L.length) mA mB es 0 := ⟨fun i e _ q => by omega, fun i e he _ => h.dat e (List.mem_of_getElem? he)⟩
  have G1 : ¬ ∃ e ∈ es, e.v.ownBlock = some hb := fun ⟨e, he, q⟩ => own_typ (h.dat e he) hbox (by decide) q
  have G2 : ∀ b, (Value.slice aL N cL).ownBlock = some b → ¬ ∃ e ∈ es, e.v.ownBlock = some b := fun b hb ⟨e, he, q⟩ => own_apart (h.dat e he) hrl (by decide) b q hb
  clear h hbox hrl b0
  have hNi : (N : Int) ≤ 1000 := by omega
  go_enter Try.func27, Try.ntmps27
  have c0 := hH.box
  go_wp2_with fail
  go_loopw [4] (fun i wr => ∃ t : Nat, t ≤ N ∧ i = .int .i64 t ∧ Turns (fun i => ∃ e ∈ es, e.v.ownBlock = some i) w wr ∧ Rows wr 5 1 It.v (fun e => e.L.length) mA mB es t) (fun i _ => N - (intOf i).toNat)
  case atStart => exact ⟨0, Nat.zero_le _, rfl, Turns.refl _ _, hM⟩
  case round =>
    clear hM c0
    obtain ⟨t, ht, rfl, hT, hM⟩ := hrel
    have hHr := hH.turns hT G1 G2
    have c0 := hHr.box
    by_cases hlt : t < N
    · have hti : (t : Int) < N := by omega
      obtain ⟨e, he⟩ : ∃ e, es[t]? = some e := ⟨_, List.getElem?_eq_getElem (by omega)⟩
      have hem := List.mem_of_getElem? he
      obtain ⟨gL, haL, l0⟩ := hHr.get he hlt
      subst haL
      have hdat := hM.hi t e he (Nat.le_refl _)
      have hL := hen e hem
      obtain ⟨n, hn⟩ : ∃ n, e.L.length = n := ⟨_, rfl⟩
      obtain ⟨ae, ce, hev⟩ := own_slice hdat
      try dsimp only [mB] at hev hdat
      rw [hn] at hL hdat hev
      rw [hev] at l0 hdat
      have hm := mkbw t
      have hni : (n : Int) ≤ 64 := by omega
      rename World => W1
      go_wp2_with fail
      go_loopw [5] (fun j wr => ∃ (q : Nat) (bs : List Value), q ≤ n ∧ j = .int .i64 q ∧ wr.ownsRow 0 5 1 (.slice ae n ce) n bs ∧ (∀ u, u < q → bs[u]? = some (.int .u8 (mkb t))) ∧ Turns (fun i => (Value.slice ae n ce).ownBlock = some i) W1 wr) (fun j _ => n - (intOf j).toNat)
      case atStart => exact ⟨0, _, Nat.zero_le _, rfl, hdat, (fun u hu => by omega), Turns.refl _ _⟩
      case round =>
        obtain ⟨q, bs, hq, rfl, hbs, hmk, hT2⟩ := hrel
        have hH2 := hHr.turns hT2 (fun r => G1 ⟨e, hem, by rw [hev]; exact r⟩) (fun b hb' r => G2 b hb' ⟨e, hem, by rw [hev]; exact r⟩)
        have d0 := hH2.box
        have d1 : wr.cell? ⟨gL, t, none⟩ = some (.slice ae n ce) := by
          obtain ⟨g', h1, h2⟩ := hH2.get he hlt
          cases h1
          rw [h2, hev]
        by_cases hlq : q < n
        · have hqi : (q : Int) < n := by omega
          obtain ⟨g, c', hae, hcq⟩ := own_get hbs hlq
          obtain ⟨rfl, rfl⟩ : ae = some ⟨g, 0, none⟩ ∧ ce = c' := by cases hae; exact ⟨rfl, rfl⟩
          have hbl := hbs.1
          obtain ⟨v, hv⟩ : ∃ v, bs[q]? = some v := ⟨_, List.getElem?_eq_getElem (by omega)⟩
          have k0 : wr.cell? ⟨g, q, none⟩ = some v := hcq.trans hv
          have f0 : wr.frozen? ⟨g, q, none⟩ = false := own_fz hbs q
          have HG2 : Hid ((wr.setCell ⟨g, q, none⟩ (.int .u8 (mkb t))).ownsRow 0 5 1 (.slice (some ⟨g, 0, none⟩) n ce) n (bs.set q (.int .u8 (mkb t)))) := (hbs.stored q _).1
          have HT2 : Hid (Turns (fun i => (Value.slice (some ⟨g, 0, none⟩) n ce).ownBlock = some i) W1 (wr.setCell ⟨g, q, none⟩ (.int .u8 (mkb t)))) := hT2.trans (Turns.cell wr g q _) (fun _ _ h => by rw [h]; rfl)
          have HBS : Hid (∀ u, u < q + 1 → (bs.set q (.int .u8 (mkb t)))[u]? = some (.int .u8 (mkb t))) := fun u hu => by
            rw [List.getElem?_set]
            by_cases r : q = u
            · rw [if_pos r, if_pos (by omega)]
            · rw [if_neg r]; exact hmk u (by omega)
          clear hbs hv hT2 hmk hH2 hcq hae hdat
          go_wp2_with fail
          go_roundw
          case rel => exact ⟨q + 1, bs.set q (.int .u8 (mkb t)), by omega, by go_num, HG2.out, HBS.out, HT2.out⟩
          case measure => simp [intOf]; omega
        · obtain rfl : q = n := by omega
          have hbl := hbs.1
          obtain rfl : bs = u8s q (mkb t) := by
            refine List.ext_getElem? (fun u => ?_)
            by_cases hu : u < q
            · rw [hmk u hu, List.getElem?_replicate, if_pos hu]
            · rw [List.getElem?_eq_none (by omega), List.getElem?_eq_none (by simp; omega)]
          have hM2 := hM.step hsep he (by rw [hev]; exact hT2) (by show World.ownsRow _ _ _ _ _ _ _; rw [hev]; simp only [mA, hn]; exact hbs)
          have hTT := hT.trans hT2 (fun i _ r => ⟨e, hem, by rw [hev]; exact r⟩)
          go_wp2_with fail
          go_roundw
          case rel => exact ⟨t + 1, by omega, by go_num, hTT, hM2⟩
          case measure => simp [intOf]; omega
    · have hti : ¬ (t : Int) < N := by omega
      have htN : t = N := by omega
      rw [htN] at hM
      rename World => W2
      have hTW := hT
      have hold : ∀ e ∈ es, ∀ b, e.v.ownBlock = some b → b < W2.heap.size := fun e he b q => by
        obtain ⟨i, hi⟩ := List.mem_iff_getElem?.1 he
        obtain ⟨_, ho⟩ := hM.own hi
        exact own_lt ho q
      clear hT hH
      go_wp2_with fail
      go_loopw [3, 6] (fun far i wr => ∃ (q : Nat) (fv : List Value), q ≤ N ∧ i = .int .i64 q ∧ wr.ownsRow W2.heap.size 22 1 far q fv ∧ Gone wr W2.heap.size 5 1 It.v (fun e => e.L.length + 600) mC es fv ∧ Rows wr 5 1 It.v (fun e => e.L.length) mA mB es N ∧ Turns (fun i => ∃ e ∈ es, e.v.ownBlock = some i) W2 wr) (fun _ i _ => N - (intOf i).toNat)
      case atStart => exact ⟨0, [], Nat.zero_le _, rfl, ⟨rfl, Or.inl ⟨rfl, rfl⟩⟩, (fun i e v _ hv => by simp at hv), hM, Turns.refl _ _⟩
      case round =>
        clear c0 hM
        obtain ⟨q, fv, hq, rfl, hfar, hfs, hM3, hB⟩ := hrel
        have hH3 := hHr.turns hB G1 G2
        have c0 := hH3.box
        by_cases hlq : q < N
        · have hqi : (q : Int) < N := by omega
          obtain ⟨e, he⟩ : ∃ e, es[q]? = some e := ⟨_, List.getElem?_eq_getElem (by omega)⟩
          have hem := List.mem_of_getElem? he
          obtain ⟨gL, haL, l0⟩ := hH3.get he hlq
          subst haL
          have hdat := hM3.lo q e he hlq
          have hL := hen e hem
          obtain ⟨n, hn⟩ : ∃ n, e.L.length = n := ⟨_, rfl⟩
          obtain ⟨ae, ce, hev⟩ := own_slice hdat
          try dsimp only [mA] at hev hdat
          rw [hn] at hL hdat hev
          rw [hev] at l0 hdat
          have hm := mkbw q
          have hni : (n : Int) ≤ 64 := by omega
          rename World => W3
          have hst : Far W3 W3 5 1 n 0 (.slice ae n ce) (.slice ae n ce) (u8s n (mkb q)) [.int .u8 (mkb q)] := Far.start _ hdat
          have hsz := hB.size
          go_wp2_with fail
          go_loopw [7, 8] (fun l k wr => ∃ p : Nat, p ≤ 600 ∧ k = .int .i64 p ∧ Far W3 wr 5 1 n p (.slice ae n ce) l (u8s n (mkb q)) [.int .u8 (mkb q)]) (fun _ k _ => 600 - (intOf k).toNat)
          case atStart => exact ⟨0, Nat.zero_le _, rfl, hst⟩
          case round =>
            clear hst
            obtain ⟨p, hp, rfl, hF⟩ := hrel
            have hown := hF.own
            have hFs := hF.tu.size
            by_cases hlp : p < 600
            · have hpi : (p : Int) < 600 := by omega
              obtain ⟨al, cl, rfl⟩ := own_slice hown
              go_wp2_with (at_builtin; refine wpList_append_own_split _ rfl _ _ 22 rfl 0 5 i0 (.int .u8 0) 1 1 Try.underlying22 hi hz0 hz1 hz2 rfl (by decide) _ _ _ rfl (hown.alloc _) ⟨wr.heap.size, 0, none⟩ 1 1 [.int .u8 (mkb q)] (by decide) rfl rfl (cell_one_new _ _ _) (by intro u hu; simp at hu; subst hu; rfl) (by unfold maxLen; omega) (by omega) (by first | omega | (simp; done) | (simp; omega)) ?_; intro v3 w3 hv3 hl3)
              have hF3 := hF.step hv3 hl3
              go_roundw
              case rel => exact ⟨p + 1, by omega, by go_num, hF3⟩
              case measure => simp [intOf]; omega
            · have hpi : ¬ (p : Int) < 600 := by omega
              obtain rfl : p = 600 := by omega
              have hdn := hown
              rw [rep_one] at hdn
              obtain ⟨al, cl, rfl⟩ := own_slice hown
              have hne0 : ∀ b, W2.heap.size ≤ b → ¬ (Value.slice ae n ce).ownBlock = some b := fun b hb r => by
                have := hold e hem b (by rw [hev]; exact r)
                omega
              have hfar4 := own_turns hfar hF.tu (fun b hb => hne0 b (own_ge hfar hb))
              obtain ⟨af, cf, rfl⟩ := own_slice hfar4
              have hB4 := hB.trans hF.tu (fun i _ r => ⟨e, hem, by rw [hev]; exact r⟩)
              have hfl := hfar4.1
              have hM4 : Rows wr 5 1 It.v (fun e => e.L.length) mA mB es N := ⟨fun i x hx hi => by
                by_cases c : i = q
                · subst c; rw [he] at hx; cases hx
                  show World.ownsRow _ _ _ _ _ _ _
                  rw [hev]; simp only [mA, hn]; exact hF.st
                · exact own_turns (hM3.lo i x hx hi) hF.tu (by rw [← hev]; exact sep_at hsep hx he c), fun i x hx hi => by
                have := (List.getElem?_eq_some_iff.1 hx).1; omega⟩
              have hfs4 : Gone wr W2.heap.size 5 1 It.v (fun e => e.L.length + 600) mC es fv := hfs.turns hF.tu (fun i x v hx hv b hb => by
                rcases (hfs i x v hx hv).2 b hb with r | r
                · have := (List.getElem?_eq_some_iff.1 hv).1
                  rw [← hev]; exact sep_at hsep hx he (by omega) b r
                · exact hne0 b r)
              have hfp : ∀ b, (Value.slice al (n + 600) cl).ownBlock = some b → e.v.ownBlock = some b ∨ W2.heap.size ≤ b := fun b hb => (hF.pos b hb).imp (fun r => by rw [hev]; exact r) (fun r => by omega)
              have hfs5 := hfs4.snoc (x := e) (v := .slice al (n + 600) cl) (by rw [hfl, Nat.mul_one]; exact he) (by rw [hfl, Nat.mul_one]; simp only [mC, hn]; exact hdn) hfp
              clear hfar hfs hF hown hB hM3 hfs4
              go_wp2_with (at_builtin; refine wpList_append_own_at _ rfl _ _ 37 rfl W2.heap.size 22 i1 (.slice none 0 0) 1 24 Try.underlying37 hi' hy0 hy1 hy2 rfl (by decide) _ q _ rfl (hfar4.alloc _) ⟨wr.heap.size, 0, none⟩ 1 1 [.slice al (n + 600) cl] rfl rfl (cell_one_new _ _ _) (by intro u hu; simp at hu; subst hu; rfl) (by unfold maxLen; omega) (by omega) (by first | omega | (simp; done) | (simp; omega)) ?_; intro vB wB hoB hgB hnB hatB)
              have tB : Turns (fun i => (Value.slice af q cf).ownBlock = some i) wr wB := (Turns.alloc _ wr _).trans (Turns.grown (F := fun i => (Value.slice af q cf).ownBlock = some i) hgB (fun b hb => hb)) (fun _ _ h => h)
              have hfsB := hfs5.turns tB (fun i x v hx hv => own_apart (hfs5 i x v hx hv).1 hfar4 (by decide))
              have hMB := hM4.turns tB (fun x hx b hb => by
                obtain ⟨i, hi⟩ := List.mem_iff_getElem?.1 hx
                obtain ⟨_, ho⟩ := hM4.own hi
                exact own_apart ho hfar4 (by decide) b hb)
              have hBB : Turns (fun i => ∃ e ∈ es, e.v.ownBlock = some i) W2 wB := hB4.trans tB (fun i hi r => by have := own_ge hfar4 r; omega)
              go_roundw
              case rel => exact ⟨q + 1, _, by omega, by go_num, hoB, hfsB, hMB, hBB⟩
              case measure => simp [intOf]; omega
        · have hqi : ¬ (q : Int) < N := by omega
          obtain rfl : q = N := by omega
          have hfl := hfar.1
          obtain ⟨af, cf, rfl⟩ := own_slice hfar
          rename World => W3
          have hTT : Turns (fun i => ∃ e ∈ es, e.v.ownBlock = some i) w W3 := hTW.trans hB (fun _ _ h => h)
          clear hB hHr hTW
          go_wp2_with fail
          go_loopw [9] (fun i wr => ∃ t : Nat, t ≤ q ∧ i = .int .i64 t ∧ Below W3.heap.size W3 wr) (fun i _ => q - (intOf i).toNat)
          case atStart => exact ⟨0, Nat.zero_le _, rfl, Below.refl _ _⟩
          case round =>
            obtain ⟨t, ht, rfl, hB⟩ := hrel
            have c1 := cell_later hB c0
            by_cases hlt : t < q
            · have hti : (t : Int) < q := by omega
              obtain ⟨e, he⟩ : ∃ e, es[t]? = some e := ⟨_, List.getElem?_eq_getElem (by omega)⟩
              have hem := List.mem_of_getElem? he
              obtain ⟨gL, haL, l0⟩ := hH3.get he hlt
              subst haL
              have hdat := hM3.lo t e he hlt
              have hL := hen e hem
              obtain ⟨n, hn⟩ : ∃ n, e.L.length = n := ⟨_, rfl⟩
              obtain ⟨ae, ce, hev⟩ := own_slice hdat
              try dsimp only [mA] at hev hdat
              rw [hn] at hL hdat hev
              rw [hev] at l0 hdat
              have l1 := cell_later hB l0
              obtain ⟨gF, cF, haF, hf0⟩ := own_get hfar hlt
              obtain ⟨v, hv⟩ : ∃ v, fv[t]? = some v := ⟨_, List.getElem?_eq_getElem (by omega)⟩
              have hro := (hfs t e v he hv).1
              dsimp only [mC] at hro
              rw [hn] at hro
              rw [hv] at hf0
              obtain ⟨av, cv, rfl⟩ := own_slice hro
              obtain ⟨gv, cv', hav, _⟩ := own_get hro (i := 0) (by omega)
              have hav : av = some ⟨gv, 0, none⟩ ∧ cv = cv' := by cases hav; exact ⟨rfl, rfl⟩
              obtain ⟨rfl, rfl⟩ := hav
              have haF' : af = some ⟨gF, 0, none⟩ := by cases haF; rfl
              subst haF'
              have f1 := cell_later hB hf0
              have hm := mkbw t
              have hni : (n : Int) ≤ 64 := by omega
              have rdF : ∀ u, u < n + 600 → W3.cell? ⟨gv, u, none⟩ = some (.int .u8 (mkb t)) := fun u hu => by
                obtain ⟨g', c', hv', hc⟩ := own_get hro hu
                cases hv'
                rw [hc, List.getElem?_replicate, if_pos hu]
              have rdL : ∀ u, u < n → ∃ g, ae = some ⟨g, 0, none⟩ ∧ W3.cell? ⟨g, u, none⟩ = some (.int .u8 (mkb t)) := fun u hu => by
                obtain ⟨g', c', hv', hc⟩ := own_get hdat hu
                refine ⟨g', by cases hv'; rfl, ?_⟩
                rw [hc, List.getElem?_replicate, if_pos hu]
              clear hro hdat hfs hM3
              rename World => W4
              go_wp2_with fail
              go_quiet (fail)
              go_wp2_with fail
              go_loopw [10] (fun j wr => ∃ u : Nat, u ≤ n + 600 ∧ j = .int .i64 u ∧ Below W3.heap.size W3 wr) (fun j _ => n + 600 - (intOf j).toNat)
              case atStart => exact ⟨0, Nat.zero_le _, rfl, by first | exact hB | exact hB.trans ((below_drewN _ _).mono hB.size)⟩
              case round =>
                clear c1 l1 f1
                obtain ⟨u, hu, rfl, hB5⟩ := hrel
                have c2 := cell_later hB5 c0
                have l2 := cell_later hB5 l0
                have f2 := cell_later hB5 hf0
                by_cases hlu : u < n + 600
                · have hui : (u : Int) < n + 600 := by omega
                  have r1 := cell_later hB5 (rdF u hlu)
                  by_cases hun : u < n
                  · have huni : (u : Int) < n := by omega
                    obtain ⟨ge, rfl, r2'⟩ := rdL u hun
                    have r2 := cell_later hB5 r2'
                    clear rdF rdL c0 l0 hf0 r2'
                    go_wp2_with fail
                    refine ⟨⟨u + 1, by omega, by simp, hB5⟩, by simp [intOf]; omega⟩
                  · have huni : ¬ (u : Int) < n := by omega
                    clear rdF rdL c0 l0 hf0
                    go_wp2_with fail
                    refine ⟨⟨u + 1, by omega, by simp, hB5⟩, by simp [intOf]; omega⟩
                · have hui : ¬ (u : Int) < n + 600 := by omega
                  go_wp2_with fail
                  go_roundw
                  case rel => exact ⟨t + 1, by omega, by go_num, hB5⟩
                  case measure => simp [intOf]; omega
            · have hti : ¬ (t : Int) < q := by omega
              go_wp2
              go_ret
              exact ⟨rfl, hTT.trans (Below.turns hB (fun _ => False)) (fun _ _ h => h.elim)⟩
end Go.Proofs.Ytpbanjgjljdepaa
