/- AlarmForgets, walked: the first list longer than 300, the second longer than 300. -/
import Derived.Test.YtbopghpfghaoeaaAS
import Derived.Test.YtbopghpfghaoeaaAP
namespace Go.Proofs.Ytbopghpfghaoeaa
open Go.RowKit Go.Maps
set_option maxRecDepth 100000
attribute [local go_sem ↓] Go.wp_at_zero Go.wp_at_succ
set_option maxHeartbeats 8000000 in
theorem forgets_GG (ao : Option Addr) (n c : Nat) (es : List (Int × Int)) (ao2 : Option Addr) (n2 c2 : Nat) (ks : List (Int × Int)) (now : Int) (w : World) (hn : n ≤ 140737488355328) (h : PLies w ao n es) (hn2 : n2 ≤ 140737488355328) (h2 : PLies w ao2 n2 ks) (hA : 300 < n) (hA2 : 300 < n2) :
    Calls Try.prog 3 #[.slice ao n c, .slice ao2 n2 c2, .int .i64 now] w fun e w' => e = .returned (.bool true) ∧ Below w.heap.size w w' := by
  have HP : Hid (PLies w ao n es) := h
  have HQ : Hid (PLies w ao2 n2 ks) := h2
  have b0 : (n : Int) ≤ 140737488355328 := by omega
  have b02 : (n2 : Int) ≤ 140737488355328 := by omega
  clear h h2
  go_enter Try.func3, Try.ntmps3
  go_wp2_with fail
  refine (head_any w).mono ?_
  rintro e w1 ⟨rfl, b1⟩
  have B1 := (Bk.refl w).below b1 3
  generalize rl (fun _ => 0) w 3 = l1 at B1
  clear b1
  go_wp2_with fail
  refine (new_I w1 l1 1).mono ?_
  rintro e w2 ⟨a, rfl, q2, b2⟩
  have B2 := B1.below b2 1
  generalize rl l1 w1 1 = l2 at q2 B2
  clear B1 b2
  go_wp2_with fail
  refine (new_I w2 l2 2).mono ?_
  rintro e w3 ⟨b, rfl, q3, b3⟩
  have T3 : Tw w w3 (rl l2 w2 2) a b [] [] := ⟨B2.below b3 2, q2.below b3 2, q3⟩
  generalize rl l2 w2 2 = l3 at T3
  clear B2 b3 q2 q3
  go_wp2_with fail
  go_loopw [10] (fun u wr => ∃ (i : Nat) (lab : Nat → Nat), i ≤ n ∧ i ≤ 300 ∧ u = .int .i64 i ∧ Tw w wr lab a b (setAll [] (es.take i)) []) (fun u _ => 301 - (intOf u).toNat)
  case atStart => exact ⟨0, _, Nat.zero_le _, Nat.zero_le _, rfl, T3⟩
  case round =>
  clear T3
  obtain ⟨i, lab, hin, hi3, rfl, T⟩ := hrel
  by_cases hlt3 : i < 300
  · have hlt : i < n := by omega
    have a1 : (i : Int) < n := by omega
    have a2 : (i : Int) < 300 := by omega
    have a3 : (0 : Int) ≤ i := by omega
    obtain ⟨g, p, e, rfl, he, hpin, x0, x1⟩ := HP.out.at i hlt
    have hgl := World.block_lt_of_cell? w _ x0
    have y0 := (T.bk.b.cell (p := ⟨g, p + i * 2, none⟩) hgl).trans x0
    have HE : Hid (setAll [] (es.take (i + 1)) = setS OI (setAll [] (es.take i)) e.1 e.2) := by
      show _ = _
      rw [take_snoc he, setAll_snoc]
    have hsl : (setAll [] (es.take i)).length < 4398046511104 := by
      have := setAll_len [] (es.take i)
      simp at this; omega
    have y1 := (T.bk.b.cell (p := ⟨g, p + i * 2 + 1, none⟩) hgl).trans x1
    have HT : Hid (Calls Try.prog 9 #[.pointer (some ⟨a, 0, none⟩), .int .i64 e.1, .int .i64 e.2] wr.drew fun x w' => x = .returned (.tuple #[]) ∧ TwR 1 w wr.drew w' lab a b (setS OI (setAll [] (es.take i)) e.1 e.2) []) := (T.drew 1).setA e.1 e.2 hpin.k hsl
    clear he T hsl
    go_wp2_with fail
    go_region_held3 (fun w' => w'.cell? ⟨g, p + i * 2, none⟩ = some (.int .i64 e.1) ∧ w'.cell? ⟨g, p + i * 2 + 1, none⟩ = some (.int .i64 e.2))
      (first | exact ⟨y0, y1⟩ | exact ⟨z0, z1⟩)
      (first
        | (go_at_call 9; refine HT.out.mono ?_; rintro e' wT ⟨rfl, rT⟩; have z0 : wT.cell? ⟨g, p + i * 2, none⟩ = some (.int .i64 e.1) := (by { obtain ⟨l', T', _⟩ := rT; exact (T'.bk.b.cell (p := ⟨g, p + i * 2, none⟩) hgl).trans x0 }); have z1 : wT.cell? ⟨g, p + i * 2 + 1, none⟩ = some (.int .i64 e.2) := (by { obtain ⟨l', T', _⟩ := rT; exact (T'.bk.b.cell (p := ⟨g, p + i * 2 + 1, none⟩) hgl).trans x1 })))
    obtain ⟨l', T', _⟩ := rT
    rw [← HE.out] at T'
    go_wp2_with fail
    go_roundw
    case rel => exact ⟨i + 1, l', by omega, by omega, by go_num, T'⟩
    case measure => simp [intOf]; omega
  · have a1 : (i : Int) < n := by omega
    have a2 : ¬ (i : Int) < 300 := by omega
    have HI : Hid (es.take i = es.take 300) := by
      show _ = _
      have hlen := HP.out.hlen
      first
        | (rw [List.take_of_length_le (by omega), List.take_of_length_le (by omega)]; done)
        | (rw [show i = 300 by omega])
    rw [HI.out] at T
    clear HI
    obtain ⟨wz, hwz⟩ : ∃ wz, wz = wr := ⟨wr, rfl⟩
    subst hwz
    go_wp2_with fail
    refine (T.dueA now).mono ?_
    rintro e w5 ⟨v5, rfl, l5, _, _, T5, _⟩
    replace T5 : Tw w w5 l5 a b (cutAll (leftS (setAll [] (es.take 300)) now) (es.take 0)) [] := by simpa [cutAll] using T5
    clear T
    go_wp2_with fail
    go_loopw [11] (fun u wr => ∃ (i : Nat) (lab : Nat → Nat), i ≤ n ∧ i ≤ 300 ∧ u = .int .i64 i ∧ Tw w wr lab a b (cutAll (leftS (setAll [] (es.take 300)) now) (es.take i)) []) (fun u _ => 301 - (intOf u).toNat)
    case atStart => exact ⟨0, _, Nat.zero_le _, Nat.zero_le _, rfl, T5⟩
    case round =>
    clear T5
    obtain ⟨i, lab, hin, hi3, rfl, T⟩ := hrel
    by_cases hlt3 : i < 300
    · have hlt : i < n := by omega
      have a1 : (i : Int) < n := by omega
      have a2 : (i : Int) < 300 := by omega
      have a3 : (0 : Int) ≤ i := by omega
      obtain ⟨g, p, e, rfl, he, hpin, x0, x1⟩ := HP.out.at i hlt
      have hgl := World.block_lt_of_cell? w _ x0
      have y0 := (T.bk.b.cell (p := ⟨g, p + i * 2, none⟩) hgl).trans x0
      have HE : Hid (cutAll (leftS (setAll [] (es.take 300)) now) (es.take (i + 1)) = cutS (cutAll (leftS (setAll [] (es.take 300)) now) (es.take i)) e.1) := by
        show _ = _
        rw [take_snoc he, cutAll_snoc]
      have HT : Hid (Calls Try.prog 11 #[.pointer (some ⟨a, 0, none⟩), .int .i64 e.1] wr fun x w' => x = .returned (.bool (atS (cutAll (leftS (setAll [] (es.take 300)) now) (es.take i)) e.1).isSome) ∧ TwR 1 w wr w' lab a b (cutS (cutAll (leftS (setAll [] (es.take 300)) now) (es.take i)) e.1) []) := T.cancelA e.1 hpin.k
      clear he T
      go_wp2_with (go_at_call 11; refine HT.out.mono ?_; rintro e' wT ⟨rfl, rT⟩)
      obtain ⟨l', T', _⟩ := rT
      rw [← HE.out] at T'
      go_roundw
      case rel => exact ⟨i + 1, l', by omega, by omega, by go_num, T'⟩
      case measure => simp [intOf]; omega
    · have a1 : (i : Int) < n := by omega
      have a2 : ¬ (i : Int) < 300 := by omega
      have HI : Hid (es.take i = es.take 300) := by
        show _ = _
        have hlen := HP.out.hlen
        first
          | (rw [List.take_of_length_le (by omega), List.take_of_length_le (by omega)]; done)
          | (rw [show i = 300 by omega])
      rw [HI.out] at T
      clear HI
      obtain ⟨wz, hwz⟩ : ∃ wz, wz = wr := ⟨wr, rfl⟩
      subst hwz
      go_wp2_with fail
      rw [cut_none] at T
      have T6 : Tw w wz lab a b (setAll [] (ks.take 0)) [] := T
      clear T
      go_loopw [12] (fun u wr => ∃ (i : Nat) (lab : Nat → Nat), i ≤ n2 ∧ i ≤ 300 ∧ u = .int .i64 i ∧ Tw w wr lab a b (setAll [] (ks.take i)) []) (fun u _ => 301 - (intOf u).toNat)
      case atStart => exact ⟨0, _, Nat.zero_le _, Nat.zero_le _, rfl, T6⟩
      case round =>
      clear T6
      obtain ⟨i, lab, hin, hi3, rfl, T⟩ := hrel
      by_cases hlt3 : i < 300
      · have hlt : i < n2 := by omega
        have a1 : (i : Int) < n2 := by omega
        have a2 : (i : Int) < 300 := by omega
        have a3 : (0 : Int) ≤ i := by omega
        obtain ⟨g, p, e, rfl, he, hpin, x0, x1⟩ := HQ.out.at i hlt
        have hgl := World.block_lt_of_cell? w _ x0
        have y0 := (T.bk.b.cell (p := ⟨g, p + i * 2, none⟩) hgl).trans x0
        have HE : Hid (setAll [] (ks.take (i + 1)) = setS OI (setAll [] (ks.take i)) e.1 e.2) := by
          show _ = _
          rw [take_snoc he, setAll_snoc]
        have hsl : (setAll [] (ks.take i)).length < 4398046511104 := by
          have := setAll_len [] (ks.take i)
          simp at this; omega
        have y1 := (T.bk.b.cell (p := ⟨g, p + i * 2 + 1, none⟩) hgl).trans x1
        have HT : Hid (Calls Try.prog 9 #[.pointer (some ⟨a, 0, none⟩), .int .i64 e.1, .int .i64 e.2] wr.drew fun x w' => x = .returned (.tuple #[]) ∧ TwR 1 w wr.drew w' lab a b (setS OI (setAll [] (ks.take i)) e.1 e.2) []) := (T.drew 1).setA e.1 e.2 hpin.k hsl
        clear he T hsl
        go_wp2_with fail
        go_region_held3 (fun w' => w'.cell? ⟨g, p + i * 2, none⟩ = some (.int .i64 e.1) ∧ w'.cell? ⟨g, p + i * 2 + 1, none⟩ = some (.int .i64 e.2))
          (first | exact ⟨y0, y1⟩ | exact ⟨z0, z1⟩)
          (first
            | (go_at_call 9; refine HT.out.mono ?_; rintro e' wT ⟨rfl, rT⟩; have z0 : wT.cell? ⟨g, p + i * 2, none⟩ = some (.int .i64 e.1) := (by { obtain ⟨l', T', _⟩ := rT; exact (T'.bk.b.cell (p := ⟨g, p + i * 2, none⟩) hgl).trans x0 }); have z1 : wT.cell? ⟨g, p + i * 2 + 1, none⟩ = some (.int .i64 e.2) := (by { obtain ⟨l', T', _⟩ := rT; exact (T'.bk.b.cell (p := ⟨g, p + i * 2 + 1, none⟩) hgl).trans x1 })))
        obtain ⟨l', T', _⟩ := rT
        rw [← HE.out] at T'
        go_wp2_with fail
        go_roundw
        case rel => exact ⟨i + 1, l', by omega, by omega, by go_num, T'⟩
        case measure => simp [intOf]; omega
      · have a1 : (i : Int) < n2 := by omega
        have a2 : ¬ (i : Int) < 300 := by omega
        have HI : Hid (ks.take i = ks.take 300) := by
          show _ = _
          have hlen := HQ.out.hlen
          first
            | (rw [List.take_of_length_le (by omega), List.take_of_length_le (by omega)]; done)
            | (rw [show i = 300 by omega])
        rw [HI.out] at T
        clear HI
        obtain ⟨wy, hwy⟩ : ∃ wy, wy = wr := ⟨wr, rfl⟩
        subst hwy
        go_wp2_with fail
        have L0 : PLies wy ao2 n2 ks := HQ.out.below T.bk.b (Nat.le_refl _)
        refine (last_any L0 hn2).mono ?_
        rintro e w6 ⟨v, rfl, o6, b6⟩
        have T6 := T.below b6 3
        have hv6 : ∀ c, v.ownBlock = some c → rl lab wy 3 c = 3 := fun c hc => rl_new (o6.lt c hc).1
        have HSL := setAll_last (ks.take 300)
        have HSN := setAll_last_len (ks.take 300)
        have hks := lastL_len (ks.take 300)
        have hin := (fun x hx => by
          obtain ⟨j, hj⟩ := List.mem_iff_getElem?.1 (List.mem_of_mem_take hx)
          exact (HQ.out.hcells j x hj).1 : ∀ x ∈ ks.take 300, PIn x)
        have hLin : ∀ x ∈ lastL (ks.take 300), PIn x := fun x hx => hin x (mem_of_last hx)
        generalize lastL (ks.take 300) = L at o6 HSL HSN hks hLin
        have HLin : Hid (∀ x ∈ L, PIn x) := hLin
        have hSin : ∀ x ∈ setAll [] (ks.take 300), PIn x := fun x hx => hLin x (by rw [← HSL] at hx; exact List.mem_reverse.1 (mem_of_set hx))
        generalize setAll [] (ks.take 300) = S at T6 HSL HSN hSin
        have HSin : Hid (∀ x ∈ S, PIn x) := hSin
        replace hks : L.length ≤ 300 := by simp at hks; omega
        obtain ⟨M, hM⟩ : ∃ M, L.length = M := ⟨_, rfl⟩
        rw [hM] at o6 hks HSN
        have HM : Hid (L.length = M) := hM
        have HS1 : Hid (setAll [] L.reverse = S) := HSL
        have HS2 : Hid (S.length = M) := HSN
        obtain ⟨va, vc, hvv⟩ := own_slice o6
        subst hvv
        generalize rl lab wy 3 = l6 at T6 hv6
        have c0 : (M : Int) ≤ 300 := by omega
        clear T L0 b6 hM HSL HSN hin hLin hSin
        go_wp2_with fail
        go_loopw [14] (fun u wr => ∃ (j : Nat) (z : Int) (lab : Nat → Nat), j ≤ M ∧ u = .int .i64 z ∧ z = (M : Int) - 1 - j ∧ Tw w wr lab a b S (setAll [] (L.reverse.take j)) ∧ wr.ownsRow wy.heap.size 28 2 (.slice va M vc) M (L.flatMap (tc KI)) ∧ (∀ c, (Value.slice va M vc).ownBlock = some c → lab c = 3)) (fun u _ => (intOf u + 1).toNat)
        case atStart => exact ⟨0, _, l6, Nat.zero_le _, rfl, by omega, T6, o6, hv6⟩
        case round =>
        clear T6 o6 hv6
        obtain ⟨j, z, lab, hjM, rfl, hz, T, o, hv⟩ := hrel
        by_cases hj : j < M
        · obtain ⟨d, rfl⟩ : ∃ d : Nat, z = d := ⟨M - 1 - j, by omega⟩
          have hdM : d < M := by omega
          obtain ⟨x, hx⟩ : ∃ x, L[d]? = some x := ⟨_, List.getElem?_eq_getElem (by rw [HM.out]; exact hdM)⟩
          obtain ⟨q0, q1⟩ := tc_at (K := KI) _ d x hx
          obtain ⟨gl, rfl, hglc⟩ : ∃ gl, va = some ⟨gl, 0, none⟩ ∧ M ≤ vc := by
            rcases own_shape o with ⟨_, q⟩ | ⟨gl, cap', q, r, _⟩
            · omega
            · cases q; exact ⟨gl, rfl, r⟩
          have z0 : wr.cell? ⟨gl, d * 2, none⟩ = some (.int .i64 x.1) := (o.cellAt _ (by omega)).trans q0
          have z1 : wr.cell? ⟨gl, d * 2 + 1, none⟩ = some (.int .i64 x.2) := (o.cellAt _ (by omega)).trans q1
          have hgl := World.block_lt_of_cell? wr _ z0
          have hlg : lab gl = 3 := hv gl rfl
          have hxr : L.reverse[j]? = some x := by
            rw [List.getElem?_reverse (by rw [HM.out]; exact hj), HM.out, show M - 1 - j = d by omega]; exact hx
          have HE : Hid (setAll [] (L.reverse.take (j + 1)) = setS OI (setAll [] (L.reverse.take j)) x.1 x.2) := by
            show _ = _
            rw [take_snoc hxr, setAll_snoc]
          have hsl : (setAll [] (L.reverse.take j)).length < 4398046511104 := by
            have := setAll_len [] (L.reverse.take j)
            simp at this; omega
          have HT : Hid (Calls Try.prog 9 #[.pointer (some ⟨b, 0, none⟩), .int .i64 x.1, .int .i64 x.2] wr.drew fun y w' => y = .returned (.tuple #[]) ∧ TwR 2 w wr.drew w' lab a b S (setS OI (setAll [] (L.reverse.take j)) x.1 x.2)) := (T.drew 1).setB x.1 x.2 (HLin.out x (List.mem_of_getElem? hx)).k hsl
          have HO : Hid (wr.ownsRow wy.heap.size 28 2 (.slice (some ⟨gl, 0, none⟩) M vc) M (L.flatMap (tc KI))) := o
          have a1 : (d : Int) < M := by omega
          have a2 : (0 : Int) ≤ d := by omega
          have HZ : Hid ((d : Int) = (M : Int) - 1 - j) := hz
          clear hx T hsl q0 q1 hxr o hv hz
          go_wp2_with fail
          go_region_held3 (fun w' => w'.cell? ⟨gl, d * 2, none⟩ = some (.int .i64 x.1) ∧ w'.cell? ⟨gl, d * 2 + 1, none⟩ = some (.int .i64 x.2))
            (first | exact ⟨z0, z1⟩ | exact ⟨y0, y1⟩)
            (first
              | (go_at_call 9; refine HT.out.mono ?_; rintro e' wT ⟨rfl, rT⟩; have y0 : wT.cell? ⟨gl, d * 2, none⟩ = some (.int .i64 x.1) := (by { obtain ⟨l', T', _, tT⟩ := rT; exact cell_turn (w := wr.drew) z0 tT (by show ¬ lab gl = 2; omega) }); have y1 : wT.cell? ⟨gl, d * 2 + 1, none⟩ = some (.int .i64 x.2) := (by { obtain ⟨l', T', _, tT⟩ := rT; exact cell_turn (w := wr.drew) z1 tT (by show ¬ lab gl = 2; omega) })))
          obtain ⟨l', T', hl', tT⟩ := rT
          rw [← HE.out] at T'
          have o' := own_turns (w := wr.drew) HO.out tT (fun c hc => by cases hc; show ¬ lab gl = 2; omega)
          have hv' : ∀ c, (Value.slice (some ⟨gl, 0, none⟩) M vc).ownBlock = some c → l' c = 3 := fun c hc => by
            cases hc
            rw [hl' gl hgl]; exact hlg
          go_wp2_with fail
          go_roundw
          case rel => exact ⟨j + 1, _, l', by omega, rfl, by have := HZ.out; omega, T', o', hv'⟩
          case measure => simp [intOf]
        · obtain rfl : j = M := by omega
          have hz2 : z = -1 := by omega
          subst hz2
          have HRev : Hid (L.reverse.take j = L.reverse) := List.take_of_length_le (by rw [List.length_reverse, HM.out]; exact Nat.le_refl _)
          rw [HRev.out, HS1.out] at T
          have hbk := HS2.out
          clear o hv HRev hz
          go_wp2_with fail
          go_loopw [15] (fun u wr => ∃ (z : Int) (R : List (Int × Int)) (lab : Nat → Nat), u = .int .i64 z ∧ (z = R.length ∨ (z = -1 ∧ R = [])) ∧ R.length ≤ 300 ∧ Hid (∀ x ∈ R, PIn x) ∧ Tw w wr lab a b R R) (fun u _ => (intOf u + 1).toNat)
          case atStart => exact ⟨_, S, lab, rfl, Or.inl (by rw [hbk]), by omega, HSin, T⟩
          case round =>
          clear T hbk
          obtain ⟨z, R, lab, rfl, hz, hR3, HR, T⟩ := hrel
          rcases hz with rfl | ⟨rfl, rfl⟩
          · cases R with
            | nil =>
              go_wp2_with (first
                | (go_at_call_of 13 (Value.pointer (some ⟨a, 0, none⟩)); refine (nextN_I T.A).mono ?_; rintro e' wn ⟨rfl, hwn⟩; subst wn)
                | (go_at_call_of 13 (Value.pointer (some ⟨b, 0, none⟩)); refine (nextN_I T.B).mono ?_; rintro e' wn ⟨rfl, hwn⟩; subst wn)
                | (go_at_call_of 14 (Value.pointer (some ⟨a, 0, none⟩)); refine (lenA_I T.A).mono ?_; rintro e' wn ⟨rfl, hwn⟩; subst wn)
                | (go_at_call_of 14 (Value.pointer (some ⟨b, 0, none⟩)); refine (lenA_I T.B).mono ?_; rintro e' wn ⟨rfl, hwn⟩; subst wn)
                | (go_at_call_of 11 (Value.pointer (some ⟨a, 0, none⟩)); refine (T.cancelA 0 (by decide)).mono ?_; rintro e' w4 ⟨rfl, l4, T4, _⟩)
                | (go_at_call_of 11 (Value.pointer (some ⟨b, 0, none⟩)); refine (T4.cancelB 0 (by decide)).mono ?_; rintro e' w5 ⟨rfl, l5, T5, _⟩))
              go_roundw
              case rel => exact ⟨-1, [], l5, by first | rfl | go_num, Or.inr ⟨rfl, rfl⟩, by decide, HR, T5⟩
              case measure => simp [intOf]
            | cons x R =>
              have hx := (HR.out x List.mem_cons_self).k
              have hkeys := T.A.srt.2.1
              have HC : Hid (cutS (x :: R) x.1 = R) := cutS_head hkeys
              have HR2 : Hid (∀ y ∈ R, PIn y) := fun y hy => HR.out y (List.mem_cons_of_mem _ hy)
              have a1 : (0 : Int) < (R.length : Int) + 1 := by omega
              have a2 : (R.length : Int) + 1 ≤ 300 := by simp at hR3; omega
              clear hkeys
              go_wp2_with (first
                | (go_at_call_of 13 (Value.pointer (some ⟨a, 0, none⟩)); refine (nextC_I T.A).mono ?_; rintro e' w1' ⟨rfl, d1⟩; have T1 := T.below d1 3)
                | (go_at_call_of 13 (Value.pointer (some ⟨b, 0, none⟩)); refine (nextC_I T1.B).mono ?_; rintro e' w2' ⟨rfl, d2⟩; have T2 := T1.below d2 3)
                | (go_at_call_of 14 (Value.pointer (some ⟨a, 0, none⟩)); refine (lenA_I T2.A).mono ?_; rintro e' wn ⟨rfl, hwn⟩; subst wn)
                | (go_at_call_of 14 (Value.pointer (some ⟨b, 0, none⟩)); refine (lenA_I T2.B).mono ?_; rintro e' wn ⟨rfl, hwn⟩; subst wn)
                | (go_at_call_of 11 (Value.pointer (some ⟨a, 0, none⟩)); refine (T2.cancelA x.1 hx).mono ?_; rintro e' w4 ⟨rfl, l4, T4, _⟩)
                | (go_at_call_of 11 (Value.pointer (some ⟨b, 0, none⟩)); refine (T4.cancelB x.1 hx).mono ?_; rintro e' w5 ⟨rfl, l5, T5, _⟩))
              rw [HC.out] at T5
              go_roundw
              case rel => exact ⟨_, R, l5, rfl, Or.inl (by first | rfl | go_num | omega), by simp at hR3; omega, HR2, T5⟩
              case measure => simp [intOf]; omega
          · go_wp2_with fail
            go_ret
            exact ⟨rfl, T.bk.b⟩
end Go.Proofs.Ytbopghpfghaoeaa
