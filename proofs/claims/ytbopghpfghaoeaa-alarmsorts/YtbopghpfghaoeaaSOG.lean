/- AlarmSorts, walked: the list longer than 300. -/
import Derived.Test.YtbopghpfghaoeaaSO1
namespace Go.Proofs.Ytbopghpfghaoeaa
open Go.RowKit Go.Maps
set_option maxRecDepth 100000
attribute [local go_sem ↓] Go.wp_at_zero Go.wp_at_succ
set_option maxHeartbeats 16000000 in
theorem sorts_G (ao : Option Addr) (n c : Nat) (es : List (Int × Int)) (now : Int) (w : World) (hn : n ≤ 140737488355328) (h : PLies w ao n es) (hA : 300 < n) :
    Calls Try.prog 4 #[.slice ao n c, .int .i64 now] w fun e w' => e = .returned (.bool true) ∧ Below w.heap.size w w' := by
  have HP : Hid (PLies w ao n es) := h
  have b0 : (n : Int) ≤ 140737488355328 := by omega
  clear h
  go_enter Try.func4, Try.ntmps4
  go_wp2_with fail
  refine (head_any w).mono ?_
  rintro e w1 ⟨rfl, b1⟩
  have B1 := (Bk.refl w).below b1 5
  generalize rl (fun _ => 0) w 5 = l1 at B1
  clear b1
  go_wp2_with fail
  refine (new_I w1 l1 1).mono ?_
  rintro e w2 ⟨a, rfl, q2, b2⟩
  have B2 := B1.below b2 1
  generalize rl l1 w1 1 = l2 at q2 B2
  clear B1 b2
  go_wp2_with fail
  refine (new_I w2 l2 2).mono ?_
  rintro e w3 ⟨b, rfl, q3, b3⟩
  have T3 : Tw w w3 (rl l2 w2 2) a b (setAll [] (es.take 0)) (setAll [] (es.take 0)) := ⟨B2.below b3 2, q2.below b3 2, q3⟩
  generalize rl l2 w2 2 = l3 at T3
  clear B2 b3 q2 q3
  go_wp2_with fail
  go_loopw [8] (fun u wr => ∃ (i : Nat) (lab : Nat → Nat), i ≤ n ∧ i ≤ 300 ∧ u = .int .i64 i ∧ Tw w wr lab a b (setAll [] (es.take i)) (setAll [] (es.take i))) (fun u _ => 301 - (intOf u).toNat)
  case atStart => exact ⟨0, _, Nat.zero_le _, Nat.zero_le _, rfl, T3⟩
  case round =>
  clear T3
  obtain ⟨i, lab, hin, hi3, rfl, T⟩ := hrel
  by_cases hlt3 : i < 300
  · have hlt : i < n := by omega
    have a1 : (i : Int) < n := by omega
    have a2 : (i : Int) < 300 := by omega
    have a3 : (0 : Int) ≤ i := by omega
    obtain ⟨g, p, e, rfl, he, hpin, x0, x1⟩ := HP.out.at i hlt
    have hgl := World.block_lt_of_cell? w _ x0
    have y0 := (T.bk.b.cell (p := ⟨g, p + i * 2, none⟩) hgl).trans x0
    have y1 := (T.bk.b.cell (p := ⟨g, p + i * 2 + 1, none⟩) hgl).trans x1
    have HE : Hid (setAll [] (es.take (i + 1)) = setS OI (setAll [] (es.take i)) e.1 e.2) := by
      show _ = _
      rw [take_snoc he, setAll_snoc]
    have hsl : (setAll [] (es.take i)).length < 4398046511104 := by
      have := setAll_len [] (es.take i)
      simp at this; omega
    have HT : Hid (Calls Try.prog 9 #[.pointer (some ⟨a, 0, none⟩), .int .i64 e.1, .int .i64 e.2] wr.drew fun x w' => x = .returned (.tuple #[]) ∧ TwR 1 w wr.drew w' lab a b (setS OI (setAll [] (es.take i)) e.1 e.2) (setAll [] (es.take i))) := (T.drew 1).setA e.1 e.2 hpin.k hsl
    clear he T
    go_wp2_with fail
    go_region_held3 (fun w' => w'.cell? ⟨g, p + i * 2, none⟩ = some (.int .i64 e.1) ∧ w'.cell? ⟨g, p + i * 2 + 1, none⟩ = some (.int .i64 e.2))
      (first | exact ⟨y0, y1⟩ | exact ⟨z0, z1⟩)
      (first
        | (go_at_call 9; refine HT.out.mono ?_; rintro e' wT ⟨rfl, rT⟩; have z0 : wT.cell? ⟨g, p + i * 2, none⟩ = some (.int .i64 e.1) := (by { obtain ⟨l', T', _⟩ := rT; exact (T'.bk.b.cell (p := ⟨g, p + i * 2, none⟩) hgl).trans x0 }); have z1 : wT.cell? ⟨g, p + i * 2 + 1, none⟩ = some (.int .i64 e.2) := (by { obtain ⟨l', T', _⟩ := rT; exact (T'.bk.b.cell (p := ⟨g, p + i * 2 + 1, none⟩) hgl).trans x1 })))
    obtain ⟨l', T', _⟩ := rT
    have HU : Hid (Calls Try.prog 9 #[.pointer (some ⟨b, 0, none⟩), .int .i64 e.1, .int .i64 e.2] wT.drew fun x w' => x = .returned (.tuple #[]) ∧ TwR 2 w wT.drew w' l' a b (setS OI (setAll [] (es.take i)) e.1 e.2) (setS OI (setAll [] (es.take i)) e.1 e.2)) := (T'.drew 1).setB e.1 e.2 hpin.k hsl
    clear HT T' y0 y1 hsl
    go_wp2_with fail
    go_region_held3 (fun w' => w'.cell? ⟨g, p + i * 2, none⟩ = some (.int .i64 e.1) ∧ w'.cell? ⟨g, p + i * 2 + 1, none⟩ = some (.int .i64 e.2))
      (first | exact ⟨z0, z1⟩ | exact ⟨s0, s1⟩)
      (first
        | (go_at_call 9; refine HU.out.mono ?_; rintro e' wS ⟨rfl, rS⟩; have s0 : wS.cell? ⟨g, p + i * 2, none⟩ = some (.int .i64 e.1) := (by { obtain ⟨l', T', _⟩ := rS; exact (T'.bk.b.cell (p := ⟨g, p + i * 2, none⟩) hgl).trans x0 }); have s1 : wS.cell? ⟨g, p + i * 2 + 1, none⟩ = some (.int .i64 e.2) := (by { obtain ⟨l', T', _⟩ := rS; exact (T'.bk.b.cell (p := ⟨g, p + i * 2 + 1, none⟩) hgl).trans x1 })))
    obtain ⟨l5, T5, _⟩ := rS
    rw [← HE.out] at T5
    go_wp2_with fail
    go_roundw
    case rel => exact ⟨i + 1, l5, by omega, by omega, by go_num, T5⟩
    case measure => simp [intOf]; omega
  · have a1 : (i : Int) < n := by omega
    have a2 : ¬ (i : Int) < 300 := by omega
    have HI : Hid (es.take i = es.take 300) := by
      show _ = _
      have hlen := HP.out.hlen
      first
        | (rw [List.take_of_length_le (by omega), List.take_of_length_le (by omega)]; done)
        | (rw [show i = 300 by omega])
    rw [HI.out] at T
    clear HI
    obtain ⟨wz, hwz⟩ : ∃ wz, wz = wr := ⟨wr, rfl⟩
    subst hwz
    go_wp2_with fail
    have L0 : PLies wz ao n es := HP.out.below T.bk.b (Nat.le_refl _)
    refine (last_any L0 hn).mono ?_
    rintro e w6 ⟨wv, rfl, o6, b6⟩
    have T6 := T.below b6 3
    have hv6 : ∀ c, wv.ownBlock = some c → rl lab wz 3 c = 3 := fun c hc => rl_new (o6.lt c hc).1
    replace o6 := own_zeroI o6
    have hmem := mem_last (es.take 300)
    have hlen := setAll_last_len (es.take 300)
    have hks := lastL_len (es.take 300)
    have hin : ∀ x ∈ setAll [] (es.take 300), PIn x := fun x hx => by
      obtain ⟨j, hj⟩ := List.mem_iff_getElem?.1 (List.mem_of_mem_take (mem_of_set hx))
      exact (HP.out.hcells j x hj).1
    have hsrt := setAll_srt (S := []) List.Pairwise.nil (es.take 300)
    have HSS : Hid (∃ S, setAll [] (es.take 300) = S) := ⟨_, rfl⟩
    obtain ⟨S, hS⟩ := HSS.out
    rw [hS] at T6 hmem hlen hin hsrt
    have HS : Hid (setAll [] (es.take 300) = S) := hS
    generalize lastL (es.take 300) = L at o6 hmem hlen hks
    replace hks : L.length ≤ 300 := by simp at hks; omega
    obtain ⟨M, hM⟩ : ∃ M, L.length = M := ⟨_, rfl⟩
    obtain ⟨wa, wc, hwv⟩ := own_slice o6
    subst hwv
    rw [hM] at o6 hks hlen hv6 ⊢
    have HM : Hid (L.length = M ∧ S.length = M) := ⟨hM, hlen⟩
    have HIN : Hid ((∀ x, x ∈ L ↔ x ∈ S) ∧ (∀ x ∈ S, PIn x) ∧ Srt OI S ∧ (S.map Prod.fst).Nodup) := ⟨hmem, hin, hsrt, T6.A.srt.2.1⟩
    generalize rl lab wz 3 = l6 at T6 hv6
    have c0 : (M : Int) ≤ 300 := by omega
    have hSM : S.length = M := hlen
    clear T L0 b6 hM hS hmem hin hsrt HSS hlen
    go_wp2_with (go_at_call 14; refine (lenA_I T6.A).mono ?_; rintro e' wn ⟨rfl, hwn⟩; subst wn; rw [hSM])
    refine (T6.dueB now).mono ?_
    rintro e w7 ⟨ev, rfl, l7, o7, hv7, T7, hl7, t7⟩
    have hw7 : ∀ c, (Value.slice wa M wc).ownBlock = some c → l7 c = 3 := fun c hc => (hl7 c (own_lt o6 hc)).trans (hv6 c hc)
    replace o6 := own_turns o6 t7 (fun c hc => by have := hv6 c hc; show ¬ l6 c = 2; omega)
    replace hv7 : ∀ c, ev.ownBlock = some c → l7 c = 3 := fun c hc => (hv7 c hc).2
    clear T6 hv6 hl7 t7
    have hmx := due_max (S := leftS S now) (fun x hx => (HIN.out.2.1 x ((List.dropWhile_sublist _).subset hx)).a.2)
    have HDU : Hid (∀ (i : Nat) m, S[i]? = some m → (i < (dueS S now).length ∧ m.2 ≤ now ∧ (dueS S now)[i]? = some m) ∨ (¬ i < (dueS S now).length ∧ now < m.2 ∧ (leftS S now)[i - (dueS S now).length]? = some m)) := fun i m hm => due_at HIN.out.2.2.1 now hm
    have hsum := due_len S now
    obtain ⟨N1, hN1⟩ : ∃ N1, (dueS S now).length = N1 := ⟨_, rfl⟩
    obtain ⟨N2, hN2⟩ : ∃ N2, (leftS S now).length = N2 := ⟨_, rfl⟩
    rw [hN1, hN2, hSM] at hsum
    have HN : Hid ((dueS S now).length = N1 ∧ (leftS S now).length = N2) := ⟨hN1, hN2⟩
    obtain ⟨ea, ec, hev⟩ := own_slice o7
    rw [hN1] at hev
    subst hev
    go_wp2_with fail
    have hd8 := T7.dueB 9223372036854775807
    rw [hmx.1, hmx.2] at hd8
    refine hd8.mono ?_
    rintro e w8 ⟨lv, rfl, l8, o8, hv8, T8, hl8, t8⟩
    have hw8 : ∀ c, (Value.slice wa M wc).ownBlock = some c → l8 c = 3 := fun c hc => (hl8 c (own_lt o6 hc)).trans (hw7 c hc)
    have he8 : ∀ c, (Value.slice ea N1 ec).ownBlock = some c → l8 c = 3 := fun c hc => (hl8 c (own_lt o7 hc)).trans (hv7 c hc)
    replace o6 := own_turns o6 t8 (fun c hc => by have := hw7 c hc; show ¬ l7 c = 2; omega)
    replace o7 := own_turns o7 t8 (fun c hc => by have := hv7 c hc; show ¬ l7 c = 2; omega)
    replace hv8 : ∀ c, lv.ownBlock = some c → l8 c = 3 := fun c hc => (hv8 c hc).2
    obtain ⟨la, lc, hlv⟩ := own_slice o8
    rw [hN2] at hlv
    subst hlv
    obtain ⟨w9, hw9⟩ : ∃ V, w8.alloc (.cells #[.int .i64 0, .int .i64 0] 28) = V := ⟨_, rfl⟩
    have b9 : Below w8.heap.size w8 w9 := by rw [← hw9]; exact (Below.refl _ w8).alloc (Nat.le_refl _) _
    have T9 : SoR w w9 a b S (.slice wa M wc) (.slice ea N1 ec) (.slice la N2 lc) L (dueS S now) (leftS S now) w8.heap.size 0 0 := by
      have t9 := Below.turns b9 (fun _ => False)
      refine ⟨rl l8 w8 4, T8.below b9 4, ?_, fun c e => (rl_old (own_lt o6 e)).trans (hw8 c e), own_turns o7 t9 (fun _ _ q => q), fun c e => (rl_old (own_lt o7 e)).trans (he8 c e), own_turns o8 t9 (fun _ _ q => q), fun c e => (rl_old (own_lt o8 e)).trans (hv8 c e), by rw [← hw9]; exact heap_alloc_new _ _, rl_new (Nat.le_refl _)⟩
      rw [HM.out.1]
      exact own_turns o6 t9 (fun _ _ q => q)
    have c1 : (N1 : Int) + N2 = M := by omega
    have hTB := T8.B
    clear T7 t8 hl8 hw7 hv7 hd8 hmx hw8 he8 hv8 o6 o7 o8 b9 T8
    go_wp2_with (go_at_call 14; refine (lenA_I hTB).mono ?_; rintro e' wn ⟨rfl, hwn⟩; subst wn)
    clear hTB
    go_loopw [13] (fun u wr => ∃ (i : Nat) (x y : Int), i ≤ M ∧ u = .int .i64 i ∧ (∀ j, i = j + 1 → S[j]? = some (x, y)) ∧ SoR w wr a b (S.drop i) (.slice wa M wc) (.slice ea N1 ec) (.slice la N2 lc) L (dueS S now) (leftS S now) w8.heap.size x y) (fun u _ => M + 1 - (intOf u).toNat)
    case atStart => exact ⟨0, 0, 0, Nat.zero_le _, rfl, fun j q => by omega, T9⟩
    case round =>
    clear T9
    obtain ⟨i, px, py, hiM, rfl, hprev, T⟩ := hrel
    by_cases hi : i < M
    · obtain ⟨m, hm⟩ : ∃ m, S[i]? = some m := ⟨_, List.getElem?_eq_getElem (by rw [HM.out.2]; exact hi)⟩
      have hdr : S.drop i = m :: S.drop (i + 1) := by
        obtain ⟨hl, rfl⟩ := List.getElem?_eq_some_iff.1 hm
        exact List.drop_eq_getElem_cons hl
      have hnd : ((S.drop i).map Prod.fst).Nodup := by
        have h2 := HIN.out.2.2.2
        exact List.Pairwise.sublist ((List.drop_sublist i S).map Prod.fst) h2
      rw [hdr] at T hnd
      obtain ⟨k1, k2, k3, k4⟩ := at_head hnd
      have k1' : (atS (m :: S.drop (i + 1)) m.1).isSome = true := by rw [k1]; rfl
      have k3' : (atS (S.drop (i + 1)) m.1).isSome = false := by rw [k3]; rfl
      have hmS := List.mem_of_getElem? hm
      have hpin := HIN.out.2.1 m hmS
      have HML : Hid (m ∈ L) := (HIN.out.1 m).2 hmS
      have hcase := HDU.out i m hm
      rw [HN.out.1] at hcase
      have hcmp : i = 0 ∨ (∃ j, i = j + 1 ∧ (py < m.2 ∨ (py = m.2 ∧ px < m.1))) := by
        cases i with
        | zero => exact Or.inl rfl
        | succ j => exact Or.inr ⟨j, rfl, srt_before HIN.out.2.2.1 (hprev j rfl) hm⟩
      obtain ⟨gw, rfl, hwc⟩ := T.wantS HM.out.1 (by omega)
      have a1 : (i : Int) < M := by omega
      have a2 : (0 : Int) ≤ i := by omega
      obtain ⟨K, A⟩ := m
      have HPRV : Hid (S[i]? = some (K, A)) := hm
      have HCASE : Hid ((i < N1 ∧ A ≤ now ∧ (dueS S now)[i]? = some (K, A)) ∨ (¬ i < N1 ∧ now < A ∧ (leftS S now)[i - N1]? = some (K, A))) := hcase
      have HCMP : Hid (i = 0 ∨ (∃ j, i = j + 1 ∧ (py < A ∨ (py = A ∧ px < K)))) := hcmp
      clear hprev hm hnd hdr hmS k1 k3 hcase hcmp
      obtain ⟨W, hWW⟩ : ∃ W, W = wr := ⟨wr, rfl⟩
      subst hWW
      have hat : atS ((K, A) :: S.drop (i + 1)) K = some A := by simp [atS]
      go_wp2_with fail
      refine T.next.mono ?_
      rintro e W1 ⟨rfl, T1⟩
      clear T
      go_wp2_with fail
      refine (T1.at K hpin.k hat).mono ?_
      rintro e wn ⟨rfl, hwn⟩
      subst wn
      go_wp2_with fail
      refine (T1.cancel K hpin.k k1' k2).mono ?_
      rintro e W2 ⟨rfl, T2⟩
      clear T1
      go_wp2_with fail
      refine (T2.cancel K hpin.k k3' k4).mono ?_
      rintro e W3 ⟨rfl, T3⟩
      clear T2
      go_wp2_with fail
      go_loopw [21, 22] (fun f u wr => ∃ j : Nat, j ≤ M ∧ u = .int .i64 j ∧ f = .bool (decide ((K, A) ∈ L.take j)) ∧ SoR w wr a b (S.drop (i + 1)) (.slice (some ⟨gw, 0, none⟩) M wc) (.slice ea N1 ec) (.slice la N2 lc) L (dueS S now) (leftS S now) w8.heap.size px py) (fun _ u _ => M + 1 - (intOf u).toNat)
      case atStart => exact ⟨0, Nat.zero_le _, rfl, by simp, T3⟩
      case round =>
      clear T3
      obtain ⟨j, hjM, rfl, rfl, T⟩ := hrel
      by_cases hj : j < M
      · obtain ⟨z, hz⟩ : ∃ z, L[j]? = some z := ⟨_, List.getElem?_eq_getElem (by rw [HM.out.1]; exact hj)⟩
        obtain ⟨z0, z1⟩ := T.wantC HM.out.1 hz
        have HST : Hid (decide ((K, A) ∈ L.take (j + 1)) = (decide ((K, A) ∈ L.take j) || decide (z = (K, A)))) := mem_take_succ hz
        obtain ⟨zk, za⟩ := z
        have e1 : (j : Int) < M := by omega
        have e2 : (0 : Int) ≤ j := by omega
        clear hz
        by_cases hf : (K, A) ∈ L.take j
        · have hd : decide ((K, A) ∈ L.take j) = true := decide_eq_true hf
          have hd2 : decide ((K, A) ∈ L.take (j + 1)) = true := by rw [HST.out, hd, Bool.true_or]
          rw [hd]
          go_wp2_with fail
          go_roundw
          case rel => exact ⟨j + 1, by omega, by go_num, by rw [hd2], T⟩
          case measure => simp [intOf]; omega
        · have hd : decide ((K, A) ∈ L.take j) = false := decide_eq_false hf
          rw [hd]
          by_cases hk : zk = K
          · have hkk : (zk == K) = true := by simpa using hk
            by_cases hA2 : za = A
            · have haa : (za == A) = true := by simpa using hA2
              have hd2 : decide ((K, A) ∈ L.take (j + 1)) = true := by rw [HST.out, hd, Bool.false_or]; simp [hk, hA2]
              go_wp2_with fail
              go_roundw
              case rel => exact ⟨j + 1, by omega, by go_num, by rw [hd2], T⟩
              case measure => simp [intOf]; omega
            · have haa : (za == A) = false := by simpa using hA2
              have hd2 : decide ((K, A) ∈ L.take (j + 1)) = false := by rw [HST.out, hd, Bool.false_or]; simp [hA2]
              go_wp2_with fail
              go_roundw
              case rel => exact ⟨j + 1, by omega, by go_num, by rw [hd2], T⟩
              case measure => simp [intOf]; omega
          · have hkk : (zk == K) = false := by simpa using hk
            have hd2 : decide ((K, A) ∈ L.take (j + 1)) = false := by rw [HST.out, hd, Bool.false_or]; simp [hk]
            go_wp2_with fail
            go_roundw
            case rel => exact ⟨j + 1, by omega, by go_num, by rw [hd2], T⟩
            case measure => simp [intOf]; omega
      · have e1 : ¬ (j : Int) < M := by omega
        have hd : decide ((K, A) ∈ L.take j) = true := by
          rw [List.take_of_length_le (by rw [HM.out.1]; omega)]
          exact decide_eq_true HML.out
        rw [hd]
        obtain ⟨x0, x1, xf⟩ := T.cells
        have xf0 := xf 0
        have xf1 := xf 1
        obtain ⟨X, hXX⟩ : ∃ X, X = wr := ⟨wr, rfl⟩
        subst hXX
        obtain ⟨V, hV⟩ : ∃ V, (X.setCell ⟨w8.heap.size, 0, none⟩ (.int .i64 K)).setCell ⟨w8.heap.size, 1, none⟩ (.int .i64 A) = V := ⟨_, rfl⟩
        have T9 := T.box K A
        rw [hV] at T9
        have HREL : Hid (∀ j, i + 1 = j + 1 → S[j]? = some (K, A)) := fun j q => by
          obtain rfl : j = i := by omega
          exact HPRV.out
        clear T xf
        rcases HCMP.out with h0 | ⟨j', h0, h1 | ⟨h1, h2⟩⟩
        · have f0 : ¬ (i : Int) > 0 := by omega
          clear h0
          rcases HCASE.out with ⟨d1, d2, d3⟩ | ⟨d1, d2, d3⟩
          · obtain ⟨ge, rfl, hec, y0⟩ := T9.earC HN.out.1 d3
            have d4 : (i : Int) < N1 := by omega
            have d5 : ¬ (i : Int) ≥ N1 := by omega
            clear d3
            go_wp2_with fail
            go_roundw
            case rel => exact ⟨i + 1, K, A, by omega, by go_num, HREL.out, T9⟩
            case measure => simp [intOf]; omega
          · obtain ⟨ge, rfl, hec, y0⟩ := T9.latC HN.out.2 d3
            have hlt2 := (List.getElem?_eq_some_iff.1 d3).1
            rw [HN.out.2] at hlt2
            obtain ⟨q, hq⟩ : ∃ q, i - N1 = q := ⟨_, rfl⟩
            rw [hq] at y0 hlt2
            have d4 : ¬ (i : Int) < N1 := by omega
            have d5 : (i : Int) ≥ N1 := by omega
            have d6 : ¬ A ≤ now := by omega
            have d7 : (i : Int) - N1 = q := by omega
            have d8 : (q : Int) < N2 := by omega
            have d9 : (0 : Int) ≤ q := by omega
            clear d3 hq
            go_wp2_with fail
            go_roundw
            case rel => exact ⟨i + 1, K, A, by omega, by go_num, HREL.out, T9⟩
            case measure => simp [intOf]; omega
        · have f0 : (i : Int) > 0 := by omega
          have f1 : ¬ A < py := by omega
          have f2 : (A == py) = false := by simp; omega
          clear h0 h1
          rcases HCASE.out with ⟨d1, d2, d3⟩ | ⟨d1, d2, d3⟩
          · obtain ⟨ge, rfl, hec, y0⟩ := T9.earC HN.out.1 d3
            have d4 : (i : Int) < N1 := by omega
            have d5 : ¬ (i : Int) ≥ N1 := by omega
            clear d3
            go_wp2_with fail
            go_roundw
            case rel => exact ⟨i + 1, K, A, by omega, by go_num, HREL.out, T9⟩
            case measure => simp [intOf]; omega
          · obtain ⟨ge, rfl, hec, y0⟩ := T9.latC HN.out.2 d3
            have hlt2 := (List.getElem?_eq_some_iff.1 d3).1
            rw [HN.out.2] at hlt2
            obtain ⟨q, hq⟩ : ∃ q, i - N1 = q := ⟨_, rfl⟩
            rw [hq] at y0 hlt2
            have d4 : ¬ (i : Int) < N1 := by omega
            have d5 : (i : Int) ≥ N1 := by omega
            have d6 : ¬ A ≤ now := by omega
            have d7 : (i : Int) - N1 = q := by omega
            have d8 : (q : Int) < N2 := by omega
            have d9 : (0 : Int) ≤ q := by omega
            clear d3 hq
            go_wp2_with fail
            go_roundw
            case rel => exact ⟨i + 1, K, A, by omega, by go_num, HREL.out, T9⟩
            case measure => simp [intOf]; omega
        · have f0 : (i : Int) > 0 := by omega
          have f1 : ¬ A < py := by omega
          have f2 : (A == py) = true := by simp; omega
          have f3 : ¬ K ≤ px := by omega
          clear h0 h1 h2
          rcases HCASE.out with ⟨d1, d2, d3⟩ | ⟨d1, d2, d3⟩
          · obtain ⟨ge, rfl, hec, y0⟩ := T9.earC HN.out.1 d3
            have d4 : (i : Int) < N1 := by omega
            have d5 : ¬ (i : Int) ≥ N1 := by omega
            clear d3
            go_wp2_with fail
            go_roundw
            case rel => exact ⟨i + 1, K, A, by omega, by go_num, HREL.out, T9⟩
            case measure => simp [intOf]; omega
          · obtain ⟨ge, rfl, hec, y0⟩ := T9.latC HN.out.2 d3
            have hlt2 := (List.getElem?_eq_some_iff.1 d3).1
            rw [HN.out.2] at hlt2
            obtain ⟨q, hq⟩ : ∃ q, i - N1 = q := ⟨_, rfl⟩
            rw [hq] at y0 hlt2
            have d4 : ¬ (i : Int) < N1 := by omega
            have d5 : (i : Int) ≥ N1 := by omega
            have d6 : ¬ A ≤ now := by omega
            have d7 : (i : Int) - N1 = q := by omega
            have d8 : (q : Int) < N2 := by omega
            have d9 : (0 : Int) ≤ q := by omega
            clear d3 hq
            go_wp2_with fail
            go_roundw
            case rel => exact ⟨i + 1, K, A, by omega, by go_num, HREL.out, T9⟩
            case measure => simp [intOf]; omega
    · have a1 : ¬ (i : Int) < M := by omega
      have hdn : S.drop i = [] := List.drop_eq_nil_of_le (by rw [HM.out.2]; omega)
      rw [hdn] at T
      have hLi : Li wr ea N1 ec ((dueS (setAll [] (es.take 300)) now).map Prod.fst) := by rw [HS.out]; exact T.earL HN.out.1
      have HTW : Hid (Calls Try.prog 16 #[.slice ao n c, .int .i64 now, .slice ea N1 ec] wr fun e w' => e = .returned (.bool true) ∧ Below wr.heap.size wr w') := twins_any ao n c es now ea N1 ec wr hn (HP.out.below T.bel (Nat.le_refl _)) hLi
      have hB := T.bel
      clear hLi hdn
      go_wp2_with (first
        | (go_at_call 13; refine T.nextN.mono ?_; rintro e' wn ⟨rfl, hwn⟩; subst wn)
        | (go_at_call 14; refine T.len.mono ?_; rintro e' wn ⟨rfl, hwn⟩; subst wn)
        | (go_at_call 16; refine HTW.out.mono ?_; rintro e' w10 ⟨rfl, b10⟩; have hB10 := hB.trans (b10.mono hB.size))
        | (go_at_call 17; refine (small_any ao n c es now w10 hn (HP.out.below hB10 (Nat.le_refl _))).mono ?_; rintro e' w11 ⟨rfl, b11⟩))
      go_ret
      exact ⟨rfl, hB10.trans (b11.mono hB10.size)⟩
end Go.Proofs.Ytbopghpfghaoeaa
