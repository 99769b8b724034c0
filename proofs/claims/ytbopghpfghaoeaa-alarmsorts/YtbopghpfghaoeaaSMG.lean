/- small of AlarmSorts, walked: the list longer than 300. -/
import Derived.Test.YtbopghpfghaoeaaSM0
namespace Go.Proofs.Ytbopghpfghaoeaa
open Go.RowKit Go.Maps
set_option maxRecDepth 100000
attribute [local go_sem ↓] Go.wp_at_zero Go.wp_at_succ
set_option maxHeartbeats 8000000 in
theorem small_G (ao : Option Addr) (n c : Nat) (es : List (Int × Int)) (now : Int) (w : World) (hn : n ≤ 140737488355328) (h : PLies w ao n es) (hA : 300 < n) :
    Calls Try.prog 17 #[.slice ao n c, .int .i64 now] w fun e w' => e = .returned (.bool true) ∧ Below w.heap.size w w' := by
  have HP : Hid (PLies w ao n es) := h
  have b0 : (n : Int) ≤ 140737488355328 := by omega
  clear h
  go_enter Try.func17, Try.ntmps17
  go_wp2_with fail
  refine (new_U w (fun _ => 0) 1).mono ?_
  rintro e w2 ⟨a, rfl, q2, b2⟩
  have B2 := (Bk.refl w).below b2 1
  generalize rl (fun _ => 0) w 1 = l2 at q2 B2
  clear b2
  go_wp2_with fail
  refine (new_I w2 l2 2).mono ?_
  rintro e w3 ⟨b, rfl, q3, b3⟩
  have T3 : TuR w w3 a b [] [] := ⟨_, B2.below b3 2, q2.below b3 2, q3⟩
  clear B2 b3 q2 q3
  go_wp2_with fail
  go_loopw [7] (fun u wr => ∃ (i : Nat) (S : List (Int × Int)), i ≤ n ∧ i ≤ 300 ∧ S.length ≤ i ∧ u = .int .i64 i ∧ TuR w wr a b S S) (fun u _ => 301 - (intOf u).toNat)
  case atStart => exact ⟨0, [], Nat.zero_le _, Nat.zero_le _, Nat.zero_le _, rfl, T3⟩
  case round =>
  clear T3
  obtain ⟨i, S, hin, hi3, hSi, rfl, T⟩ := hrel
  by_cases hlt3 : i < 300
  · have hlt : i < n := by omega
    have a1 : (i : Int) < n := by omega
    have a2 : (i : Int) < 300 := by omega
    have a3 : (0 : Int) ≤ i := by omega
    obtain ⟨g, p, e, rfl, he, hpin, x0, x1⟩ := HP.out.at i hlt
    have hgl := World.block_lt_of_cell? w _ x0
    have y0 := (T.bel.cell (p := ⟨g, p + i * 2, none⟩) hgl).trans x0
    have y1 := (T.bel.cell (p := ⟨g, p + i * 2 + 1, none⟩) hgl).trans x1
    have hsl : S.length < 4398046511104 := by omega
    have hu := wrap8 e.1
    obtain ⟨u, hue⟩ : ∃ u, IntKind.u8.wrap e.1 = u := ⟨_, rfl⟩
    rw [hue] at hu
    have hu2 := wrap_u8_i64 hu
    have HT : Hid (Calls Try.prog 44 #[.pointer (some ⟨a, 0, none⟩), .int .u8 u, .int .i64 e.2] wr.drew fun x w' => x = .returned (.tuple #[]) ∧ TuR w w' a b (setS OI S u e.2) S) := (T.drew 1).setA u e.2 hu hsl
    clear he T
    go_wp2_with fail
    go_region_held3 (fun w' => w'.cell? ⟨g, p + i * 2, none⟩ = some (.int .i64 e.1) ∧ w'.cell? ⟨g, p + i * 2 + 1, none⟩ = some (.int .i64 e.2))
      (first | exact ⟨y0, y1⟩ | exact ⟨z0, z1⟩)
      (first
        | (go_at_call 44; refine HT.out.mono ?_; rintro e' wT ⟨rfl, rT⟩; have z0 : wT.cell? ⟨g, p + i * 2, none⟩ = some (.int .i64 e.1) := (rT.bel.cell (p := ⟨g, p + i * 2, none⟩) hgl).trans x0; have z1 : wT.cell? ⟨g, p + i * 2 + 1, none⟩ = some (.int .i64 e.2) := (rT.bel.cell (p := ⟨g, p + i * 2 + 1, none⟩) hgl).trans x1))
    have HB : Hid (Calls Try.prog 9 #[.pointer (some ⟨b, 0, none⟩), .int .i64 u, .int .i64 e.2] wT.drew fun x w' => x = .returned (.tuple #[]) ∧ TuR w w' a b (setS OI S u e.2) (setS OI S u e.2)) := (rT.drew 1).setB u e.2 hu hsl
    clear HT y0 y1
    go_wp2_with fail
    go_region_held3 (fun w' => w'.cell? ⟨g, p + i * 2, none⟩ = some (.int .i64 e.1) ∧ w'.cell? ⟨g, p + i * 2 + 1, none⟩ = some (.int .i64 e.2))
      (first | exact ⟨z0, z1⟩ | exact ⟨s0, s1⟩)
      (first
        | (go_at_call 9; refine HB.out.mono ?_; rintro e' wS ⟨rfl, rS⟩; have s0 : wS.cell? ⟨g, p + i * 2, none⟩ = some (.int .i64 e.1) := (rS.bel.cell (p := ⟨g, p + i * 2, none⟩) hgl).trans x0; have s1 : wS.cell? ⟨g, p + i * 2 + 1, none⟩ = some (.int .i64 e.2) := (rS.bel.cell (p := ⟨g, p + i * 2 + 1, none⟩) hgl).trans x1))
    go_wp2_with fail
    go_roundw
    case rel => exact ⟨i + 1, setS OI S u e.2, by omega, by omega, by have := setS_len (O := OI) S u e.2; omega, by go_num, rS⟩
    case measure => simp [intOf]; omega
  · have a1 : (i : Int) < n := by omega
    have a2 : ¬ (i : Int) < 300 := by omega
    obtain ⟨wz, hwz⟩ : ∃ wz, wz = wr := ⟨wr, rfl⟩
    subst hwz
    have hS3 : S.length ≤ 300 := by omega
    clear hin hi3 hSi
    obtain ⟨ho, _⟩ := T.oks
    have hK := hdS_ok ho
    have hSl : (S.length : Int) ≤ 300 := by omega
    have hdl : (dueS S now).length ≤ S.length := by have := due_len S now; omega
    go_wp2_with fail
    refine T.nextA.mono ?_
    rintro e W1 ⟨rfl, T1⟩
    clear T
    generalize hhd : hdS S = hd at hK
    obtain ⟨K, t, f⟩ := hd
    have hK : 0 ≤ K ∧ K ≤ 255 := hK
    have hK2 := wrap_u8_i64 hK
    go_wp2_with fail
    refine T1.nextB.mono ?_
    rintro e W2 ⟨rfl, T2⟩
    rw [hhd]
    clear T1
    go_wp2_with fail
    refine (T2.dueA now).mono ?_
    rintro e W3 ⟨v3, rfl, T3⟩
    clear T2
    go_wp2_with fail
    refine T3.dueB.mono ?_
    rintro e W4 ⟨v4, rfl, T4⟩
    obtain ⟨d1, d2, c1, c2, rfl, rfl, L4, T5⟩ := T4.lu ho
    clear T3 T4
    generalize leftS S now = R at T5
    generalize dueS S now = D at L4 hdl
    generalize D.length = N at L4 hdl
    have hN3 : (N : Int) ≤ 300 := by omega
    go_wp2_with (first
      | (go_at_call 47; refine T5.lenA.mono ?_; rintro e' wn ⟨rfl, hwn⟩; subst wn)
      | (go_at_call 14; refine T5.lenB.mono ?_; rintro e' wn ⟨rfl, hwn⟩; subst wn))
    clear T5
    go_loopw [16] (fun u wr => ∃ (j : Nat), j ≤ N ∧ u = .int .i64 j ∧ Lu w wr d1 d2 N c1 c2 D) (fun u _ => N + 1 - (intOf u).toNat)
    case atStart => exact ⟨0, Nat.zero_le _, rfl, L4⟩
    case round =>
      clear L4
      obtain ⟨j, hjN, rfl, L⟩ := hrel
      by_cases hj : j < N
      · obtain ⟨g1, g2, x, rfl, rfl, r1, r2, hx, z1, z2⟩ := L.at hj
        have hx2 := wrap_u8_i64 hx
        have c1' : (j : Int) < N := by omega
        have c2' : (0 : Int) ≤ j := by omega
        have L2 := L.drew
        clear L
        go_wp2_with fail
        go_region
        go_wp2_with fail
        go_roundw
        case rel => exact ⟨j + 1, by omega, by go_num, L2⟩
        case measure => simp [intOf]; omega
      · have c1' : ¬ (j : Int) < N := by omega
        go_wp2_with fail
        go_ret
        exact ⟨rfl, L.b⟩
end Go.Proofs.Ytbopghpfghaoeaa
