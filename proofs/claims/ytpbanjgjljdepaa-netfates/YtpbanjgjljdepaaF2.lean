/- NetFull, walked. -/
import Derived.Test.YtpbanjgjljdepaaF1
namespace Go.Proofs.Ytpbanjgjljdepaa
open Go.RowKit Go.Maps
set_option maxRecDepth 100000

/-- A number brought to 0 to m - 1. -/
theorem mod_nat (x : Int) (m : Nat) (hm : 0 < m) : ∃ q : Nat, q < m ∧ ((x.tmod m) + m).tmod m = q := by
  have h1 := Int.tmod_lt_of_pos (a := x) (b := m) (by omega)
  have h2 := Int.lt_tmod_of_pos x (b := m) (by omega)
  have h3 : 0 ≤ x.tmod m + m := by omega
  rw [Int.tmod_eq_emod_of_nonneg h3]
  have h4 := Int.emod_nonneg (x.tmod m + m) (b := m) (by omega)
  have h5 := Int.emod_lt_of_pos (x.tmod m + m) (b := m) (by omega)
  exact ⟨((x.tmod m + m) % m).toNat, by omega, by omega⟩
theorem mod_wrap (x : Int) (m : Nat) (hm : 0 < m) (hm2 : m ≤ 1000) : ∃ q : Nat, q < m ∧ (wrap64 ((x.tmod m) + m)).tmod m = q := by
  have h1 := Int.tmod_lt_of_pos (a := x) (b := m) (by omega)
  have h2 := Int.lt_tmod_of_pos x (b := m) (by omega)
  have e : wrap64 ((x.tmod m) + m) = (x.tmod m) + m := by unfold wrap64; omega
  rw [e]; exact mod_nat x m hm
/-- The numbers from 1 on. -/
def upN (t : Nat) (n : Int) : Prop := 1 ≤ n ∧ n ≤ t
/-- Those that are not dropped. -/
def dpN (t : Nat) (n : Int) : Prop := 1 ≤ n ∧ n ≤ 4096 ∧ ∀ s : Nat, s < t → n ≠ 1 + 3 * s
set_option maxHeartbeats 4000000 in
theorem netFull_big (ao : Option Addr) (n c : Nat) (d : List Int) (more go1 : Int) (w : World) (hL : ∀ w', Below w.heap.size w w' → Lies w' ao 64 c d) (h64 : 64 < n) (hle : n ≤ c) (hn : n ≤ 140737488355328) :
    Calls Try.prog 3 #[.slice ao n c, .int .i64 more, .int .i64 go1] w fun e w' => e = .returned (.bool true) ∧ Below w.heap.size w w' := by
  obtain ⟨qm, hqm, hqe⟩ := mod_wrap more 20 (by decide) (by decide)
  obtain ⟨qg, hqg, hge⟩ := mod_wrap go1 50 (by decide) (by decide)
  have HM : Hid ((wrap64 (more.tmod 20 + 20)).tmod 20 = (qm : Int)) := hqe
  have HG : Hid ((wrap64 (go1.tmod 50 + 50)).tmod 50 = (qg : Int)) := hge
  clear hqe hge
  go_enter Try.func3, Try.ntmps3
  go_wp2_with fail
  refine (known_any w).mono ?_
  rintro e w1 ⟨rfl, b1⟩
  have W1 := (Wk.refl w).below b1 9
  go_wp2_with fail
  refine (Fu.new W1).mono ?_
  rintro e w2 ⟨xb, rfl, F2⟩
  have a64 : (64 : Int) < n := by omega
  go_wp2_with fail
  clear b1 W1
  go_loopw [9] (fun i wr => ∃ t : Nat, t ≤ 4096 ∧ i = .int .i64 ((t : Int) + 1) ∧ Fu w wr xb t t (upN t)) (fun i _ => (4097 - intOf i).toNat)
  case atStart => exact ⟨0, Nat.zero_le _, rfl, F2.weak (fun n q => by unfold upN at q; omega)⟩
  case round =>
    obtain ⟨t, ht, rfl, F3⟩ := hrel
    by_cases hlt : t < 4096
    · have a1 : (t : Int) + 1 ≤ 4096 := by omega
      have hS := F3.send hlt (by omega) 0 (hL _ F3.at) (by omega) (Q := upN (t + 1)) (fun n q => by unfold upN at q ⊢; omega)
      have hbb : ((t : Int) + 1 != (t : Int) + 1) = false := by simp
      clear F3 F2
      go_wp2_with fail
      refine hS.mono ?_
      rintro e w3 ⟨rfl, F3⟩
      clear hS
      go_wp2_with fail
      go_roundw
      case rel => exact ⟨t + 1, by omega, by go_num, by have e : ((t + 1 : Nat) : Int) = t + 1 := by omega
                                                        rw [e]; exact F3⟩
      case measure => simp [intOf]; omega
    · obtain rfl : t = 4096 := by omega
      clear F2
      go_wp2_with fail
      rw [HM.out, show (((4096 : Nat) : Int) + 1) = 4097 from rfl]
      have F4 : Fu w wr xb 4096 4096 (upN 4096) := F3
      clear F3
      go_loopw [11] (fun i wr => ∃ t : Nat, t ≤ qm + 1 ∧ i = .int .i64 t ∧ Fu w wr xb 4096 4096 (upN 4096)) (fun i _ => (qm + 1 - (intOf i).toNat : Nat))
      case atStart => exact ⟨0, Nat.zero_le _, rfl, F4⟩
      case round =>
        obtain ⟨t, ht, rfl, F5⟩ := hrel
        by_cases hlt : t ≤ qm
        · have a1 : (t : Int) ≤ qm := by omega
          have hS := F5.sendF (Nat.le_refl _) (by decide) 0 (hL _ F5.at) (by omega)
          clear F5 F4
          go_wp2_with fail
          refine hS.mono ?_
          rintro e w3 ⟨rfl, F5⟩
          have hC := F5.copyF (no := 1 + (t : Int)) (Nat.le_refl _) (by decide) ⟨by omega, by omega⟩ ⟨by omega, by omega⟩
          clear hS F5
          go_wp2_with fail
          refine hC.mono ?_
          rintro e w4 ⟨rfl, F5⟩
          clear hC
          go_wp2_with (go_at_call 13; refine (num_any _ _).mono ?_; rintro e wn ⟨rfl, hwn⟩; subst wn)
          go_roundw
          case rel => first | exact ⟨t + 1, by omega, by go_num, F5⟩ | (repeat apply Exists.intro; refine And.intro ?_ rfl; exact ⟨t + 1, by omega, by go_num, F5⟩)
          case measure => simp [intOf]; omega
        · have a1 : ¬ (t : Int) ≤ qm := by omega
          clear F4
          go_wp2_with fail
          rw [HG.out, show wrap64 (1 + (qg : Int)) = (qg : Int) + 1 by unfold wrap64; omega]
          have F6 : Fu w wr xb 4096 (4096 - 0) (dpN 0) := F5.weak (fun n q => ⟨q.1, q.2.1⟩)
          clear F5
          go_loopw [16] (fun i wr => ∃ t : Nat, t ≤ qg + 1 ∧ i = .int .i64 t ∧ Fu w wr xb 4096 (4096 - t) (dpN t)) (fun i _ => (qg + 1 - (intOf i).toNat : Nat))
          case atStart => exact ⟨0, Nat.zero_le _, rfl, F6⟩
          case round =>
            obtain ⟨t, ht, rfl, F7⟩ := hrel
            by_cases hlt : t < qg + 1
            · have a1 : (t : Int) < (qg : Int) + 1 := by omega
              have F8 : Fu w wr xb 4096 ((4095 - t) + 1) (dpN t) := by rw [show (4095 - t) + 1 = 4096 - t by omega]; exact F7
              have hD := F8.drop (no := 1 + 3 * (t : Int)) ⟨by omega, by omega⟩ ⟨by omega, by omega, fun s hs => by omega⟩ (Q := dpN (t + 1)) (fun n q => ⟨⟨q.1, q.2.1, fun s hs => q.2.2 s (by omega)⟩, q.2.2 t (by omega)⟩)
              clear F8 F7 F6
              go_wp2_with fail
              refine hD.mono ?_
              rintro e w4 ⟨rfl, F7⟩
              clear hD
              go_wp2_with (go_at_call 13; refine (num_any _ _).mono ?_; rintro e wn ⟨rfl, hwn⟩; subst wn)
              go_roundw
              case rel => first | exact ⟨t + 1, by omega, by go_num, (by rw [show 4096 - (t + 1) = 4095 - t by omega]; exact F7)⟩ | (repeat apply Exists.intro; refine And.intro ?_ rfl; exact ⟨t + 1, by omega, by go_num, (by rw [show 4096 - (t + 1) = 4095 - t by omega]; exact F7)⟩)
              case measure => simp [intOf]; omega
            · obtain rfl : t = qg + 1 := by omega
              have a1 : ¬ ((qg + 1 : Nat) : Int) < (qg : Int) + 1 := by omega
              have F8 : Fu w wr xb (4096 + (0 : Nat)) (4096 - (qg + 1) + 0) (fun n => n = 2) := F7.weak (fun n q => by subst q; exact ⟨by decide, by decide, fun s _ => by omega⟩)
              clear F7 F6
              go_wp2_with fail
              go_loopw [18] (fun i wr => ∃ t : Nat, t ≤ qg + 1 ∧ i = .int .i64 ((t : Int) + 1) ∧ Fu w wr xb (4096 + t) (4096 - (qg + 1) + t) (fun n => n = 2)) (fun i _ => (qg + 2 - (intOf i).toNat : Nat))
              case atStart => exact ⟨0, Nat.zero_le _, rfl, F8⟩
              case round =>
                obtain ⟨t, ht, rfl, F9⟩ := hrel
                by_cases hlt : t < qg + 1
                · have a1 : (t : Int) + 1 ≤ (qg : Int) + 1 := by omega
                  have hC := F9.copy (no := 2) (by omega) (by omega) ⟨by decide, by decide⟩ rfl
                  have hbb : (4096 + (t : Int) + 1 != 4096 + ((t : Int) + 1)) = false := by simp; omega
                  clear F9 F8
                  go_wp2_with fail
                  refine hC.mono ?_
                  rintro e w4 ⟨rfl, F9⟩
                  clear hC
                  go_wp2_with (go_at_call 13; refine (num_any _ _).mono ?_; rintro e wn ⟨rfl, hwn⟩; subst wn)
                  go_roundw
                  case rel => first | exact ⟨t + 1, by omega, by go_num, (by have e : (4096 : Int) + ((t + 1 : Nat) : Int) = 4096 + t + 1 := (by omega); rw [e]; exact F9)⟩ | (repeat apply Exists.intro; refine And.intro ?_ rfl; exact ⟨t + 1, by omega, by go_num, (by have e : (4096 : Int) + ((t + 1 : Nat) : Int) = 4096 + t + 1 := (by omega); rw [e]; exact F9)⟩)
                  case measure => simp [intOf]; omega
                · obtain rfl : t = qg + 1 := by omega
                  have a1 : ¬ ((qg + 1 : Nat) : Int) + 1 ≤ (qg : Int) + 1 := by omega
                  have hS := F9.sendF (by omega) (by omega) 0 (Lies.nil wr) (by decide)
                  clear F9 F8
                  go_wp2_with fail
                  refine hS.mono ?_
                  rintro e w5 ⟨rfl, F9⟩
                  rw [show 4096 - (qg + 1) + (qg + 1) = 4096 by omega] at F9
                  have hU := F9.under
                  clear hS F9
                  go_wp2_with fail
                  refine hU.mono ?_
                  rintro e w6 ⟨a, c6, rfl, b6⟩
                  clear hU
                  go_wp2_with fail
                  go_ret
                  exact ⟨by simp, b6⟩
set_option maxHeartbeats 4000000 in
theorem netFull_small (ao : Option Addr) (n c : Nat) (d : List Int) (more go1 : Int) (w : World) (hL : ∀ w', Below w.heap.size w w' → Lies w' ao n c d) (h64 : n ≤ 64) (_hle : n ≤ c) (hn : n ≤ 140737488355328) :
    Calls Try.prog 3 #[.slice ao n c, .int .i64 more, .int .i64 go1] w fun e w' => e = .returned (.bool true) ∧ Below w.heap.size w w' := by
  obtain ⟨qm, hqm, hqe⟩ := mod_wrap more 20 (by decide) (by decide)
  obtain ⟨qg, hqg, hge⟩ := mod_wrap go1 50 (by decide) (by decide)
  have HM : Hid ((wrap64 (more.tmod 20 + 20)).tmod 20 = (qm : Int)) := hqe
  have HG : Hid ((wrap64 (go1.tmod 50 + 50)).tmod 50 = (qg : Int)) := hge
  clear hqe hge
  go_enter Try.func3, Try.ntmps3
  go_wp2_with fail
  refine (known_any w).mono ?_
  rintro e w1 ⟨rfl, b1⟩
  have W1 := (Wk.refl w).below b1 9
  go_wp2_with fail
  refine (Fu.new W1).mono ?_
  rintro e w2 ⟨xb, rfl, F2⟩
  have a64 : ¬ (64 : Int) < n := by omega
  go_wp2_with fail
  clear b1 W1
  go_loopw [9] (fun i wr => ∃ t : Nat, t ≤ 4096 ∧ i = .int .i64 ((t : Int) + 1) ∧ Fu w wr xb t t (upN t)) (fun i _ => (4097 - intOf i).toNat)
  case atStart => exact ⟨0, Nat.zero_le _, rfl, F2.weak (fun n q => by unfold upN at q; omega)⟩
  case round =>
    obtain ⟨t, ht, rfl, F3⟩ := hrel
    by_cases hlt : t < 4096
    · have a1 : (t : Int) + 1 ≤ 4096 := by omega
      have hS := F3.send hlt (by omega) 0 (hL _ F3.at) (by omega) (Q := upN (t + 1)) (fun n q => by unfold upN at q ⊢; omega)
      have hbb : ((t : Int) + 1 != (t : Int) + 1) = false := by simp
      clear F3 F2
      go_wp2_with fail
      refine hS.mono ?_
      rintro e w3 ⟨rfl, F3⟩
      clear hS
      go_wp2_with fail
      go_roundw
      case rel => exact ⟨t + 1, by omega, by go_num, by have e : ((t + 1 : Nat) : Int) = t + 1 := by omega
                                                        rw [e]; exact F3⟩
      case measure => simp [intOf]; omega
    · obtain rfl : t = 4096 := by omega
      clear F2
      go_wp2_with fail
      rw [HM.out, show (((4096 : Nat) : Int) + 1) = 4097 from rfl]
      have F4 : Fu w wr xb 4096 4096 (upN 4096) := F3
      clear F3
      go_loopw [11] (fun i wr => ∃ t : Nat, t ≤ qm + 1 ∧ i = .int .i64 t ∧ Fu w wr xb 4096 4096 (upN 4096)) (fun i _ => (qm + 1 - (intOf i).toNat : Nat))
      case atStart => exact ⟨0, Nat.zero_le _, rfl, F4⟩
      case round =>
        obtain ⟨t, ht, rfl, F5⟩ := hrel
        by_cases hlt : t ≤ qm
        · have a1 : (t : Int) ≤ qm := by omega
          have hS := F5.sendF (Nat.le_refl _) (by decide) 0 (hL _ F5.at) (by omega)
          clear F5 F4
          go_wp2_with fail
          refine hS.mono ?_
          rintro e w3 ⟨rfl, F5⟩
          have hC := F5.copyF (no := 1 + (t : Int)) (Nat.le_refl _) (by decide) ⟨by omega, by omega⟩ ⟨by omega, by omega⟩
          clear hS F5
          go_wp2_with fail
          refine hC.mono ?_
          rintro e w4 ⟨rfl, F5⟩
          clear hC
          go_wp2_with (go_at_call 13; refine (num_any _ _).mono ?_; rintro e wn ⟨rfl, hwn⟩; subst wn)
          go_roundw
          case rel => first | exact ⟨t + 1, by omega, by go_num, F5⟩ | (repeat apply Exists.intro; refine And.intro ?_ rfl; exact ⟨t + 1, by omega, by go_num, F5⟩)
          case measure => simp [intOf]; omega
        · have a1 : ¬ (t : Int) ≤ qm := by omega
          clear F4
          go_wp2_with fail
          rw [HG.out, show wrap64 (1 + (qg : Int)) = (qg : Int) + 1 by unfold wrap64; omega]
          have F6 : Fu w wr xb 4096 (4096 - 0) (dpN 0) := F5.weak (fun n q => ⟨q.1, q.2.1⟩)
          clear F5
          go_loopw [16] (fun i wr => ∃ t : Nat, t ≤ qg + 1 ∧ i = .int .i64 t ∧ Fu w wr xb 4096 (4096 - t) (dpN t)) (fun i _ => (qg + 1 - (intOf i).toNat : Nat))
          case atStart => exact ⟨0, Nat.zero_le _, rfl, F6⟩
          case round =>
            obtain ⟨t, ht, rfl, F7⟩ := hrel
            by_cases hlt : t < qg + 1
            · have a1 : (t : Int) < (qg : Int) + 1 := by omega
              have F8 : Fu w wr xb 4096 ((4095 - t) + 1) (dpN t) := by rw [show (4095 - t) + 1 = 4096 - t by omega]; exact F7
              have hD := F8.drop (no := 1 + 3 * (t : Int)) ⟨by omega, by omega⟩ ⟨by omega, by omega, fun s hs => by omega⟩ (Q := dpN (t + 1)) (fun n q => ⟨⟨q.1, q.2.1, fun s hs => q.2.2 s (by omega)⟩, q.2.2 t (by omega)⟩)
              clear F8 F7 F6
              go_wp2_with fail
              refine hD.mono ?_
              rintro e w4 ⟨rfl, F7⟩
              clear hD
              go_wp2_with (go_at_call 13; refine (num_any _ _).mono ?_; rintro e wn ⟨rfl, hwn⟩; subst wn)
              go_roundw
              case rel => first | exact ⟨t + 1, by omega, by go_num, (by rw [show 4096 - (t + 1) = 4095 - t by omega]; exact F7)⟩ | (repeat apply Exists.intro; refine And.intro ?_ rfl; exact ⟨t + 1, by omega, by go_num, (by rw [show 4096 - (t + 1) = 4095 - t by omega]; exact F7)⟩)
              case measure => simp [intOf]; omega
            · obtain rfl : t = qg + 1 := by omega
              have a1 : ¬ ((qg + 1 : Nat) : Int) < (qg : Int) + 1 := by omega
              have F8 : Fu w wr xb (4096 + (0 : Nat)) (4096 - (qg + 1) + 0) (fun n => n = 2) := F7.weak (fun n q => by subst q; exact ⟨by decide, by decide, fun s _ => by omega⟩)
              clear F7 F6
              go_wp2_with fail
              go_loopw [18] (fun i wr => ∃ t : Nat, t ≤ qg + 1 ∧ i = .int .i64 ((t : Int) + 1) ∧ Fu w wr xb (4096 + t) (4096 - (qg + 1) + t) (fun n => n = 2)) (fun i _ => (qg + 2 - (intOf i).toNat : Nat))
              case atStart => exact ⟨0, Nat.zero_le _, rfl, F8⟩
              case round =>
                obtain ⟨t, ht, rfl, F9⟩ := hrel
                by_cases hlt : t < qg + 1
                · have a1 : (t : Int) + 1 ≤ (qg : Int) + 1 := by omega
                  have hC := F9.copy (no := 2) (by omega) (by omega) ⟨by decide, by decide⟩ rfl
                  have hbb : (4096 + (t : Int) + 1 != 4096 + ((t : Int) + 1)) = false := by simp; omega
                  clear F9 F8
                  go_wp2_with fail
                  refine hC.mono ?_
                  rintro e w4 ⟨rfl, F9⟩
                  clear hC
                  go_wp2_with (go_at_call 13; refine (num_any _ _).mono ?_; rintro e wn ⟨rfl, hwn⟩; subst wn)
                  go_roundw
                  case rel => first | exact ⟨t + 1, by omega, by go_num, (by have e : (4096 : Int) + ((t + 1 : Nat) : Int) = 4096 + t + 1 := (by omega); rw [e]; exact F9)⟩ | (repeat apply Exists.intro; refine And.intro ?_ rfl; exact ⟨t + 1, by omega, by go_num, (by have e : (4096 : Int) + ((t + 1 : Nat) : Int) = 4096 + t + 1 := (by omega); rw [e]; exact F9)⟩)
                  case measure => simp [intOf]; omega
                · obtain rfl : t = qg + 1 := by omega
                  have a1 : ¬ ((qg + 1 : Nat) : Int) + 1 ≤ (qg : Int) + 1 := by omega
                  have hS := F9.sendF (by omega) (by omega) 0 (Lies.nil wr) (by decide)
                  clear F9 F8
                  go_wp2_with fail
                  refine hS.mono ?_
                  rintro e w5 ⟨rfl, F9⟩
                  rw [show 4096 - (qg + 1) + (qg + 1) = 4096 by omega] at F9
                  have hU := F9.under
                  clear hS F9
                  go_wp2_with fail
                  refine hU.mono ?_
                  rintro e w6 ⟨a, c6, rfl, b6⟩
                  clear hU
                  go_wp2_with fail
                  go_ret
                  exact ⟨by simp, b6⟩
theorem netFull_any (ao : Option Addr) (n c : Nat) (d : List Int) (more go1 : Int) (w : World) (hL : Lies w ao n c d) (hn : n ≤ 140737488355328) :
    Calls Try.prog 3 #[.slice ao n c, .int .i64 more, .int .i64 go1] w fun e w' => e = .returned (.bool true) ∧ Below w.heap.size w w' := by
  rcases Nat.lt_or_ge 64 n with h | h
  · exact netFull_big ao n c (d.take 64) more go1 w (fun w' b => (hL.cut (by omega)).below b (Nat.le_refl _)) h hL.hle hn
  · exact netFull_small ao n c d more go1 w (fun w' b => hL.below b (Nat.le_refl _)) h hL.hle hn
end Go.Proofs.Ytpbanjgjljdepaa
