/- BitsOneForm: the walk. -/
import Derived.Test.YtjpaooejkbkliaaDoorOneMid
namespace Go.Proofs.YtjpaooejkbkliaaDoor
open Go.RowKit
set_option maxRecDepth 100000

set_option maxHeartbeats 4000000 in
theorem oneForm_any (ao : Option Addr) (n cap : Nat) (bs : List Int) (kb ko kn kc : Nat) (ks : List Int) (er : Nat → Addr) (w : World) (hE : Errs w er) (hn : n ≤ 140737488351232) (hL : Lies w ao n cap bs) (hby : ∀ x ∈ bs, 0 ≤ x ∧ x ≤ 255)
    (hkn : kn ≤ 140737488351232) (hkc : ∀ t, t < kn → w.cell? ⟨kb, ko + t, none⟩ = some (.int .i64 (ks.getD t 0))) :
    Calls Tryd.prog 4 #[.slice ao n cap, .slice (some ⟨kb, ko, none⟩) kn kc] w fun e w' => e = .returned (.bool true) ∧ Below w.heap.size w w' := by
  have hkni : (kn : Int) ≤ 140737488351232 := by omega
  go_enter Tryd.func4, Tryd.ntmps4
  go_wp2_with fail
  refine (head_any er w hE).mono ?_
  rintro e w1 ⟨rfl, hb1⟩
  go_wp2_with fail
  refine (newReader_any ao n cap bs _ (by omega) (hL.below hb1 (Nat.le_refl _))).mono ?_
  rintro e w2 ⟨rb, g, rfl, hR2, hrb, hg, hb12⟩
  have hb2 := hb1.trans (hb12.mono hb1.size)
  have hwrb : w.heap.size ≤ rb := Nat.le_trans hb1.size hrb
  clear hb12 hb1 hrb hg
  go_wp2_with fail
  go_loopw [7, 8] (fun v i wr => ∃ (k pl : Nat) (code : Int) (c : Nat) (av : Option Addr), k ≤ kn ∧ k ≤ 300 ∧ i = .int .i64 k ∧ v = .slice av pl c ∧ pl ≤ n ∧ Rdr wr rb g n n pl code bs ∧ wr.ownsRow w.heap.size 5 1 (.slice av pl c) pl ((bs.take pl).map (Value.int .u8)) ∧ Below w.heap.size w wr) (fun _ i _ => 300 - (intOf i).toNat)
  case atStart => exact ⟨0, 0, 0, 0, none, Nat.zero_le _, by omega, rfl, rfl, Nat.zero_le _, hR2, World.ownsRow_nil _ _ _ _, hb2⟩
  case round =>
    obtain ⟨k, pl, code, c, av, hk, hk3, rfl, rfl, hp, hR, hown, hb⟩ := hrel
    clear hR2 hb2
    by_cases hlt : k < kn ∧ k < 300
    · obtain ⟨hlt, hlt3⟩ := hlt
      have hki : decide ((k : Int) < (kn : Int)) = true := by simpa using hlt
      have hki3 : decide ((k : Int) < 300) = true := by simp; omega
      have hck := cell_later hb (hkc k hlt)
      have hkbl : kb < wr.heap.size := World.block_lt_of_cell? _ _ hck
      clear hkc
      generalize ks.getD k 0 = K at *
      have hlen := hL.hlen
      have hgx : g ≠ wr.heap.size := Nat.ne_of_lt hR.glt
      have hwx : w.heap.size ≤ wr.heap.size := hb.size
      have hrx : rb ≠ wr.heap.size := Nat.ne_of_lt hR.lt
      go_wp2_with fail
      · -- U32
        obtain ⟨X, p', c', e1⟩ : ∃ X p' c', rdNum 4 n bs pl code 9223372036854775807 = (X, p', c') := ⟨_, _, _, rfl⟩
        have hC := u32_any rb g n n pl code 9223372036854775807 bs er _ (hR.alloc (.cells #[.int .i64 K, .int .i64 0, .int .u64 0, .slice none 0 0] 32)) ((hE.below hb (Nat.le_refl _)).alloc _) hp (by omega) hby (by omega)
        rw [e1] at hC
        refine hC.mono ?_
        rintro e w3 ⟨rfl, hR3, hg3⟩
        obtain ⟨hx3, ho3, hb3⟩ := after_face hR hown hb hg3 hwrb
        have cx := cx_at hx3 1 _ rfl
        have fx := fx_at hx3 1
        have hM := mid_num 4 K X (.inl ⟨by simpa using (by assumption : (K == 1) = true), rfl⟩) p' c' e1 hlen hby hp hR3 hx3 ho3 hb3 hwx hgx
        clear hC e1 hR3 hx3 ho3 hb3 hg3
        go_wp2_with fail
        generalize w3.setCell ⟨wr.heap.size, 1, none⟩ (.int .i64 X) = W at hM ⊢
        clear cx fx
        refine (err_any rb g n n p' c' bs _ hM.rd).mono ?_
        rintro e w6 ⟨rfl, m6, hw6⟩
        subst w6
        have hM6 := hM.drewN m6
        clear hM
        generalize W.drewN m6 = W6 at hM6 ⊢
        have x0 := cx_at hM6.blk 0 _ rfl
        have x1 := cx_at hM6.blk 1 _ rfl
        have x2 := cx_at hM6.blk 2 _ rfl
        have x3 := cx_at hM6.blk 3 _ rfl
        rcases hM6.out with ⟨hc0, hpp, hX, hS, hdl⟩ | ⟨hc0, hle, hfit, hpe, hput⟩
        · subst hpp
          have hE6 := hE.below hM6.below (Nat.le_refl _)
          have hU := u64_any rb g n n p' c' 9223372036854775807 bs er W6 hM6.rd hE6 hp (by omega) hby (by omega)
          rw [held_num _ _ _ _ _ _ hc0] at hU
          go_wp2_with (first
            | (go_at_call 21; refine (num_id _ _).mono ?_; rintro e w8 ⟨rfl, hw8⟩; subst w8))
          refine hU.mono ?_
          rintro e w7 ⟨rfl, hR7, hg7⟩
          have hb7 := hM6.below.grown hg7 hM6.below.size (fun k hk => by cases hk; exact hwrb)
          have ho7 := hM6.own.kept hg7 (.inr (own_ne hM6.own hM6.rd))
          have hT := text17_any rb g n n p' c' 9223372036854775807 bs er w7 hR7 (hE.below hb7 (Nat.le_refl _)) hp (by omega) hby (by omega)
          rw [held_text _ _ _ _ _ hc0, txt_nil] at hT
          clear hU x0 x1 x2 x3 hE6 hg7 hM6 hX hS hdl
          go_wp2_with fail
          refine hT.mono ?_
          rintro e w8 ⟨rfl, hR8, hg8⟩
          have hb8 := hb7.grown hg8 hb7.size (fun k hk => by cases hk; exact hwrb)
          have ho8 := ho7.kept hg8 (.inr (own_ne ho7 hR7))
          clear hT hg8 hb7 ho7 hR7
          go_wp2_with fail
          refine (err_any rb g n n p' c' bs _ hR8).mono ?_
          rintro e w9 ⟨rfl, m9, hw9⟩
          subst w9
          have hC := close_any rb g n n p' c' bs _ (hR8.drewN m9)
          rw [held_close _ _ _ hc0] at hC
          go_wp2_with fail
          refine hC.mono ?_
          rintro e w10 ⟨rfl, hR10, hg10⟩
          have hb10 := (below_drewN hb8 m9).grown hg10 (below_drewN hb8 m9).size (fun k hk => by cases hk; exact hwrb)
          have ho10 := (World.ownsRow.kept (w := w8.drewN m9) ho8 hg10 (.inr (own_ne ho8 hR8)))
          clear hC hg10 hb8 ho8 hR8
          go_wp2
          go_roundw
          case rel => exact ⟨k + 1, p', c', c, av, by omega, by omega, by go_num, rfl, hp, hR10, ho10, hb10⟩
          case measure => simp [intOf]; omega
        · subst hc0
          have hP := hM6.put hn hfit hpe hput
          have hpd : decide ((n : Int) < (p' : Int)) = false := by simp; omega
          have hpc : p' ≤ cap := by have := hL.hle; omega
          clear hput hpe
          go_wp2_with (first
            | (go_at_call 21; refine (num_id _ _).mono ?_; rintro e w8 ⟨rfl, hw8⟩; subst w8))
          refine hP.mono ?_
          rintro e w7 ⟨a7, c7, rfl, hown7, hb7⟩
          have hb07 := hM6.below.trans (hb7.mono hM6.below.size)
          have hL7 := (hL.below hb07 (Nat.le_refl _)).upto p' hle
          have hR7 := hM6.rd.below hb7
          have ho7 := ownsRow_mono hown7 hM6.below.size
          clear hP x0 x1 x2 x3 hM6 hb7
          go_wp2_with fail
          refine (same_true a7 ao p' c7 cap (bs.take p') _ (by omega) (Lies.owned hown7) hL7).mono ?_
          rintro e w8 ⟨rfl, hb8⟩
          have hb08 := hb07.trans (hb8.mono hb07.size)
          have hR8 := hR7.below hb8
          have ho8 := own_below ho7 hb8
          clear hb8 hb07 hR7 ho7 hown7 hL7
          go_wp2
          go_roundw
          case rel => exact ⟨k + 1, p', 0, c7, a7, by omega, by omega, by go_num, rfl, hle, hR8, ho8, hb08⟩
          case measure => simp [intOf]; omega
      · -- U64
        obtain ⟨X, p', c', e1⟩ : ∃ X p' c', rdNum 8 n bs pl code 9223372036854775807 = (X, p', c') := ⟨_, _, _, rfl⟩
        have hC := u64_any rb g n n pl code 9223372036854775807 bs er _ (hR.alloc (.cells #[.int .i64 K, .int .i64 0, .int .u64 0, .slice none 0 0] 32)) ((hE.below hb (Nat.le_refl _)).alloc _) hp (by omega) hby (by omega)
        rw [e1] at hC
        refine hC.mono ?_
        rintro e w3 ⟨rfl, hR3, hg3⟩
        obtain ⟨hx3, ho3, hb3⟩ := after_face hR hown hb hg3 hwrb
        have cx := cx_at hx3 1 _ rfl
        have fx := fx_at hx3 1
        have hM := mid_num 8 K X (.inr ⟨by simpa using (by assumption : (K == 2) = true), rfl⟩) p' c' e1 hlen hby hp hR3 hx3 ho3 hb3 hwx hgx
        clear hC e1 hR3 hx3 ho3 hb3 hg3
        go_wp2_with fail
        generalize w3.setCell ⟨wr.heap.size, 1, none⟩ (.int .i64 X) = W at hM ⊢
        clear cx fx
        refine (err_any rb g n n p' c' bs _ hM.rd).mono ?_
        rintro e w6 ⟨rfl, m6, hw6⟩
        subst w6
        have hM6 := hM.drewN m6
        clear hM
        generalize W.drewN m6 = W6 at hM6 ⊢
        have x0 := cx_at hM6.blk 0 _ rfl
        have x1 := cx_at hM6.blk 1 _ rfl
        have x2 := cx_at hM6.blk 2 _ rfl
        have x3 := cx_at hM6.blk 3 _ rfl
        rcases hM6.out with ⟨hc0, hpp, hX, hS, hdl⟩ | ⟨hc0, hle, hfit, hpe, hput⟩
        · subst hpp
          have hE6 := hE.below hM6.below (Nat.le_refl _)
          have hU := u64_any rb g n n p' c' 9223372036854775807 bs er W6 hM6.rd hE6 hp (by omega) hby (by omega)
          rw [held_num _ _ _ _ _ _ hc0] at hU
          go_wp2_with (first
            | (go_at_call 21; refine (num_id _ _).mono ?_; rintro e w8 ⟨rfl, hw8⟩; subst w8))
          refine hU.mono ?_
          rintro e w7 ⟨rfl, hR7, hg7⟩
          have hb7 := hM6.below.grown hg7 hM6.below.size (fun k hk => by cases hk; exact hwrb)
          have ho7 := hM6.own.kept hg7 (.inr (own_ne hM6.own hM6.rd))
          have hT := text17_any rb g n n p' c' 9223372036854775807 bs er w7 hR7 (hE.below hb7 (Nat.le_refl _)) hp (by omega) hby (by omega)
          rw [held_text _ _ _ _ _ hc0, txt_nil] at hT
          clear hU x0 x1 x2 x3 hE6 hg7 hM6 hX hS hdl
          go_wp2_with fail
          refine hT.mono ?_
          rintro e w8 ⟨rfl, hR8, hg8⟩
          have hb8 := hb7.grown hg8 hb7.size (fun k hk => by cases hk; exact hwrb)
          have ho8 := ho7.kept hg8 (.inr (own_ne ho7 hR7))
          clear hT hg8 hb7 ho7 hR7
          go_wp2_with fail
          refine (err_any rb g n n p' c' bs _ hR8).mono ?_
          rintro e w9 ⟨rfl, m9, hw9⟩
          subst w9
          have hC := close_any rb g n n p' c' bs _ (hR8.drewN m9)
          rw [held_close _ _ _ hc0] at hC
          go_wp2_with fail
          refine hC.mono ?_
          rintro e w10 ⟨rfl, hR10, hg10⟩
          have hb10 := (below_drewN hb8 m9).grown hg10 (below_drewN hb8 m9).size (fun k hk => by cases hk; exact hwrb)
          have ho10 := (World.ownsRow.kept (w := w8.drewN m9) ho8 hg10 (.inr (own_ne ho8 hR8)))
          clear hC hg10 hb8 ho8 hR8
          go_wp2
          go_roundw
          case rel => exact ⟨k + 1, p', c', c, av, by omega, by omega, by go_num, rfl, hp, hR10, ho10, hb10⟩
          case measure => simp [intOf]; omega
        · subst hc0
          have hP := hM6.put hn hfit hpe hput
          have hpd : decide ((n : Int) < (p' : Int)) = false := by simp; omega
          have hpc : p' ≤ cap := by have := hL.hle; omega
          clear hput hpe
          go_wp2_with (first
            | (go_at_call 21; refine (num_id _ _).mono ?_; rintro e w8 ⟨rfl, hw8⟩; subst w8))
          refine hP.mono ?_
          rintro e w7 ⟨a7, c7, rfl, hown7, hb7⟩
          have hb07 := hM6.below.trans (hb7.mono hM6.below.size)
          have hL7 := (hL.below hb07 (Nat.le_refl _)).upto p' hle
          have hR7 := hM6.rd.below hb7
          have ho7 := ownsRow_mono hown7 hM6.below.size
          clear hP x0 x1 x2 x3 hM6 hb7
          go_wp2_with fail
          refine (same_true a7 ao p' c7 cap (bs.take p') _ (by omega) (Lies.owned hown7) hL7).mono ?_
          rintro e w8 ⟨rfl, hb8⟩
          have hb08 := hb07.trans (hb8.mono hb07.size)
          have hR8 := hR7.below hb8
          have ho8 := own_below ho7 hb8
          clear hb8 hb07 hR7 ho7 hown7 hL7
          go_wp2
          go_roundw
          case rel => exact ⟨k + 1, p', 0, c7, a7, by omega, by omega, by go_num, rfl, hle, hR8, ho8, hb08⟩
          case measure => simp [intOf]; omega
      · -- Sum
        obtain ⟨X, p', c', e1⟩ : ∃ X p' c', rdSum n bs pl code = (X, p', c') := ⟨_, _, _, rfl⟩
        have hC := sum_any rb g n n pl code bs er _ (hR.alloc (.cells #[.int .i64 K, .int .i64 0, .int .u64 0, .slice none 0 0] 32)) ((hE.below hb (Nat.le_refl _)).alloc _) hp (by omega) hby
        rw [e1] at hC
        refine hC.mono ?_
        rintro e w3 ⟨rfl, hR3, hg3⟩
        obtain ⟨hx3, ho3, hb3⟩ := after_face hR hown hb hg3 hwrb
        have cx := cx_at hx3 2 _ rfl
        have fx := fx_at hx3 2
        have hM := mid_sum K X (by simpa using (by assumption : (K == 3) = true)) p' c' e1 hlen hby hp hR3 hx3 ho3 hb3 hwx hgx
        clear hC e1 hR3 hx3 ho3 hb3 hg3
        go_wp2_with fail
        generalize w3.setCell ⟨wr.heap.size, 2, none⟩ (.int .u64 X) = W at hM ⊢
        clear cx fx
        refine (err_any rb g n n p' c' bs _ hM.rd).mono ?_
        rintro e w6 ⟨rfl, m6, hw6⟩
        subst w6
        have hM6 := hM.drewN m6
        clear hM
        generalize W.drewN m6 = W6 at hM6 ⊢
        have x0 := cx_at hM6.blk 0 _ rfl
        have x1 := cx_at hM6.blk 1 _ rfl
        have x2 := cx_at hM6.blk 2 _ rfl
        have x3 := cx_at hM6.blk 3 _ rfl
        rcases hM6.out with ⟨hc0, hpp, hX, hS, hdl⟩ | ⟨hc0, hle, hfit, hpe, hput⟩
        · subst hpp
          have hE6 := hE.below hM6.below (Nat.le_refl _)
          have hU := u64_any rb g n n p' c' 9223372036854775807 bs er W6 hM6.rd hE6 hp (by omega) hby (by omega)
          rw [held_num _ _ _ _ _ _ hc0] at hU
          go_wp2_with (first
            | (go_at_call 21; refine (num_id _ _).mono ?_; rintro e w8 ⟨rfl, hw8⟩; subst w8))
          refine hU.mono ?_
          rintro e w7 ⟨rfl, hR7, hg7⟩
          have hb7 := hM6.below.grown hg7 hM6.below.size (fun k hk => by cases hk; exact hwrb)
          have ho7 := hM6.own.kept hg7 (.inr (own_ne hM6.own hM6.rd))
          have hT := text17_any rb g n n p' c' 9223372036854775807 bs er w7 hR7 (hE.below hb7 (Nat.le_refl _)) hp (by omega) hby (by omega)
          rw [held_text _ _ _ _ _ hc0, txt_nil] at hT
          clear hU x0 x1 x2 x3 hE6 hg7 hM6 hX hS hdl
          go_wp2_with fail
          refine hT.mono ?_
          rintro e w8 ⟨rfl, hR8, hg8⟩
          have hb8 := hb7.grown hg8 hb7.size (fun k hk => by cases hk; exact hwrb)
          have ho8 := ho7.kept hg8 (.inr (own_ne ho7 hR7))
          clear hT hg8 hb7 ho7 hR7
          go_wp2_with fail
          refine (err_any rb g n n p' c' bs _ hR8).mono ?_
          rintro e w9 ⟨rfl, m9, hw9⟩
          subst w9
          have hC := close_any rb g n n p' c' bs _ (hR8.drewN m9)
          rw [held_close _ _ _ hc0] at hC
          go_wp2_with fail
          refine hC.mono ?_
          rintro e w10 ⟨rfl, hR10, hg10⟩
          have hb10 := (below_drewN hb8 m9).grown hg10 (below_drewN hb8 m9).size (fun k hk => by cases hk; exact hwrb)
          have ho10 := (World.ownsRow.kept (w := w8.drewN m9) ho8 hg10 (.inr (own_ne ho8 hR8)))
          clear hC hg10 hb8 ho8 hR8
          go_wp2
          go_roundw
          case rel => exact ⟨k + 1, p', c', c, av, by omega, by omega, by go_num, rfl, hp, hR10, ho10, hb10⟩
          case measure => simp [intOf]; omega
        · subst hc0
          have hP := hM6.put hn hfit hpe hput
          have hpd : decide ((n : Int) < (p' : Int)) = false := by simp; omega
          have hpc : p' ≤ cap := by have := hL.hle; omega
          clear hput hpe
          go_wp2_with (first
            | (go_at_call 21; refine (num_id _ _).mono ?_; rintro e w8 ⟨rfl, hw8⟩; subst w8))
          refine hP.mono ?_
          rintro e w7 ⟨a7, c7, rfl, hown7, hb7⟩
          have hb07 := hM6.below.trans (hb7.mono hM6.below.size)
          have hL7 := (hL.below hb07 (Nat.le_refl _)).upto p' hle
          have hR7 := hM6.rd.below hb7
          have ho7 := ownsRow_mono hown7 hM6.below.size
          clear hP x0 x1 x2 x3 hM6 hb7
          go_wp2_with fail
          refine (same_true a7 ao p' c7 cap (bs.take p') _ (by omega) (Lies.owned hown7) hL7).mono ?_
          rintro e w8 ⟨rfl, hb8⟩
          have hb08 := hb07.trans (hb8.mono hb07.size)
          have hR8 := hR7.below hb8
          have ho8 := own_below ho7 hb8
          clear hb8 hb07 hR7 ho7 hown7 hL7
          go_wp2
          go_roundw
          case rel => exact ⟨k + 1, p', 0, c7, a7, by omega, by omega, by go_num, rfl, hle, hR8, ho8, hb08⟩
          case measure => simp [intOf]; omega
      · -- Text
        obtain ⟨L, p', c', e1⟩ : ∃ L p' c', rdText n bs pl code 9223372036854775807 = (L, p', c') := ⟨_, _, _, rfl⟩
        have hC := text17_any rb g n n pl code 9223372036854775807 bs er _ (hR.alloc (.cells #[.int .i64 K, .int .i64 0, .int .u64 0, .slice none 0 0] 32)) ((hE.below hb (Nat.le_refl _)).alloc _) hp (by omega) hby (by omega)
        rw [e1] at hC
        have hsm := text_small n bs pl code hlen hby hp L p' c' e1
        refine hC.mono ?_
        rintro e w3 ⟨rfl, hR3, hg3⟩
        obtain ⟨hx3, ho3, hb3⟩ := after_face hR hown hb hg3 hwrb
        have hcv := Lib.run_convert_string_bytes (P := Tryd.prog) w3 9 24 5 (txt L) Tryd.underlying9 Tryd.underlying24 Tryd.underlying5
        have hbw := bytesWorld_below w3 (txt L)
        have hLi := bytesWorld_lies w3 (txt L)
        rw [nums_txt L hsm] at hLi
        have hx3' := (hbw.block _ (lt_of_block hx3)).trans hx3
        have cx := cx_at hx3' 3 _ rfl
        have fx := fx_at hx3' 3
        have hltx := lt_of_block hx3
        have hM := mid_list K (.inl (by simpa using (by assumption : (K == 4) = true))) L p' c' e1 hlen hby hp (hR3.below hbw) hx3' (own_below ho3 hbw) (hb3.trans (hbw.mono hb3.size)) hwx hgx _ _ _ hLi (fun ad had => by obtain rfl := Option.some.inj had; exact (Nat.ne_of_lt hltx).symm)
        clear hC e1 hR3 hx3 ho3 hb3 hg3 hx3' hLi hsm hbw
        go_wp2_with fail
        generalize (Lib.bytesWorld w3 5 (txt L)).setCell ⟨wr.heap.size, 3, none⟩ (.slice (some ⟨w3.heap.size, 0, none⟩) (txt L).size (grownCap w3 (txt L).size 0 5)) = W at hM ⊢
        clear cx fx hcv
        refine (err_any rb g n n p' c' bs _ hM.rd).mono ?_
        rintro e w6 ⟨rfl, m6, hw6⟩
        subst w6
        have hM6 := hM.drewN m6
        clear hM
        generalize W.drewN m6 = W6 at hM6 ⊢
        have x0 := cx_at hM6.blk 0 _ rfl
        have x1 := cx_at hM6.blk 1 _ rfl
        have x2 := cx_at hM6.blk 2 _ rfl
        have x3 := cx_at hM6.blk 3 _ rfl
        rcases hM6.out with ⟨hc0, hpp, hX, hS, hdl⟩ | ⟨hc0, hle, hfit, hpe, hput⟩
        · subst hpp
          have hE6 := hE.below hM6.below (Nat.le_refl _)
          have hU := u64_any rb g n n p' c' 9223372036854775807 bs er W6 hM6.rd hE6 hp (by omega) hby (by omega)
          rw [held_num _ _ _ _ _ _ hc0] at hU
          go_wp2_with (first
            | (go_at_call 21; refine (num_id _ _).mono ?_; rintro e w8 ⟨rfl, hw8⟩; subst w8))
          refine hU.mono ?_
          rintro e w7 ⟨rfl, hR7, hg7⟩
          have hb7 := hM6.below.grown hg7 hM6.below.size (fun k hk => by cases hk; exact hwrb)
          have ho7 := hM6.own.kept hg7 (.inr (own_ne hM6.own hM6.rd))
          have hT := text17_any rb g n n p' c' 9223372036854775807 bs er w7 hR7 (hE.below hb7 (Nat.le_refl _)) hp (by omega) hby (by omega)
          rw [held_text _ _ _ _ _ hc0, txt_nil] at hT
          clear hU x0 x1 x2 x3 hE6 hg7 hM6 hX hS hdl
          go_wp2_with fail
          refine hT.mono ?_
          rintro e w8 ⟨rfl, hR8, hg8⟩
          have hb8 := hb7.grown hg8 hb7.size (fun k hk => by cases hk; exact hwrb)
          have ho8 := ho7.kept hg8 (.inr (own_ne ho7 hR7))
          clear hT hg8 hb7 ho7 hR7
          go_wp2_with fail
          refine (err_any rb g n n p' c' bs _ hR8).mono ?_
          rintro e w9 ⟨rfl, m9, hw9⟩
          subst w9
          have hC := close_any rb g n n p' c' bs _ (hR8.drewN m9)
          rw [held_close _ _ _ hc0] at hC
          go_wp2_with fail
          refine hC.mono ?_
          rintro e w10 ⟨rfl, hR10, hg10⟩
          have hb10 := (below_drewN hb8 m9).grown hg10 (below_drewN hb8 m9).size (fun k hk => by cases hk; exact hwrb)
          have ho10 := (World.ownsRow.kept (w := w8.drewN m9) ho8 hg10 (.inr (own_ne ho8 hR8)))
          clear hC hg10 hb8 ho8 hR8
          go_wp2
          go_roundw
          case rel => exact ⟨k + 1, p', c', c, av, by omega, by omega, by go_num, rfl, hp, hR10, ho10, hb10⟩
          case measure => simp [intOf]; omega
        · subst hc0
          have hP := hM6.put hn hfit hpe hput
          have hpd : decide ((n : Int) < (p' : Int)) = false := by simp; omega
          have hpc : p' ≤ cap := by have := hL.hle; omega
          clear hput hpe
          go_wp2_with (first
            | (go_at_call 21; refine (num_id _ _).mono ?_; rintro e w8 ⟨rfl, hw8⟩; subst w8))
          refine hP.mono ?_
          rintro e w7 ⟨a7, c7, rfl, hown7, hb7⟩
          have hb07 := hM6.below.trans (hb7.mono hM6.below.size)
          have hL7 := (hL.below hb07 (Nat.le_refl _)).upto p' hle
          have hR7 := hM6.rd.below hb7
          have ho7 := ownsRow_mono hown7 hM6.below.size
          clear hP x0 x1 x2 x3 hM6 hb7
          go_wp2_with fail
          refine (same_true a7 ao p' c7 cap (bs.take p') _ (by omega) (Lies.owned hown7) hL7).mono ?_
          rintro e w8 ⟨rfl, hb8⟩
          have hb08 := hb07.trans (hb8.mono hb07.size)
          have hR8 := hR7.below hb8
          have ho8 := own_below ho7 hb8
          clear hb8 hb07 hR7 ho7 hown7 hL7
          go_wp2
          go_roundw
          case rel => exact ⟨k + 1, p', 0, c7, a7, by omega, by omega, by go_num, rfl, hle, hR8, ho8, hb08⟩
          case measure => simp [intOf]; omega
      · -- Bytes
        obtain ⟨L, p', c', e1⟩ : ∃ L p' c', rdText n bs pl code 9223372036854775807 = (L, p', c') := ⟨_, _, _, rfl⟩
        have hC := bytes_any rb g n n pl code 9223372036854775807 bs er _ (hR.alloc (.cells #[.int .i64 K, .int .i64 0, .int .u64 0, .slice none 0 0] 32)) ((hE.below hb (Nat.le_refl _)).alloc _) hp (by omega) hby (by omega)
        rw [e1] at hC
        refine hC.mono ?_
        rintro e w3 ⟨⟨b5, d5, rfl, hown5⟩, hR3, hg3⟩
        obtain ⟨hx3, ho3, hb3⟩ := after_face hR hown hb hg3 hwrb
        have cx := cx_at hx3 3 _ rfl
        have fx := fx_at hx3 3
        have hM := mid_list K (.inr (by simpa using (by assumption : (K == 5) = true))) L p' c' e1 hlen hby hp hR3 hx3 ho3 hb3 hwx hgx _ _ _ (Lies.owned hown5) (fun ad had => by subst had; have := (hown5.lt _ rfl).1; simp at this; omega)
        clear hC e1 hR3 hx3 ho3 hb3 hg3 hown5
        go_wp2_with fail
        generalize w3.setCell ⟨wr.heap.size, 3, none⟩ (.slice b5 L.length d5) = W at hM ⊢
        clear cx fx
        refine (err_any rb g n n p' c' bs _ hM.rd).mono ?_
        rintro e w6 ⟨rfl, m6, hw6⟩
        subst w6
        have hM6 := hM.drewN m6
        clear hM
        generalize W.drewN m6 = W6 at hM6 ⊢
        have x0 := cx_at hM6.blk 0 _ rfl
        have x1 := cx_at hM6.blk 1 _ rfl
        have x2 := cx_at hM6.blk 2 _ rfl
        have x3 := cx_at hM6.blk 3 _ rfl
        rcases hM6.out with ⟨hc0, hpp, hX, hS, hdl⟩ | ⟨hc0, hle, hfit, hpe, hput⟩
        · subst hpp
          have hE6 := hE.below hM6.below (Nat.le_refl _)
          have hU := u64_any rb g n n p' c' 9223372036854775807 bs er W6 hM6.rd hE6 hp (by omega) hby (by omega)
          rw [held_num _ _ _ _ _ _ hc0] at hU
          go_wp2_with (first
            | (go_at_call 21; refine (num_id _ _).mono ?_; rintro e w8 ⟨rfl, hw8⟩; subst w8))
          refine hU.mono ?_
          rintro e w7 ⟨rfl, hR7, hg7⟩
          have hb7 := hM6.below.grown hg7 hM6.below.size (fun k hk => by cases hk; exact hwrb)
          have ho7 := hM6.own.kept hg7 (.inr (own_ne hM6.own hM6.rd))
          have hT := text17_any rb g n n p' c' 9223372036854775807 bs er w7 hR7 (hE.below hb7 (Nat.le_refl _)) hp (by omega) hby (by omega)
          rw [held_text _ _ _ _ _ hc0, txt_nil] at hT
          clear hU x0 x1 x2 x3 hE6 hg7 hM6 hX hS hdl
          go_wp2_with fail
          refine hT.mono ?_
          rintro e w8 ⟨rfl, hR8, hg8⟩
          have hb8 := hb7.grown hg8 hb7.size (fun k hk => by cases hk; exact hwrb)
          have ho8 := ho7.kept hg8 (.inr (own_ne ho7 hR7))
          clear hT hg8 hb7 ho7 hR7
          go_wp2_with fail
          refine (err_any rb g n n p' c' bs _ hR8).mono ?_
          rintro e w9 ⟨rfl, m9, hw9⟩
          subst w9
          have hC := close_any rb g n n p' c' bs _ (hR8.drewN m9)
          rw [held_close _ _ _ hc0] at hC
          go_wp2_with fail
          refine hC.mono ?_
          rintro e w10 ⟨rfl, hR10, hg10⟩
          have hb10 := (below_drewN hb8 m9).grown hg10 (below_drewN hb8 m9).size (fun k hk => by cases hk; exact hwrb)
          have ho10 := (World.ownsRow.kept (w := w8.drewN m9) ho8 hg10 (.inr (own_ne ho8 hR8)))
          clear hC hg10 hb8 ho8 hR8
          go_wp2
          go_roundw
          case rel => exact ⟨k + 1, p', c', c, av, by omega, by omega, by go_num, rfl, hp, hR10, ho10, hb10⟩
          case measure => simp [intOf]; omega
        · subst hc0
          have hP := hM6.put hn hfit hpe hput
          have hpd : decide ((n : Int) < (p' : Int)) = false := by simp; omega
          have hpc : p' ≤ cap := by have := hL.hle; omega
          clear hput hpe
          go_wp2_with (first
            | (go_at_call 21; refine (num_id _ _).mono ?_; rintro e w8 ⟨rfl, hw8⟩; subst w8))
          refine hP.mono ?_
          rintro e w7 ⟨a7, c7, rfl, hown7, hb7⟩
          have hb07 := hM6.below.trans (hb7.mono hM6.below.size)
          have hL7 := (hL.below hb07 (Nat.le_refl _)).upto p' hle
          have hR7 := hM6.rd.below hb7
          have ho7 := ownsRow_mono hown7 hM6.below.size
          clear hP x0 x1 x2 x3 hM6 hb7
          go_wp2_with fail
          refine (same_true a7 ao p' c7 cap (bs.take p') _ (by omega) (Lies.owned hown7) hL7).mono ?_
          rintro e w8 ⟨rfl, hb8⟩
          have hb08 := hb07.trans (hb8.mono hb07.size)
          have hR8 := hR7.below hb8
          have ho8 := own_below ho7 hb8
          clear hb8 hb07 hR7 ho7 hown7 hL7
          go_wp2
          go_roundw
          case rel => exact ⟨k + 1, p', 0, c7, a7, by omega, by omega, by go_num, rfl, hle, hR8, ho8, hb08⟩
          case measure => simp [intOf]; omega
      · -- Flag
        obtain ⟨fb, p', c', e1⟩ : ∃ X p' c', rdFlag n bs pl code = (X, p', c') := ⟨_, _, _, rfl⟩
        have hC := flag_any rb g n n pl code bs er _ (hR.alloc (.cells #[.int .i64 1, .int .i64 0, .int .u64 0, .slice none 0 0] 32)) ((hE.below hb (Nat.le_refl _)).alloc _) hp (by omega) hby
        rw [e1] at hC
        refine hC.mono ?_
        rintro e w3 ⟨rfl, hR3, hg3⟩
        obtain ⟨hx3, ho3, hb3⟩ := after_face hR hown hb hg3 hwrb
        have cx := cx_at hx3 1 _ rfl
        have fx := fx_at hx3 1
        have hMM := mid_flag fb p' c' e1 hlen hby hp hR3 hx3 ho3 hb3 hwx hgx
        clear hC e1 hR3 hx3 ho3 hb3 hg3
        cases fb
        · have hM := hMM.2 rfl
          clear hMM
          go_wp2_with fail
          generalize w3 = W at hM ⊢
          clear cx fx
          refine (err_any rb g n n p' c' bs _ hM.rd).mono ?_
          rintro e w6 ⟨rfl, m6, hw6⟩
          subst w6
          have hM6 := hM.drewN m6
          clear hM
          generalize W.drewN m6 = W6 at hM6 ⊢
          have x0 := cx_at hM6.blk 0 _ rfl
          have x1 := cx_at hM6.blk 1 _ rfl
          have x2 := cx_at hM6.blk 2 _ rfl
          have x3 := cx_at hM6.blk 3 _ rfl
          rcases hM6.out with ⟨hc0, hpp, hX, hS, hdl⟩ | ⟨hc0, hle, hfit, hpe, hput⟩
          · subst hpp
            have hE6 := hE.below hM6.below (Nat.le_refl _)
            have hU := u64_any rb g n n p' c' 9223372036854775807 bs er W6 hM6.rd hE6 hp (by omega) hby (by omega)
            rw [held_num _ _ _ _ _ _ hc0] at hU
            go_wp2_with (first
              | (go_at_call 21; refine (num_id _ _).mono ?_; rintro e w8 ⟨rfl, hw8⟩; subst w8))
            refine hU.mono ?_
            rintro e w7 ⟨rfl, hR7, hg7⟩
            have hb7 := hM6.below.grown hg7 hM6.below.size (fun k hk => by cases hk; exact hwrb)
            have ho7 := hM6.own.kept hg7 (.inr (own_ne hM6.own hM6.rd))
            have hT := text17_any rb g n n p' c' 9223372036854775807 bs er w7 hR7 (hE.below hb7 (Nat.le_refl _)) hp (by omega) hby (by omega)
            rw [held_text _ _ _ _ _ hc0, txt_nil] at hT
            clear hU x0 x1 x2 x3 hE6 hg7 hM6 hX hS hdl
            go_wp2_with fail
            refine hT.mono ?_
            rintro e w8 ⟨rfl, hR8, hg8⟩
            have hb8 := hb7.grown hg8 hb7.size (fun k hk => by cases hk; exact hwrb)
            have ho8 := ho7.kept hg8 (.inr (own_ne ho7 hR7))
            clear hT hg8 hb7 ho7 hR7
            go_wp2_with fail
            refine (err_any rb g n n p' c' bs _ hR8).mono ?_
            rintro e w9 ⟨rfl, m9, hw9⟩
            subst w9
            have hC := close_any rb g n n p' c' bs _ (hR8.drewN m9)
            rw [held_close _ _ _ hc0] at hC
            go_wp2_with fail
            refine hC.mono ?_
            rintro e w10 ⟨rfl, hR10, hg10⟩
            have hb10 := (below_drewN hb8 m9).grown hg10 (below_drewN hb8 m9).size (fun k hk => by cases hk; exact hwrb)
            have ho10 := (World.ownsRow.kept (w := w8.drewN m9) ho8 hg10 (.inr (own_ne ho8 hR8)))
            clear hC hg10 hb8 ho8 hR8
            go_wp2
            go_roundw
            case rel => exact ⟨k + 1, p', c', c, av, by omega, by omega, by go_num, rfl, hp, hR10, ho10, hb10⟩
            case measure => simp [intOf]; omega
          · subst hc0
            have hP := hM6.put hn hfit hpe hput
            have hpd : decide ((n : Int) < (p' : Int)) = false := by simp; omega
            have hpc : p' ≤ cap := by have := hL.hle; omega
            clear hput hpe
            go_wp2_with (first
              | (go_at_call 21; refine (num_id _ _).mono ?_; rintro e w8 ⟨rfl, hw8⟩; subst w8))
            refine hP.mono ?_
            rintro e w7 ⟨a7, c7, rfl, hown7, hb7⟩
            have hb07 := hM6.below.trans (hb7.mono hM6.below.size)
            have hL7 := (hL.below hb07 (Nat.le_refl _)).upto p' hle
            have hR7 := hM6.rd.below hb7
            have ho7 := ownsRow_mono hown7 hM6.below.size
            clear hP x0 x1 x2 x3 hM6 hb7
            go_wp2_with fail
            refine (same_true a7 ao p' c7 cap (bs.take p') _ (by omega) (Lies.owned hown7) hL7).mono ?_
            rintro e w8 ⟨rfl, hb8⟩
            have hb08 := hb07.trans (hb8.mono hb07.size)
            have hR8 := hR7.below hb8
            have ho8 := own_below ho7 hb8
            clear hb8 hb07 hR7 ho7 hown7 hL7
            go_wp2
            go_roundw
            case rel => exact ⟨k + 1, p', 0, c7, a7, by omega, by omega, by go_num, rfl, hle, hR8, ho8, hb08⟩
            case measure => simp [intOf]; omega
        · have hM := hMM.1 rfl
          clear hMM
          go_wp2_with fail
          generalize w3.setCell ⟨wr.heap.size, 1, none⟩ (.int .i64 1) = W at hM ⊢
          clear cx fx
          refine (err_any rb g n n p' c' bs _ hM.rd).mono ?_
          rintro e w6 ⟨rfl, m6, hw6⟩
          subst w6
          have hM6 := hM.drewN m6
          clear hM
          generalize W.drewN m6 = W6 at hM6 ⊢
          have x0 := cx_at hM6.blk 0 _ rfl
          have x1 := cx_at hM6.blk 1 _ rfl
          have x2 := cx_at hM6.blk 2 _ rfl
          have x3 := cx_at hM6.blk 3 _ rfl
          rcases hM6.out with ⟨hc0, hpp, hX, hS, hdl⟩ | ⟨hc0, hle, hfit, hpe, hput⟩
          · exact absurd hX (by decide)
          · subst hc0
            have hP := hM6.put hn hfit hpe hput
            have hpd : decide ((n : Int) < (p' : Int)) = false := by simp; omega
            have hpc : p' ≤ cap := by have := hL.hle; omega
            clear hput hpe
            go_wp2_with (first
              | (go_at_call 21; refine (num_id _ _).mono ?_; rintro e w8 ⟨rfl, hw8⟩; subst w8))
            refine hP.mono ?_
            rintro e w7 ⟨a7, c7, rfl, hown7, hb7⟩
            have hb07 := hM6.below.trans (hb7.mono hM6.below.size)
            have hL7 := (hL.below hb07 (Nat.le_refl _)).upto p' hle
            have hR7 := hM6.rd.below hb7
            have ho7 := ownsRow_mono hown7 hM6.below.size
            clear hP x0 x1 x2 x3 hM6 hb7
            go_wp2_with fail
            refine (same_true a7 ao p' c7 cap (bs.take p') _ (by omega) (Lies.owned hown7) hL7).mono ?_
            rintro e w8 ⟨rfl, hb8⟩
            have hb08 := hb07.trans (hb8.mono hb07.size)
            have hR8 := hR7.below hb8
            have ho8 := own_below ho7 hb8
            clear hb8 hb07 hR7 ho7 hown7 hL7
            go_wp2
            go_roundw
            case rel => exact ⟨k + 1, p', 0, c7, a7, by omega, by omega, by go_num, rfl, hle, hR8, ho8, hb08⟩
            case measure => simp [intOf]; omega
    · have hnb : (decide ((k : Int) < (kn : Int)) && decide ((k : Int) < 300)) = false := by
        simp only [Bool.and_eq_false_iff, decide_eq_false_iff_not]
        rcases Classical.not_and_iff_not_or_not.1 hlt with h | h
        · exact .inl (by omega)
        · exact .inr (by omega)
      by_cases hlk : k < kn
      · have hki : decide ((k : Int) < (kn : Int)) = true := by simpa using hlk
        have hki3 : decide ((k : Int) < 300) = false := by simp; omega
        clear hkc hnb hlt hL
        go_wp2
        go_ret
        exact ⟨rfl, hb⟩
      · have hki : decide ((k : Int) < (kn : Int)) = false := by simp; omega
        clear hkc hnb hlt hL
        go_wp2
        go_ret
        exact ⟨rfl, hb⟩
end Go.Proofs.YtjpaooejkbkliaaDoor
