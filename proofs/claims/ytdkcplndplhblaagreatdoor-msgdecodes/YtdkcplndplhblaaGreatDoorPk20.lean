/- annexref4.CheckRequest, of any request. -/
import Derived.Test.YtdkcplndplhblaaGreatDoorPk18
import Derived.Test.YtdkcplndplhblaaGreatDoorPk19
import Derived.Test.YtdkcplndplhblaaGreatDoorPk17
namespace Go.Proofs.YtdkcplndplhblaaGreatDoor
open Go.RowKit
set_option maxRecDepth 100000

theorem rfields_any (r : Req) (ao : Option Addr) (n c : Nat) (w : World) (hn : r.data.length = n) (hp : r.path.size ≤ 1048576) (ho : inB r.op 1 10 = true) :
    Calls Tryz.prog 41 #[rqV r ao n c] w fun e w' => e = .returned (.int .i64 (judgeE r.op (hasRq r.op) (rqAny r))) ∧ Below w.heap.size w w' := by
  obtain ⟨cl, sq, ak, ep, op, id, id2, off, len, path, name, name2, data⟩ := r
  have h := inB_true ho
  simp only at h hn hp ⊢
  have hc : op = 1 ∨ op = 2 ∨ op = 3 ∨ op = 4 ∨ op = 5 ∨ op = 6 ∨ op = 7 ∨ op = 8 ∨ op = 9 ∨ op = 10 := by omega
  clear h ho
  rcases hc with rfl | rfl | rfl | rfl | rfl | rfl | rfl | rfl | rfl | rfl
  · exact rfields_1 cl sq ak ep id id2 off len path name name2 data ao n c w hn hp
  · exact rfields_2 cl sq ak ep id id2 off len path name name2 data ao n c w hn hp
  · exact rfields_3 cl sq ak ep id id2 off len path name name2 data ao n c w hn hp
  · exact rfields_4 cl sq ak ep id id2 off len path name name2 data ao n c w hn hp
  · exact rfields_5 cl sq ak ep id id2 off len path name name2 data ao n c w hn hp
  · exact rfields_6 cl sq ak ep id id2 off len path name name2 data ao n c w hn hp
  · exact rfields_7 cl sq ak ep id id2 off len path name name2 data ao n c w hn hp
  · exact rfields_8 cl sq ak ep id id2 off len path name name2 data ao n c w hn hp
  · exact rfields_9 cl sq ak ep id id2 off len path name name2 data ao n c w hn hp
  · exact rfields_10 cl sq ak ep id id2 off len path name name2 data ao n c w hn hp
theorem rqHead_op {r : Req} (h : rqHeadE r = 0) : inB r.op 1 10 = true := by
  unfold rqHeadE at h
  cases h5 : inB r.op 1 10
  · rw [h5] at h; revert h; split
    · intro h; cases h
    · split
      · intro h; cases h
      · split <;> intro h <;> simp at h
  · rfl

set_option maxHeartbeats 1000000 in
theorem rcheckRq_any (r : Req) (ao : Option Addr) (n c : Nat) (w : World) (hn : r.data.length = n) (hp : r.path.size ≤ 1048576) :
    Calls Tryz.prog 10 #[rqV r ao n c] w fun e w' => e = .returned (.int .i64 (rqE r)) ∧ Below w.heap.size w w' := by
  unfold rqE
  have HN : Hid (r.data.length = n) := hn
  clear hn
  have hB0 := RqBox.new w r ao n c
  by_cases h0 : rqHeadE r = 0
  · have hop := rqHead_op h0
    rw [if_pos h0]
    go_enter Tryz.func10, Tryz.ntmps10
    go_wp2_with (first
      | (go_at_call 40; refine (rhead_any r ao n c _).mono ?_; rintro e w1 ⟨rfl, hb1⟩; rw [h0]; have hB1 := RqBox.later hB0 hb1 (Nat.le_refl _); have hq1 := (newBox w _).trans (hb1.mono (by simp)); obtain ⟨d0, d1, d2, d3, d4, d5, d6, d7, d8, d9, d10, d11, d12⟩ := hB1)
      | (go_at_call 41; refine (rfields_any r ao n c _ HN.out hp hop).mono ?_; rintro e w2 ⟨rfl, hb2⟩))
    go_ret
    exact ⟨rfl, hq1.trans (hb2.mono hq1.size)⟩
  · rw [if_neg h0]
    have h1 : (rqHeadE r != 0) = true := by simpa using h0
    go_enter Tryz.func10, Tryz.ntmps10
    go_wp2_with (first
      | (go_at_call 40; refine (rhead_any r ao n c _).mono ?_; rintro e w1 ⟨rfl, hb1⟩; have hq1 := (newBox w _).trans (hb1.mono (by simp))))
    go_ret
    exact ⟨rfl, hq1⟩
end Go.Proofs.YtdkcplndplhblaaGreatDoor

/- annexref4: what may be a reply: the first five errors, attributes, lists of entries. -/
namespace Go.Proofs.YtdkcplndplhblaaGreatDoor
open Go.RowKit
set_option maxRecDepth 100000

set_option maxHeartbeats 1000000 in
theorem rstatus_any (x : Int) (w : World) : Calls Tryz.prog 90 #[.int .i64 x] w fun e w' => e = .returned (.bool (statusB x)) ∧ w' = w := by
  go_enter Tryz.func90, Tryz.ntmps90
  go_wp2
  all_goals go_ret
  all_goals simp_all [statusB]

set_option maxHeartbeats 2000000 in
theorem ranswer_any (r : Rep) (ao : Option Addr) (n c : Nat) (lo : Option Addr) (ln lc : Nat) (w : World) : Calls Tryz.prog 45 #[rpV r ao n c lo ln lc] w fun e w' => e = .returned (.int .i64 (rpHeadE r)) ∧ Below w.heap.size w w' := by
  unfold rpHeadE
  cases h1 : inB r.client 0 7
  · go_enter Tryz.func45, Tryz.ntmps45
    go_wp2_with (first | (go_at_call 76; refine (rnum_id _ _).mono ?_; rintro e w1 ⟨rfl, hw1⟩; subst w1) | (go_at_call 84; refine (rwithin_any _ _ _ _).mono ?_; rintro e w1 ⟨rfl, hw1⟩; subst w1; (first | rw [h1])))
    go_ret
    exact ⟨rfl, newBox _ _⟩
  cases h2 : inB r.seq 1 4611686018427387904
  · go_enter Tryz.func45, Tryz.ntmps45
    go_wp2_with (first | (go_at_call 76; refine (rnum_id _ _).mono ?_; rintro e w1 ⟨rfl, hw1⟩; subst w1) | (go_at_call 84; refine (rwithin_any _ _ _ _).mono ?_; rintro e w1 ⟨rfl, hw1⟩; subst w1; (first | rw [h1] | rw [h2])))
    go_ret
    exact ⟨rfl, newBox _ _⟩
  cases h3 : inB r.epoch 1 4611686018427387904
  · go_enter Tryz.func45, Tryz.ntmps45
    go_wp2_with (first | (go_at_call 76; refine (rnum_id _ _).mono ?_; rintro e w1 ⟨rfl, hw1⟩; subst w1) | (go_at_call 84; refine (rwithin_any _ _ _ _).mono ?_; rintro e w1 ⟨rfl, hw1⟩; subst w1; (first | rw [h1] | rw [h2] | rw [h3])))
    go_ret
    exact ⟨rfl, newBox _ _⟩
  cases h4 : inB r.op 1 10
  · go_enter Tryz.func45, Tryz.ntmps45
    go_wp2_with (first | (go_at_call 76; refine (rnum_id _ _).mono ?_; rintro e w1 ⟨rfl, hw1⟩; subst w1) | (go_at_call 84; refine (rwithin_any _ _ _ _).mono ?_; rintro e w1 ⟨rfl, hw1⟩; subst w1; (first | rw [h1] | rw [h2] | rw [h3] | rw [h4])))
    go_ret
    exact ⟨rfl, newBox _ _⟩
  cases h5 : statusB r.status
  · go_enter Tryz.func45, Tryz.ntmps45
    go_wp2_with (first | (go_at_call 76; refine (rnum_id _ _).mono ?_; rintro e w1 ⟨rfl, hw1⟩; subst w1) | (go_at_call 90; refine (rstatus_any _ _).mono ?_; rintro e w1 ⟨rfl, hw1⟩; subst w1; rw [h5]) | (go_at_call 84; refine (rwithin_any _ _ _ _).mono ?_; rintro e w1 ⟨rfl, hw1⟩; subst w1; (first | rw [h1] | rw [h2] | rw [h3] | rw [h4])))
    go_ret
    exact ⟨rfl, newBox _ _⟩
  · go_enter Tryz.func45, Tryz.ntmps45
    go_wp2_with (first | (go_at_call 76; refine (rnum_id _ _).mono ?_; rintro e w1 ⟨rfl, hw1⟩; subst w1) | (go_at_call 90; refine (rstatus_any _ _).mono ?_; rintro e w1 ⟨rfl, hw1⟩; subst w1; rw [h5]) | (go_at_call 84; refine (rwithin_any _ _ _ _).mono ?_; rintro e w1 ⟨rfl, hw1⟩; subst w1; (first | rw [h1] | rw [h2] | rw [h3] | rw [h4])))
    go_ret
    exact ⟨rfl, newBox _ _⟩

theorem inB_kind (k : Int) : inB k 1 2 = kindB k := by
  unfold inB kindB
  by_cases h1 : k = 1
  · subst h1; decide
  · by_cases h2 : k = 2
    · subst h2; decide
    · simp only [h1, h2, decide_false, Bool.or_false, Bool.and_eq_false_imp, decide_eq_true_eq, decide_eq_false_iff_not]
      omega
theorem kindB_one (h : kindB 1 = false) : False := by cases h
set_option maxHeartbeats 2000000 in
theorem rattr_any (op i k z c : Int) (w : World) : Calls Tryz.prog 91 #[.int .i64 op, .agg #[.int .i64 i, .int .i64 k, .int .i64 z, .int .i64 c]] w fun e w' => e = .returned (.bool (attrB op i k z c)) ∧ Below w.heap.size w w' := by
  have hkk := inB_kind k
  cases h1 : inB i 1 562949953421311
  · have hX : attrB op i k z c = false := by unfold attrB; rw [h1]; rfl
    rw [hX]
    go_enter Tryz.func91, Tryz.ntmps91
    go_wp2_with (go_at_call 84; refine (rwithin_any _ _ _ _).mono ?_; rintro e w1 ⟨rfl, hw1⟩; subst w1; rw [h1])
    go_ret
    exact ⟨rfl, newBox _ _⟩
  cases h2 : kindB k
  · have hX : attrB op i k z c = false := by
      have : kindFits op k = false := by
        unfold kindFits
        unfold kindB at h2
        simp only [Bool.or_eq_false_iff, decide_eq_false_iff_not] at h2
        split
        · simp [h2.1]
        · split
          · simp [h2.2]
          · unfold kindB; simp [h2.1, h2.2]
      unfold attrB; rw [this, h1]; rfl
    rw [hX]
    rw [h2] at hkk
    go_enter Tryz.func91, Tryz.ntmps91
    go_wp2_with (go_at_call 84; refine (rwithin_any _ _ _ _).mono ?_; rintro e w1 ⟨rfl, hw1⟩; subst w1; first | rw [h1] | rw [hkk])
    go_ret
    exact ⟨rfl, newBox _ _⟩
  cases h3 : inB c 0 4611686018427387904
  · have hX : attrB op i k z c = false := by unfold attrB; rw [h3]; simp
    rw [hX]
    rw [h2] at hkk
    go_enter Tryz.func91, Tryz.ntmps91
    go_wp2_with (go_at_call 84; refine (rwithin_any _ _ _ _).mono ?_; rintro e w1 ⟨rfl, hw1⟩; subst w1; first | rw [h1] | rw [hkk] | rw [h3])
    go_ret
    exact ⟨rfl, newBox _ _⟩
  have hk12 : k = 1 ∨ k = 2 := by unfold kindB at h2; simpa using h2
  have hX : attrB op i k z c = (kindFits op k && sizeFits k z) := by unfold attrB; rw [h1, h3]; simp
  rw [hX]
  clear hX h2 hkk
  have hcases : op = 3 ∨ op = 4 ∨ op = 5 ∨ op = 7 ∨ ((op == 3) = false ∧ (op == 4) = false ∧ (op == 5) = false ∧ (op == 7) = false) := by
    simp only [beq_eq_false_iff_ne, ne_eq]; omega
  rcases hk12 with rfl | rfl
  · have hkk : inB 1 1 2 = true := by decide
    have hS : sizeFits 1 z = inB z 0 69632 := rfl
    have hF : op ≠ 7 → kindFits op 1 = true := fun o7 => by unfold kindFits; rw [if_neg o7]; split <;> decide
    rw [hS]
    cases h4 : inB z 0 69632
    · rw [Bool.and_false]
      clear hF
      rcases hcases with rfl | rfl | rfl | rfl | ⟨o3, o4, o5, o7⟩
      all_goals
        go_enter Tryz.func91, Tryz.ntmps91
        go_wp2_with (go_at_call 84; refine (rwithin_any _ _ _ _).mono ?_; rintro e w1 ⟨rfl, hw1⟩; subst w1; first | rw [h1] | rw [hkk] | rw [h3] | rw [h4])
        go_ret
        exact ⟨rfl, newBox _ _⟩
    · rw [Bool.and_true]
      rcases hcases with rfl | rfl | rfl | rfl | ⟨o3, o4, o5, o7⟩
      · rw [hF (by decide)]
        go_enter Tryz.func91, Tryz.ntmps91
        go_wp2_with (go_at_call 84; refine (rwithin_any _ _ _ _).mono ?_; rintro e w1 ⟨rfl, hw1⟩; subst w1; first | rw [h1] | rw [hkk] | rw [h3] | rw [h4])
        go_ret
        exact ⟨rfl, newBox _ _⟩
      · rw [hF (by decide)]
        go_enter Tryz.func91, Tryz.ntmps91
        go_wp2_with (go_at_call 84; refine (rwithin_any _ _ _ _).mono ?_; rintro e w1 ⟨rfl, hw1⟩; subst w1; first | rw [h1] | rw [hkk] | rw [h3] | rw [h4])
        go_ret
        exact ⟨rfl, newBox _ _⟩
      · rw [hF (by decide)]
        go_enter Tryz.func91, Tryz.ntmps91
        go_wp2_with (go_at_call 84; refine (rwithin_any _ _ _ _).mono ?_; rintro e w1 ⟨rfl, hw1⟩; subst w1; first | rw [h1] | rw [hkk] | rw [h3] | rw [h4])
        go_ret
        exact ⟨rfl, newBox _ _⟩
      · clear hF
        go_enter Tryz.func91, Tryz.ntmps91
        go_wp2_with (go_at_call 84; refine (rwithin_any _ _ _ _).mono ?_; rintro e w1 ⟨rfl, hw1⟩; subst w1; first | rw [h1] | rw [hkk] | rw [h3] | rw [h4])
        go_ret
        exact ⟨rfl, newBox _ _⟩
      · rw [hF (by simpa using o7)]
        clear hF
        go_enter Tryz.func91, Tryz.ntmps91
        go_wp2_with (go_at_call 84; refine (rwithin_any _ _ _ _).mono ?_; rintro e w1 ⟨rfl, hw1⟩; subst w1; first | rw [h1] | rw [hkk] | rw [h3] | rw [h4])
        go_ret
        exact ⟨rfl, newBox _ _⟩
  · have hkk : inB 2 1 2 = true := by decide
    have hS : sizeFits 2 z = (inB z 0 8160 && decide (z % 32 = 0)) := rfl
    rw [hS]
    cases h4 : inB z 0 8160
    · rw [Bool.false_and, Bool.and_false]
      rcases hcases with rfl | rfl | rfl | rfl | ⟨o3, o4, o5, o7⟩
      all_goals
        go_enter Tryz.func91, Tryz.ntmps91
        go_wp2_with (go_at_call 84; refine (rwithin_any _ _ _ _).mono ?_; rintro e w1 ⟨rfl, hw1⟩; subst w1; first | rw [h1] | rw [hkk] | rw [h3] | rw [h4])
        go_ret
        exact ⟨rfl, newBox _ _⟩
    · have h0 := (inB_true h4).1
      have ht : z.tmod 32 = z % 32 := Int.tmod_eq_emod_of_nonneg h0
      rw [Bool.true_and]
      have hD : (z.tmod 32 == 0) = decide (z % 32 = 0) := by rw [ht]; rfl
      generalize decide (z % 32 = 0) = D at *
      rcases hcases with rfl | rfl | rfl | rfl | ⟨o3, o4, o5, o7⟩
      · go_enter Tryz.func91, Tryz.ntmps91
        go_wp2_with (go_at_call 84; refine (rwithin_any _ _ _ _).mono ?_; rintro e w1 ⟨rfl, hw1⟩; subst w1; first | rw [h1] | rw [hkk] | rw [h3] | rw [h4])
        go_ret
        exact ⟨rfl, newBox _ _⟩
      · go_enter Tryz.func91, Tryz.ntmps91
        go_wp2_with (go_at_call 84; refine (rwithin_any _ _ _ _).mono ?_; rintro e w1 ⟨rfl, hw1⟩; subst w1; first | rw [h1] | rw [hkk] | rw [h3] | rw [h4])
        go_ret
        exact ⟨rfl, newBox _ _⟩
      · go_enter Tryz.func91, Tryz.ntmps91
        go_wp2_with (go_at_call 84; refine (rwithin_any _ _ _ _).mono ?_; rintro e w1 ⟨rfl, hw1⟩; subst w1; first | rw [h1] | rw [hkk] | rw [h3] | rw [h4])
        go_ret
        exact ⟨rfl, newBox _ _⟩
      · have hF : kindFits 7 2 = true := by decide
        rw [hF, Bool.true_and]
        cases D
        all_goals
          go_enter Tryz.func91, Tryz.ntmps91
          go_wp2_with (go_at_call 84; refine (rwithin_any _ _ _ _).mono ?_; rintro e w1 ⟨rfl, hw1⟩; subst w1; first | rw [h1] | rw [hkk] | rw [h3] | rw [h4])
          go_ret
          exact ⟨by first | rfl | (rw [← ht] at *; simp_all), newBox _ _⟩
      · have hF : kindFits op 2 = true := by
          simp only [beq_eq_false_iff_ne, ne_eq] at o3 o4 o5 o7
          unfold kindFits; rw [if_neg (by omega), if_neg o7]; rfl
        rw [hF, Bool.true_and]
        cases D
        all_goals
          go_enter Tryz.func91, Tryz.ntmps91
          go_wp2_with (go_at_call 84; refine (rwithin_any _ _ _ _).mono ?_; rintro e w1 ⟨rfl, hw1⟩; subst w1; first | rw [h1] | rw [hkk] | rw [h3] | rw [h4])
          go_ret
          exact ⟨by first | rfl | (rw [← ht] at *; simp_all), newBox _ _⟩

/-- The one list of bytes is above the other one. -/
def abL (x y : List UInt8) : Bool := !(Op.bytesLess x y || x == y)
theorem abL_same (a : UInt8) (x y : List UInt8) : abL (a :: x) (a :: y) = abL x y := by
  have h : ¬ a < a := by simp
  simp [abL, Op.bytesLess, h]
theorem abL_ne {a b : UInt8} (h : a ≠ b) (x y : List UInt8) : abL (a :: x) (b :: y) = decide (b.toNat < a.toNat) := by
  have h1 : (a == b) = false := by simpa using h
  have h2 : (a :: x == b :: y) = false := by simp [h]
  have h3 : a.toNat ≠ b.toNat := fun e => h (UInt8.toNat_inj.1 e)
  simp only [abL, Op.bytesLess, h1, h2, Bool.false_and, Bool.or_false]
  by_cases hlt : a < b
  · have := UInt8.lt_iff_toNat_lt.1 hlt
    simp [hlt]; omega
  · have : ¬ a.toNat < b.toNat := fun e => hlt (UInt8.lt_iff_toNat_lt.2 e)
    simp [hlt]; omega
theorem abL_right (x : List UInt8) : abL x [] = decide (0 < x.length) := by
  cases x with
  | nil => rfl
  | cons a x => simp [abL, Op.bytesLess]
theorem abL_left (y : List UInt8) : abL [] y = false := by
  cases y with
  | nil => rfl
  | cons b y => rfl

theorem bs_drop (s : ByteArray) (k : Nat) (h : k < s.size) : (N3.bs s).drop k = (s[k]'h) :: (N3.bs s).drop (k + 1) := by
  have hk : k < (N3.bs s).length := by rw [← N3.size_bs]; exact h
  rw [List.drop_eq_getElem_cons hk]
  congr 1
set_option maxHeartbeats 1000000 in
theorem rabove_any (a b : ByteArray) (w : World) (ha : a.size ≤ 200000000000000) : Calls Tryz.prog 120 #[.string a, .string b] w fun e w' => e = .returned (.bool (abL (N3.bs a) (N3.bs b))) ∧ ∃ m, w' = w.drewN m := by
  have hai : (a.size : Int) ≤ 200000000000000 := by omega
  go_enter Tryz.func120, Tryz.ntmps120
  go_wp2
  go_loopw [5] (fun i wr => ∃ k m : Nat, k ≤ a.size ∧ k ≤ b.size ∧ i = .int .i64 k ∧ wr = w.drewN m ∧ Hid (abL ((N3.bs a).drop k) ((N3.bs b).drop k) = abL (N3.bs a) (N3.bs b))) (fun i _ => a.size - (intOf i).toNat)
  case atStart => exact ⟨0, 0, Nat.zero_le _, Nat.zero_le _, rfl, rfl, (by simp : abL ((N3.bs a).drop 0) ((N3.bs b).drop 0) = abL (N3.bs a) (N3.bs b))⟩
  case round =>
    obtain ⟨k, m, hka, hkb, rfl, rfl, HC⟩ := hrel
    by_cases la : k < a.size
    · have lai : decide ((k : Int) < (a.size : Int)) = true := by simpa using la
      by_cases lb : k < b.size
      · have lbi : decide ((k : Int) < (b.size : Int)) = true := by simpa using lb
        by_cases hc : (a[k]'la) = (b[k]'lb)
        · have HN : Hid (abL ((N3.bs a).drop (k + 1)) ((N3.bs b).drop (k + 1)) = abL (N3.bs a) (N3.bs b)) := by
            have h := HC.out
            rw [bs_drop a k la, bs_drop b k lb, hc, abL_same] at h
            exact h
          have hcb : ((((a[k]'la).toNat : Nat) : Int) != (((b[k]'lb).toNat : Nat) : Int)) = false := by rw [hc]; simp
          clear hc
          go_wp2
          go_quiet (fail)
          go_wp2
          go_roundw
          case rel => exact ⟨k + 1, m + nq, by omega, by omega, by go_num, by first | rfl | simp, HN⟩
          case measure => simp [intOf]; omega
        · have HN : Hid (abL (N3.bs a) (N3.bs b) = decide ((((b[k]'lb).toNat : Nat) : Int) < (((a[k]'la).toNat : Nat) : Int))) := by
            have h := HC.out
            rw [bs_drop a k la, bs_drop b k lb, abL_ne hc] at h
            show _ = _
            rw [← h]
            simp
          have hcb : ((((a[k]'la).toNat : Nat) : Int) != (((b[k]'lb).toNat : Nat) : Int)) = true := by
            have : (a[k]'la).toNat ≠ (b[k]'lb).toNat := fun e => hc (UInt8.toNat_inj.1 e)
            simp; omega
          clear hc
          go_wp2
          go_quiet (fail)
          go_wp2
          go_quiet (fail)
          go_wp2
          go_ret
          exact ⟨by rw [HN.out]; simp, _, by rw [World.drewN_drewN, World.drewN_drewN]⟩
      · have lbi : decide ((k : Int) < (b.size : Int)) = false := by simp; omega
        have HN : Hid (abL (N3.bs a) (N3.bs b) = decide ((b.size : Int) < (a.size : Int))) := by
          have h := HC.out
          rw [show (N3.bs b).drop k = [] from List.drop_eq_nil_of_le (by rw [← N3.size_bs]; omega), abL_right] at h
          show _ = _
          rw [← h]
          have e1 : ((N3.bs a).drop k).length = a.size - k := by rw [List.length_drop, ← N3.size_bs]
          rw [e1]
          have : (0 < a.size - k) ↔ ((b.size : Int) < (a.size : Int)) := by omega
          simp only [this]
        go_wp2
        go_ret
        exact ⟨by rw [HN.out]; simp, m, rfl⟩
    · have lai : decide ((k : Int) < (a.size : Int)) = false := by simp; omega
      have HN : Hid (abL (N3.bs a) (N3.bs b) = decide ((b.size : Int) < (a.size : Int))) := by
        have h := HC.out
        rw [show (N3.bs a).drop k = [] from List.drop_eq_nil_of_le (by rw [← N3.size_bs]; omega), abL_left] at h
        show _ = _
        rw [← h]
        have : ¬ ((b.size : Int) < (a.size : Int)) := by omega
        simp [this]
      go_wp2
      go_ret
      exact ⟨by rw [HN.out]; simp, m, rfl⟩
theorem nameB_size {s : ByteArray} (h : nameB s = true) : s.size ≤ 23 := by
  by_cases hs : s.size ≤ 23
  · exact hs
  · have hc := N3.check_bad (s := s) (Or.inr (Or.inl (by omega)))
    unfold N3.checkN at hc
    unfold nameB at h
    rw [h] at hc
    simp at hc
theorem abL_not (a b : ByteArray) : abL (N3.bs a) (N3.bs b) = !notAbove a b := by
  unfold abL notAbove
  rw [ByteArray.toList_eq, ByteArray.toList_eq]
end Go.Proofs.YtdkcplndplhblaaGreatDoor
