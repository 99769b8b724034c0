/- ahead, number, above and bounded by their contracts. -/
import Derived.Test.YtlcjkbhcbiggcaaGreatDoorPk01
import Derived.Laws.BitsAllLaws
import Derived.Test.YtlcjkbhcbiggcaaGreatDoorPk04
import Derived.Recover
import Derived.Orders
import Derived.WalkKit
import Derived.Lib.AppendZeros
import Derived.Lib.ConvBytes
namespace Go.Proofs.YtlcjkbhcbiggcaaGreatDoor
open Go.RowKit
set_option maxRecDepth 100000

/-- What the reader gives up with. -/
abbrev gaveUp (a : Addr) : Ending := .panicked [{ v := .iface 319 (.pointer (some a)), recovered := false }]

set_option maxHeartbeats 400000 in
theorem ahead_ok (rb g n cap pl k : Nat) (code : Int) (bs : List Int) (w : World) (hR : Rdr w rb g n cap pl code bs) (hk : pl + k ≤ n) (hk0 : 0 < k) (hn : cap ≤ 200000000000000) :
    Calls Tryz.prog 267 #[.pointer (some ⟨rb, 0, none⟩), .int .u64 k] w fun e w' => e = .returned (.slice (some ⟨g, pl, none⟩) k (cap - pl)) ∧ ∃ m, w' = w.drewN m := by
  have c0 := hR.c0
  have c1 := hR.c1
  have hnc := hR.lies.hle
  have h1 : (pl : Int) + k ≤ n := by omega
  have h2 : (n : Int) ≤ cap := by omega
  have h3 : (cap : Int) ≤ 200000000000000 := by omega
  have h4 : ¬ cap = pl := by omega
  clear hR
  go_enter Tryz.func267, Tryz.ntmps267
  go_wp2
  go_quiet (fail)
  go_wp2
  go_ret
  exact ⟨rfl, _, rfl⟩

set_option maxHeartbeats 400000 in
theorem ahead_short (rb g n cap pl k : Nat) (code : Int) (bs : List Int) (er : Nat → Addr) (w : World) (hR : Rdr w rb g n cap pl code bs) (hE : Errs w er) (hp : pl ≤ n) (hk : n < pl + k) (hkb : k ≤ 4611686018427387904) (hn : cap ≤ 200000000000000) :
    Calls Tryz.prog 267 #[.pointer (some ⟨rb, 0, none⟩), .int .u64 k] w fun e w' => e = gaveUp (er 4) ∧ ∃ m, w' = w.drewN m := by
  have c0 := hR.c0
  have c1 := hR.c1
  have e4 := hE.c4
  have hnc := hR.lies.hle
  have h1 : (n : Int) < (pl : Int) + k := by omega
  have h2 : (n : Int) ≤ cap := by omega
  have h3 : (cap : Int) ≤ 200000000000000 := by omega
  have h5 : (pl : Int) ≤ n := by omega
  have h6 : n - pl < k := by omega
  clear hR hE
  by_cases h4 : cap = pl
  · obtain rfl : n = pl := by omega
    subst h4
    go_enter Tryz.func267, Tryz.ntmps267
    go_wp2
    go_quiet (fail)
    go_wp2
    exact ⟨rfl, rfl, _, rfl⟩
  · go_enter Tryz.func267, Tryz.ntmps267
    go_wp2
    go_quiet (fail)
    go_wp2
    exact ⟨rfl, rfl, _, rfl⟩

/-- The number that bytes are, the greatest digit first. -/
def val (l : List Int) : Int := l.foldl (fun x c => x * 256 + c) 0
theorem val_snoc (l : List Int) (c : Int) : val (l ++ [c]) = val l * 256 + c := by simp [val]

theorem val_bd (l : List Int) (h : ∀ x ∈ l, 0 ≤ x ∧ x ≤ 255) : 0 ≤ val l ∧ val l < 256 ^ l.length := by
  suffices H : ∀ (l : List Int) (a : Int) (k : Nat), (∀ x ∈ l, 0 ≤ x ∧ x ≤ 255) → 0 ≤ a → a < 256 ^ k → 0 ≤ l.foldl (fun x c => x * 256 + c) a ∧ l.foldl (fun x c => x * 256 + c) a < 256 ^ (k + l.length) by
    have := H l 0 0 h (by omega) (by omega)
    simpa [val] using this
  intro l
  induction l with
  | nil => intro a k _ h0 h1; exact ⟨h0, h1⟩
  | cons c l ih =>
    intro a k hl h0 h1
    have hc := hl c (by simp)
    have := ih (a * 256 + c) (k + 1) (fun x hx => hl x (by simp [hx])) (by omega) (by rw [Int.pow_succ]; omega)
    simp only [List.foldl_cons, List.length_cons]
    rw [show k + (l.length + 1) = k + 1 + l.length by omega]
    exact this

theorem Rdr.byte {w : World} {rb g n cap : Nat} {pl code : Int} {bs : List Int} (h : Rdr w rb g n cap pl code bs) (t : Nat) (ht : t < n) : w.cell? ⟨g, t, none⟩ = some (.int .u8 (bs.getD t 0)) := by
  obtain ⟨b, o, he, hc⟩ := h.lies.at (by omega)
  cases he
  simpa using hc t ht

theorem or_byte (V C : Int) (h1 : 0 ≤ V) (h2 : V < 72057594037927936) (h3 : 0 ≤ C) (h4 : C ≤ 255) : bits .or .u64 (V * 256) C = V * 256 + C := by
  rw [u64_or (V * 256) C (by omega) (by omega) h3 (by omega)]
  obtain ⟨v, rfl⟩ := Int.eq_ofNat_of_zero_le h1
  obtain ⟨c, rfl⟩ := Int.eq_ofNat_of_zero_le h3
  have e : v <<< 8 + c = v <<< 8 ||| c := Nat.shiftLeft_add_eq_or_of_lt (by omega) v
  rw [Nat.shiftLeft_eq] at e
  have e1 : ((v : Int) * 256).toNat = v * 2 ^ 8 := by omega
  have e2 : ((c : Int)).toNat = c := by omega
  rw [e1, e2, ← e]
  omega

set_option maxHeartbeats 400000 in
theorem number_ok (rb g n cap pl k : Nat) (code : Int) (bs : List Int) (w : World) (hR : Rdr w rb g n cap pl code bs) (hk : pl + k ≤ n) (hk0 : 0 < k) (hk8 : k ≤ 8) (hn : cap ≤ 200000000000000) (hby : ∀ x ∈ bs, 0 ≤ x ∧ x ≤ 255) :
    Calls Tryz.prog 263 #[.pointer (some ⟨rb, 0, none⟩), .int .u64 k] w fun e w' => e = .returned (.int .u64 (val ((bs.drop pl).take k))) ∧ ∃ m, w' = w.drewN m := by
  have hki : (k : Int) ≤ 8 := by omega
  have hnc := hR.lies.hle
  go_enter Tryz.func263, Tryz.ntmps263
  go_wp2_with (go_at_call 267; refine (ahead_ok rb g n cap pl k code bs _ hR hk hk0 hn).mono ?_; rintro e w1 ⟨rfl, m0, hw1⟩; subst w1)
  go_loop [5, 12] (fun x i => ∃ j : Nat, j ≤ k ∧ i = .int .i64 j ∧ x = .int .u64 (val ((bs.drop pl).take j))) (fun _ i => k - (intOf i).toNat)
  case atStart => exact ⟨0, Nat.zero_le _, rfl, rfl⟩
  case round =>
    obtain ⟨j, hj, rfl, rfl⟩ := hrel
    have hl : ((bs.drop pl).take j).length = j := by simp [hR.lies.hlen]; omega
    by_cases hlt : j < k
    · have hb := val_bd ((bs.drop pl).take j) (fun x hx => hby x (List.mem_of_mem_drop (List.mem_of_mem_take hx)))
      rw [hl] at hb
      have hb2 : (256 : Int) ^ j ≤ 256 ^ 7 := by
        have := Nat.pow_le_pow_right (show 0 < 256 by decide) (show j ≤ 7 by omega)
        exact_mod_cast this
      have hc := hR.byte (pl + j) (by omega)
      have hmem : bs.getD (pl + j) 0 ∈ bs := by
        have : pl + j < bs.length := by rw [hR.lies.hlen]; omega
        simp [List.getD, this]
      have hcb := hby _ hmem
      have hstep : (bs.drop pl).take (j + 1) = (bs.drop pl).take j ++ [bs.getD (pl + j) 0] := by
        have : pl + j < bs.length := by rw [hR.lies.hlen]; omega
        rw [List.take_succ_eq_append_getElem (by simp; omega)]
        simp [List.getD, this]
      have HS : Hid (val ((bs.drop pl).take (j + 1)) = val ((bs.drop pl).take j) * 256 + bs.getD (pl + j) 0) := by rw [hstep]; exact val_snoc _ _
      clear hstep hmem
      generalize hV : val ((bs.drop pl).take j) = V at *
      generalize hC : bs.getD (pl + j) 0 = C at *
      have hV0 : 0 ≤ V := hb.1
      have hV1 : V < 72057594037927936 := by have : (256 : Int) ^ 7 = 72057594037927936 := by decide
                                             omega
      have hC0 := hcb.1
      have hC1 := hcb.2
      clear hV hC hb hb2 hcb hR hby hl
      go_wp2
      go_round
      case rel => exact ⟨j + 1, by omega, by go_num, by rw [HS.out, or_byte V C hV0 hV1 hC0 hC1]⟩
      case measure => simp [intOf]; omega
    · have hjk : (k : Int) ≤ j := by omega
      obtain ⟨V, hV⟩ : ∃ V, V = val ((bs.drop pl).take j) := ⟨_, rfl⟩
      have HV : Hid (V = val ((bs.drop pl).take k)) := by obtain rfl : j = k := by omega
                                                          exact hV
      rw [← hV]
      clear hV hR hby hl
      go_wp2
      go_ret
      exact ⟨by rw [← HV.out]; rfl, m0, rfl⟩

set_option maxHeartbeats 400000 in
theorem number_short (rb g n cap pl k : Nat) (code : Int) (bs : List Int) (er : Nat → Addr) (w : World) (hR : Rdr w rb g n cap pl code bs) (hE : Errs w er) (hp : pl ≤ n) (hk : n < pl + k) (hkb : k ≤ 4611686018427387904) (hn : cap ≤ 200000000000000) :
    Calls Tryz.prog 263 #[.pointer (some ⟨rb, 0, none⟩), .int .u64 k] w fun e w' => e = gaveUp (er 4) ∧ ∃ m, w' = w.drewN m := by
  go_enter Tryz.func263, Tryz.ntmps263
  go_wp2_with (go_at_call 267; refine (ahead_short rb g n cap pl k code bs er _ hR hE hp hk hkb hn).mono ?_; rintro e w1 ⟨rfl, m0, hw1⟩; subst w1)
  exact ⟨rfl, rfl, m0, rfl⟩

set_option maxHeartbeats 400000 in
theorem above_neg (X M : Int) (w : World) (hM : M < 0) :
    Calls Tryz.prog 266 #[.int .u64 X, .int .i64 M] w fun e w' => e = .returned (.bool true) ∧ w' = w := by
  go_enter Tryz.func266, Tryz.ntmps266
  go_wp2
  go_ret
  exact ⟨rfl, rfl⟩

set_option maxHeartbeats 400000 in
theorem above_yes (X M : Int) (w : World) (hM : 0 ≤ M) (hM1 : M ≤ 9223372036854775807) (h : M < X) :
    Calls Tryz.prog 266 #[.int .u64 X, .int .i64 M] w fun e w' => e = .returned (.bool true) ∧ w' = w := by
  go_enter Tryz.func266, Tryz.ntmps266
  go_wp2
  go_ret
  exact ⟨rfl, rfl⟩

set_option maxHeartbeats 400000 in
theorem above_no (X M : Int) (w : World) (hM : 0 ≤ M) (hM1 : M ≤ 9223372036854775807) (h : X ≤ M) :
    Calls Tryz.prog 266 #[.int .u64 X, .int .i64 M] w fun e w' => e = .returned (.bool false) ∧ w' = w := by
  go_enter Tryz.func266, Tryz.ntmps266
  go_wp2
  go_ret
  refine ⟨?_, rfl⟩
  show Ending.returned (.bool (decide (M < 0) || decide (M < X))) = _
  rw [decide_eq_false (by omega), decide_eq_false (by omega)]; rfl
end Go.Proofs.YtlcjkbhcbiggcaaGreatDoor

/- bounded by its contracts. -/
namespace Go.Proofs.YtlcjkbhcbiggcaaGreatDoor
open Go.RowKit
set_option maxRecDepth 100000

set_option maxHeartbeats 400000 in
theorem bounded_short (rb g n cap pl k : Nat) (M code : Int) (bs : List Int) (er : Nat → Addr) (w : World) (hR : Rdr w rb g n cap pl code bs) (hE : Errs w er) (hp : pl ≤ n) (hk : n < pl + k) (hk8 : k ≤ 8) (hn : cap ≤ 200000000000000) :
    Calls Tryz.prog 260 #[.pointer (some ⟨rb, 0, none⟩), .int .i64 k, .int .i64 M] w fun e w' => e = gaveUp (er 4) ∧ ∃ m, w' = w.drewN m := by
  have hki : (k : Int) ≤ 8 := by omega
  go_enter Tryz.func260, Tryz.ntmps260
  go_wp2_with (go_at_call 263; refine (number_short rb g n cap pl k code bs er _ hR hE hp hk (by omega) hn).mono ?_; rintro e w1 ⟨rfl, m0, hw1⟩; subst w1)
  exact ⟨rfl, rfl, m0, rfl⟩

set_option maxHeartbeats 400000 in
theorem bounded_wide (rb g n cap pl k : Nat) (M code : Int) (bs : List Int) (er : Nat → Addr) (w : World) (hR : Rdr w rb g n cap pl code bs) (hE : Errs w er) (hk : pl + k ≤ n) (hk0 : 0 < k) (hk8 : k ≤ 8) (hn : cap ≤ 200000000000000) (hby : ∀ x ∈ bs, 0 ≤ x ∧ x ≤ 255)
    (hM1 : M ≤ 9223372036854775807) (hw : M < 0 ∨ M < val ((bs.drop pl).take k)) :
    Calls Tryz.prog 260 #[.pointer (some ⟨rb, 0, none⟩), .int .i64 k, .int .i64 M] w fun e w' => e = gaveUp (er 1) ∧ ∃ m, w' = w.drewN m := by
  have hki : (k : Int) ≤ 8 := by omega
  have e1 := hE.c1
  have HA : ∀ w : World, Calls Tryz.prog 266 #[.int .u64 (val ((bs.drop pl).take k)), .int .i64 M] w fun e w' => e = .returned (.bool true) ∧ w' = w := by
    intro w
    rcases Int.lt_or_le M 0 with h | h
    · exact above_neg _ M w h
    · exact above_yes _ M w h hM1 (by omega)
  go_enter Tryz.func260, Tryz.ntmps260
  go_wp2_with (first
    | (go_at_call 263; refine (number_ok rb g n cap pl k code bs _ hR hk hk0 hk8 hn hby).mono ?_; rintro e w1 ⟨rfl, m0, hw1⟩; subst w1)
    | (go_at_call 266; refine (HA _).mono ?_; rintro e w2 ⟨rfl, hw2⟩; subst w2))
  exact ⟨rfl, rfl, m0, rfl⟩

set_option maxHeartbeats 400000 in
theorem bounded_ok (rb g n cap pl k : Nat) (M code : Int) (bs : List Int) (w : World) (hR : Rdr w rb g n cap pl code bs) (hk : pl + k ≤ n) (hk0 : 0 < k) (hk8 : k ≤ 8) (hn : cap ≤ 200000000000000) (hby : ∀ x ∈ bs, 0 ≤ x ∧ x ≤ 255)
    (hM1 : M ≤ 9223372036854775807) (hM0 : 0 ≤ M) (hv : val ((bs.drop pl).take k) ≤ M) :
    Calls Tryz.prog 260 #[.pointer (some ⟨rb, 0, none⟩), .int .i64 k, .int .i64 M] w fun e w' => e = .returned (.int .i64 (val ((bs.drop pl).take k))) ∧ ∃ m, w' = (w.drewN m).setCell ⟨rb, 1, none⟩ (.int .i64 ((pl + k : Nat) : Int)) := by
  have hki : (k : Int) ≤ 8 := by omega
  have hnc := hR.lies.hle
  have hpi : (pl : Int) ≤ 200000000000000 := by omega
  have c1 := hR.c1
  have f1 := hR.f 1
  have hv0 := (val_bd ((bs.drop pl).take k) (fun x hx => hby x (List.mem_of_mem_drop (List.mem_of_mem_take hx)))).1
  have hN := number_ok rb g n cap pl k code bs w hR hk hk0 hk8 hn hby
  generalize hV : val ((bs.drop pl).take k) = V at *
  clear hV hR hby
  go_enter Tryz.func260, Tryz.ntmps260
  go_wp2_with (first
    | (go_at_call 263; refine hN.mono ?_; rintro e w1 ⟨rfl, m0, hw1⟩; subst w1)
    | (go_at_call 266; refine (above_no V M _ hM0 hM1 hv).mono ?_; rintro e w2 ⟨rfl, hw2⟩; subst w2))
  go_ret
  exact ⟨rfl, m0, by simp⟩
end Go.Proofs.YtlcjkbhcbiggcaaGreatDoor

/- codeOf and keep by their contracts: which number each of the package's errors is kept as. -/
namespace Go.Proofs.YtlcjkbhcbiggcaaGreatDoor
open Go.RowKit Go.Extern.Stop Go.Stop Go.Extern
set_option maxRecDepth 100000

/-- The number that the error of variable i is kept as. -/
def codeNo : Nat → Int
  | 4 => 11 | 1 => 12 | 0 => 13 | 2 => 14 | _ => 15

/-- errors.Is of two of the package's errors. -/
theorem is_errs (er : Nat → Addr) (i j : Nat) (w : World) (hE : Errs w er) (hi : i < 5) (hj : j < 5) :
    Calls Tryz.prog 268 #[.iface 319 (.pointer (some (er i))), .iface 319 (.pointer (some (er j)))] w fun e w' => e = .returned (.bool (i == j)) ∧ w' = w := by
  by_cases h : i = j
  · subst h
    refine (is_same (er i) w).mono ?_
    rintro e w' ⟨rfl, rfl⟩
    simp
  · obtain ⟨c1, t1, r1⟩ := hE.row i hi
    obtain ⟨c2, t2, r2⟩ := hE.row j hj
    refine (is_other (er i) (er j) c1 c2 t1 t2 w (hE.ne i j hi hj h) r1 r2).mono ?_
    rintro e w' ⟨rfl, rfl⟩
    simp [h]

set_option maxHeartbeats 400000 in
theorem codeOf_0 (er : Nat → Addr) (w : World) (hE : Errs w er) :
    Calls Tryz.prog 265 #[.iface 319 (.pointer (some (er 0)))] w fun e w' => e = .returned (.int .i64 (codeNo 0)) ∧ w' = w := by
  have e4 := hE.c4
  have e1 := hE.c1
  have e0 := hE.c0
  go_enter Tryz.func265, Tryz.ntmps265
  go_wp2_with (go_at_call 268; refine (is_errs er _ _ _ hE (by decide) (by decide)).mono ?_; rintro e w1 ⟨he, hw1⟩; simp at he; subst he; subst w1)
  go_ret
  exact ⟨rfl, rfl⟩

set_option maxHeartbeats 400000 in
theorem codeOf_1 (er : Nat → Addr) (w : World) (hE : Errs w er) :
    Calls Tryz.prog 265 #[.iface 319 (.pointer (some (er 1)))] w fun e w' => e = .returned (.int .i64 (codeNo 1)) ∧ w' = w := by
  have e4 := hE.c4
  have e1 := hE.c1
  go_enter Tryz.func265, Tryz.ntmps265
  go_wp2_with (go_at_call 268; refine (is_errs er _ _ _ hE (by decide) (by decide)).mono ?_; rintro e w1 ⟨he, hw1⟩; simp at he; subst he; subst w1)
  go_ret
  exact ⟨rfl, rfl⟩

set_option maxHeartbeats 400000 in
theorem codeOf_2 (er : Nat → Addr) (w : World) (hE : Errs w er) :
    Calls Tryz.prog 265 #[.iface 319 (.pointer (some (er 2)))] w fun e w' => e = .returned (.int .i64 (codeNo 2)) ∧ w' = w := by
  have e4 := hE.c4
  have e1 := hE.c1
  have e0 := hE.c0
  have e2 := hE.c2
  go_enter Tryz.func265, Tryz.ntmps265
  go_wp2_with (go_at_call 268; refine (is_errs er _ _ _ hE (by decide) (by decide)).mono ?_; rintro e w1 ⟨he, hw1⟩; simp at he; subst he; subst w1)
  go_ret
  exact ⟨rfl, rfl⟩

set_option maxHeartbeats 400000 in
theorem codeOf_3 (er : Nat → Addr) (w : World) (hE : Errs w er) :
    Calls Tryz.prog 265 #[.iface 319 (.pointer (some (er 3)))] w fun e w' => e = .returned (.int .i64 (codeNo 3)) ∧ w' = w := by
  have e4 := hE.c4
  have e1 := hE.c1
  have e0 := hE.c0
  have e2 := hE.c2
  have e3 := hE.c3
  go_enter Tryz.func265, Tryz.ntmps265
  go_wp2_with (go_at_call 268; refine (is_errs er _ _ _ hE (by decide) (by decide)).mono ?_; rintro e w1 ⟨he, hw1⟩; simp at he; subst he; subst w1)
  go_ret
  exact ⟨rfl, rfl⟩

set_option maxHeartbeats 400000 in
theorem codeOf_4 (er : Nat → Addr) (w : World) (hE : Errs w er) :
    Calls Tryz.prog 265 #[.iface 319 (.pointer (some (er 4)))] w fun e w' => e = .returned (.int .i64 (codeNo 4)) ∧ w' = w := by
  have e4 := hE.c4
  go_enter Tryz.func265, Tryz.ntmps265
  go_wp2_with (go_at_call 268; refine (is_errs er _ _ _ hE (by decide) (by decide)).mono ?_; rintro e w1 ⟨he, hw1⟩; simp at he; subst he; subst w1)
  go_ret
  exact ⟨rfl, rfl⟩

theorem codeOf_any (i : Nat) (hi : i < 5) (er : Nat → Addr) (w : World) (hE : Errs w er) :
    Calls Tryz.prog 265 #[.iface 319 (.pointer (some (er i)))] w fun e w' => e = .returned (.int .i64 (codeNo i)) ∧ w' = w := by
  match i, hi with
  | 0, _ => exact codeOf_0 er w hE
  | 1, _ => exact codeOf_1 er w hE
  | 2, _ => exact codeOf_2 er w hE
  | 3, _ => exact codeOf_3 er w hE
  | 4, _ => exact codeOf_4 er w hE

theorem codeNo_ne (i : Nat) : (codeNo i != 0) = true := by
  unfold codeNo; split <;> rfl
theorem asErr (v : Value) (xT : TypeId) (w : World) : (Instr.typeAssert (.iface 319 v) xT 125 true).run Tryz.prog w = .ok (.tuple #[.iface 319 v, .bool true]) w := run_typeAssert_hasB Tryz.underlying125 (by kernel_rfl) v xT w

set_option maxHeartbeats 400000 in
theorem keep_nil (p : Value) (w : World) :
    Calls Tryz.prog 259 #[p, .nilIface] w fun e w' => e = .returned (.tuple #[]) ∧ w' = w := by
  have hnil : ∀ w : World, (binOp BinOp.eql 20 .nilIface .nilIface).run Tryz.prog w = .ok (.bool true) w := fun _ => by kernel_rfl
  go_enter Tryz.func259, Tryz.ntmps259
  go_wp2
  first | go_end0 | refine bodyPost_ret (results_none rfl _ _ _) rfl ?_
  exact ⟨rfl, rfl⟩

set_option maxHeartbeats 400000 in
theorem keep_err (i : Nat) (hi : i < 5) (rb g n cap : Nat) (pl code : Int) (bs : List Int) (er : Nat → Addr) (w : World) (hR : Rdr w rb g n cap pl code bs) (hE : Errs w er) :
    Calls Tryz.prog 259 #[.pointer (some ⟨rb, 0, none⟩), .iface 319 (.pointer (some (er i)))] w fun e w' => e = .returned (.tuple #[]) ∧ w' = w.setCell ⟨rb, 2, none⟩ (.int .i64 (codeNo i)) := by
  have c2 := hR.c2
  have f2 := hR.f 2
  have hne := codeNo_ne i
  have hA := asErr
  have hnil : ∀ (v : Value) (w : World), (binOp BinOp.eql 20 (.iface 319 v) .nilIface).run Tryz.prog w = .ok (.bool false) w := fun _ _ => by kernel_rfl
  go_enter Tryz.func259, Tryz.ntmps259
  go_wp2_with (go_at_call 265; refine (codeOf_any i hi er _ hE).mono ?_; rintro e w1 ⟨rfl, hw1⟩; subst w1)
  first | go_end0 | refine bodyPost_ret (results_none rfl _ _ _) rfl ?_
  exact ⟨rfl, rfl⟩
end Go.Proofs.YtlcjkbhcbiggcaaGreatDoor

/- A law of no program: a region that draws its order inside a deferred function that recovers: walked in each order that may be drawn. -/
namespace Go.Proofs.YtlcjkbhcbiggcaaGreatDoor
open Go.RowKit

/-- All orders that a region may draw. -/
def regOrders (md : Region.Mode) (ops : Array Oper) : Nat → Array Bool → List (List Nat)
  | 0, _ => [[]]
  | f + 1, listed =>
    match Region.ready md ops listed with
    | [] => [[]]
    | r :: rs => (r :: rs).flatMap fun i => (regOrders md ops f (listed.setIfInBounds i true)).map (i :: ·)

theorem reg_mem (md : Region.Mode) (ops : Array Oper) : ∀ (f t : Nat) (listed : Array Bool), Region.linearise.go md ops f t listed [] ∈ regOrders md ops f listed := by
  intro f
  induction f with
  | zero => intro t listed; simp [Region.linearise.go, regOrders]
  | succ f ih =>
    intro t listed
    simp only [Region.linearise.go]
    change (match (Region.ready md ops listed)[t % (Region.ready md ops listed).length]? with
      | some i => Region.linearise.go md ops f (t / (Region.ready md ops listed).length) (listed.setIfInBounds i true) [i]
      | none => [].reverse) ∈ _
    simp only [regOrders]
    cases hr : Region.ready md ops listed with
    | nil => simp
    | cons r rs =>
      have hlt : t % (r :: rs).length < (r :: rs).length := Nat.mod_lt _ (by simp)
      rw [List.getElem?_eq_getElem hlt]
      simp only []
      rw [linearise_go_acc]
      simp only [List.reverse_singleton, List.singleton_append]
      refine List.mem_flatMap.2 ⟨_, List.getElem_mem hlt, List.mem_map.2 ⟨_, ih _ _, rfl⟩⟩

theorem wpS_region_draw {P : Program} {Q : Exit → Act → List Frame → World → Prop} {a : Act} {cs : List Frame} {w : World} {id : Nat} {ops : Array Oper} (L : List (List Nat)) (hm : P.follows .mixedOrders = true) (hL : regOrders .any ops ops.size (Array.replicate ops.size false) = L)
    (h : ∀ l ∈ L, wpOpsS P ops Q l a cs w.drew) : (Code.region id ops true).wpS P Q a cs w := by
  subst hL
  intro b k hb hr
  have h' : ∀ t, wpOpsS P ops Q (Region.schedule (P.follows .mixedOrders) ops t) a cs { w with drawn := w.drawn + 1 } := fun t => by
    simp only [Region.schedule, hm, Bool.true_or, if_true]
    exact h _ (reg_mem _ _ _ _ _)
  obtain ⟨e, a', cs', w', q, r⟩ := wp_opsS _ a cs _ (h' _) b k hb hr
  exact ⟨e, a', cs', w', q, .of_steps (.one step_region_draw) r⟩
end Go.Proofs.YtlcjkbhcbiggcaaGreatDoor

/- The deferred functions of the reading calls by their contracts. -/
namespace Go.Proofs.YtlcjkbhcbiggcaaGreatDoor
open Go.RowKit
set_option maxRecDepth 100000

theorem Rdr.drew {w : World} {rb g n cap : Nat} {pl code : Int} {bs : List Int} (h : Rdr w rb g n cap pl code bs) : Rdr w.drew rb g n cap pl code bs := h.drewN 1
theorem Errs.drew {w : World} {er : Nat → Addr} (h : Errs w er) : Errs w.drew er := h.drewN 1

set_option maxHeartbeats 400000 in
theorem catch39_idle (p : Addr) (rb : Nat) (w : World) (hc : w.cell? p = some (.pointer (some ⟨rb, 0, none⟩))) :
    CallsD Tryz.prog 261 #[.pointer (some p)] .returning w fun e u' w' => e = .returned (.tuple #[]) ∧ u' = .returning ∧ w' = w.drew := by
  refine callsD_of_wpS Tryz.func261 rfl fun c₀ cs hu => ?_
  refine wpS_region_draw [[0, 1, 2], [1, 0, 2]] (by kernel_rfl) (by kernel_rfl) ?_
  intro l hl
  simp only [List.mem_cons, List.not_mem_nil, or_false] at hl
  rcases hl with rfl | rfl
  all_goals
    simp [wpOpsS, go_sem, recoverD, hu, hc, Tryz.ntmps261]
    refine (keep_nil _ _).mono ?_
    rintro e w' ⟨rfl, rfl⟩
    cases c₀
    simp_all [bodyPostS, results, Tryz.results261]

set_option maxHeartbeats 400000 in
theorem catch39_err (i : Nat) (hi : i < 5) (p : Addr) (rb g n cap : Nat) (pl code : Int) (bs : List Int) (er : Nat → Addr) (older : List PanicEntry) (w : World) (hc : w.cell? p = some (.pointer (some ⟨rb, 0, none⟩))) (hR : Rdr w rb g n cap pl code bs) (hE : Errs w er) :
    CallsD Tryz.prog 261 #[.pointer (some p)] (.panicking ({ v := .iface 319 (.pointer (some (er i))), recovered := false } :: older)) w fun e u' w' =>
      e = .returned (.tuple #[]) ∧ u' = .panicking ({ v := .iface 319 (.pointer (some (er i))), recovered := true } :: older) ∧ w' = (w.setCell ⟨rb, 2, none⟩ (.int .i64 (codeNo i))).drew := by
  refine callsD_of_wpS Tryz.func261 rfl fun c₀ cs hu => ?_
  refine wpS_region_draw [[0, 1, 2], [1, 0, 2]] (by kernel_rfl) (by kernel_rfl) ?_
  intro l hl
  simp only [List.mem_cons, List.not_mem_nil, or_false] at hl
  rcases hl with rfl | rfl
  all_goals
    simp [wpOpsS, go_sem, recoverD, hu, hc, Tryz.ntmps261]
    refine (keep_err i hi rb g n cap pl code bs er _ hR.drew hE.drew).mono ?_
    rintro e w' ⟨rfl, rfl⟩
    cases c₀
    simp_all [bodyPostS, results, Tryz.results261, World.setCell_drew]

set_option maxHeartbeats 400000 in
theorem catch42_idle (p : Addr) (rb : Nat) (w : World) (hc : w.cell? p = some (.pointer (some ⟨rb, 0, none⟩))) :
    CallsD Tryz.prog 258 #[.pointer (some p)] .returning w fun e u' w' => e = .returned (.tuple #[]) ∧ u' = .returning ∧ w' = w.drew := by
  refine callsD_of_wpS Tryz.func258 rfl fun c₀ cs hu => ?_
  refine wpS_region_draw [[0, 1, 2], [1, 0, 2]] (by kernel_rfl) (by kernel_rfl) ?_
  intro l hl
  simp only [List.mem_cons, List.not_mem_nil, or_false] at hl
  rcases hl with rfl | rfl
  all_goals
    simp [wpOpsS, go_sem, recoverD, hu, hc, Tryz.ntmps258]
    refine (keep_nil _ _).mono ?_
    rintro e w' ⟨rfl, rfl⟩
    cases c₀
    simp_all [bodyPostS, results, Tryz.results258]

set_option maxHeartbeats 400000 in
theorem catch42_err (i : Nat) (hi : i < 5) (p : Addr) (rb g n cap : Nat) (pl code : Int) (bs : List Int) (er : Nat → Addr) (older : List PanicEntry) (w : World) (hc : w.cell? p = some (.pointer (some ⟨rb, 0, none⟩))) (hR : Rdr w rb g n cap pl code bs) (hE : Errs w er) :
    CallsD Tryz.prog 258 #[.pointer (some p)] (.panicking ({ v := .iface 319 (.pointer (some (er i))), recovered := false } :: older)) w fun e u' w' =>
      e = .returned (.tuple #[]) ∧ u' = .panicking ({ v := .iface 319 (.pointer (some (er i))), recovered := true } :: older) ∧ w' = (w.setCell ⟨rb, 2, none⟩ (.int .i64 (codeNo i))).drew := by
  refine callsD_of_wpS Tryz.func258 rfl fun c₀ cs hu => ?_
  refine wpS_region_draw [[0, 1, 2], [1, 0, 2]] (by kernel_rfl) (by kernel_rfl) ?_
  intro l hl
  simp only [List.mem_cons, List.not_mem_nil, or_false] at hl
  rcases hl with rfl | rfl
  all_goals
    simp [wpOpsS, go_sem, recoverD, hu, hc, Tryz.ntmps258]
    refine (keep_err i hi rb g n cap pl code bs er _ hR.drew hE.drew).mono ?_
    rintro e w' ⟨rfl, rfl⟩
    cases c₀
    simp_all [bodyPostS, results, Tryz.results258, World.setCell_drew]

set_option maxHeartbeats 400000 in
theorem catch43_idle (p : Addr) (rb : Nat) (w : World) (hc : w.cell? p = some (.pointer (some ⟨rb, 0, none⟩))) :
    CallsD Tryz.prog 262 #[.pointer (some p)] .returning w fun e u' w' => e = .returned (.tuple #[]) ∧ u' = .returning ∧ w' = w.drew := by
  refine callsD_of_wpS Tryz.func262 rfl fun c₀ cs hu => ?_
  refine wpS_region_draw [[0, 1, 2], [1, 0, 2]] (by kernel_rfl) (by kernel_rfl) ?_
  intro l hl
  simp only [List.mem_cons, List.not_mem_nil, or_false] at hl
  rcases hl with rfl | rfl
  all_goals
    simp [wpOpsS, go_sem, recoverD, hu, hc, Tryz.ntmps262]
    refine (keep_nil _ _).mono ?_
    rintro e w' ⟨rfl, rfl⟩
    cases c₀
    simp_all [bodyPostS, results, Tryz.results262]

set_option maxHeartbeats 400000 in
theorem catch43_err (i : Nat) (hi : i < 5) (p : Addr) (rb g n cap : Nat) (pl code : Int) (bs : List Int) (er : Nat → Addr) (older : List PanicEntry) (w : World) (hc : w.cell? p = some (.pointer (some ⟨rb, 0, none⟩))) (hR : Rdr w rb g n cap pl code bs) (hE : Errs w er) :
    CallsD Tryz.prog 262 #[.pointer (some p)] (.panicking ({ v := .iface 319 (.pointer (some (er i))), recovered := false } :: older)) w fun e u' w' =>
      e = .returned (.tuple #[]) ∧ u' = .panicking ({ v := .iface 319 (.pointer (some (er i))), recovered := true } :: older) ∧ w' = (w.setCell ⟨rb, 2, none⟩ (.int .i64 (codeNo i))).drew := by
  refine callsD_of_wpS Tryz.func262 rfl fun c₀ cs hu => ?_
  refine wpS_region_draw [[0, 1, 2], [1, 0, 2]] (by kernel_rfl) (by kernel_rfl) ?_
  intro l hl
  simp only [List.mem_cons, List.not_mem_nil, or_false] at hl
  rcases hl with rfl | rfl
  all_goals
    simp [wpOpsS, go_sem, recoverD, hu, hc, Tryz.ntmps262]
    refine (keep_err i hi rb g n cap pl code bs er _ hR.drew hE.drew).mono ?_
    rintro e w' ⟨rfl, rfl⟩
    cases c₀
    simp_all [bodyPostS, results, Tryz.results262, World.setCell_drew]
end Go.Proofs.YtlcjkbhcbiggcaaGreatDoor

/- The faces U32 and U64 by their contracts. -/
namespace Go.Proofs.YtlcjkbhcbiggcaaGreatDoor
open Go.RowKit
set_option maxRecDepth 100000

theorem Rdr.alloc {w : World} {rb g n cap : Nat} {pl code : Int} {bs : List Int} (h : Rdr w rb g n cap pl code bs) (o : Obj) : Rdr (w.alloc o) rb g n cap pl code bs :=
  h.kept (World.grownBy_alloc w o none) (by simp) (by simp)
theorem Errs.alloc {w : World} {er : Nat → Addr} (h : Errs w er) (o : Obj) : Errs (w.alloc o) er := h.grown (World.grownBy_alloc w o none) (fun _ _ => ⟨by simp, by simp⟩)
theorem Rdr.lt {w : World} {rb g n cap : Nat} {pl code : Int} {bs : List Int} (h : Rdr w rb g n cap pl code bs) : rb < w.heap.size := lt_of_block h.blk
theorem grown_setCell (w : World) (b o : Nat) (v : Value) : w.grownBy (w.setCell ⟨b, o, none⟩ v) (some b) :=
  ⟨rfl, rfl, rfl, by simp [World.setCell], fun k _ hk => Below.heap_setCell _ _ _ _ (fun e => hk (by rw [e]))⟩
theorem grown_drewN (w : World) (m : Nat) (row : Option Nat) : w.grownBy (w.drewN m) row := ⟨rfl, rfl, rfl, Nat.le_refl _, fun _ _ _ => rfl⟩
theorem grown_drew (w : World) (row : Option Nat) : w.grownBy w.drew row := ⟨rfl, rfl, rfl, Nat.le_refl _, fun _ _ _ => rfl⟩
theorem Rdr.set1 {w : World} {rb g n cap : Nat} {pl code : Int} {bs : List Int} (h : Rdr w rb g n cap pl code bs) (q : Int) : Rdr (w.setCell ⟨rb, 1, none⟩ (.int .i64 q)) rb g n cap q code bs :=
  ⟨by rw [heap_setCell_same _ _ _ _ _ _ h.blk]; rfl, h.lies.grown (grown_setCell _ _ _ _) (fun ad had => by obtain rfl := Option.some.inj had; simpa using h.apart), h.apart, by simpa [World.setCell] using h.glt⟩
theorem Rdr.set2 {w : World} {rb g n cap : Nat} {pl code : Int} {bs : List Int} (h : Rdr w rb g n cap pl code bs) (q : Int) : Rdr (w.setCell ⟨rb, 2, none⟩ (.int .i64 q)) rb g n cap pl q bs :=
  ⟨by rw [heap_setCell_same _ _ _ _ _ _ h.blk]; rfl, h.lies.grown (grown_setCell _ _ _ _) (fun ad had => by obtain rfl := Option.some.inj had; simpa using h.apart), h.apart, by simpa [World.setCell] using h.glt⟩

theorem ne_block {b c o q : Nat} (h : b ≠ c) : (⟨b, o, none⟩ : Addr) ≠ ⟨c, q, none⟩ := fun e => h (congrArg Addr.block e)

/-- What a call at a reader leaves: its place and error; nothing else that was there has turned. -/
def WentR (w w' : World) (rb g n cap : Nat) (pl code : Int) (bs : List Int) : Prop := Rdr w' rb g n cap pl code bs ∧ w.grownBy w' (some rb)

abbrev boxed (w : World) (rb : Nat) : World := w.alloc (.cells #[.pointer (some ⟨rb, 0, none⟩)] 283)
theorem boxed_grown (w : World) (rb : Nat) (row : Option Nat) : w.grownBy (boxed w rb) row := World.grownBy_alloc _ _ _

theorem went_held {w : World} {rb g n cap : Nat} {pl code : Int} {bs : List Int} (h : Rdr w rb g n cap pl code bs) : WentR w (boxed w rb) rb g n cap pl code bs := ⟨h.alloc _, boxed_grown _ _ _⟩
theorem went_err {w : World} {rb g n cap : Nat} {pl code : Int} {bs : List Int} (h : Rdr w rb g n cap pl code bs) (m : Nat) (q : Int) : WentR w ((((boxed w rb).drewN m).setCell ⟨rb, 2, none⟩ (.int .i64 q)).drew) rb g n cap pl q bs :=
  ⟨(((h.alloc _).drewN m).set2 q).drew, grown_trans (grown_trans (grown_trans (boxed_grown _ _ _) (grown_drewN _ m _)) (grown_setCell _ _ _ _)) (grown_drew _ _)⟩
theorem went_ok {w : World} {rb g n cap : Nat} {pl code : Int} {bs : List Int} (h : Rdr w rb g n cap pl code bs) (m : Nat) (q : Int) : WentR w ((((boxed w rb).drewN m).setCell ⟨rb, 1, none⟩ (.int .i64 q)).drew) rb g n cap q code bs :=
  ⟨(((h.alloc _).drewN m).set1 q).drew, grown_trans (grown_trans (grown_trans (boxed_grown _ _ _) (grown_drewN _ m _)) (grown_setCell _ _ _ _)) (grown_drew _ _)⟩

/-- What U32 and U64 answer, and where they leave the reader. -/
def rdNum (k n : Nat) (bs : List Int) (pl : Nat) (code M : Int) : Int × Nat × Int :=
  if code ≠ 0 then (0, pl, code) else if n < pl + k then (0, pl, 11) else if M < 0 ∨ M < val ((bs.drop pl).take k) then (0, pl, 12) else (val ((bs.drop pl).take k), pl + k, 0)

set_option maxHeartbeats 400000 in
theorem u32_held (rb g n cap : Nat) (pl code M : Int) (bs : List Int) (w : World) (hR : Rdr w rb g n cap pl code bs) (hc : (code != 0) = true) :
    Calls Tryz.prog 234 #[.pointer (some ⟨rb, 0, none⟩), .int .i64 M] w fun e w' => e = .returned (.int .i64 0) ∧ WentR w w' rb g n cap pl code bs := by
  have c2 := (hR.alloc (.cells #[.pointer (some ⟨rb, 0, none⟩)] 283)).c2
  have fin := went_held hR
  clear hR
  go_enter_defers Tryz.func234, Tryz.ntmps234
  go_wp2
  exact ⟨_, results_tmp rfl _ _ _, rfl, fin⟩

set_option maxHeartbeats 400000 in
theorem u32_short (rb g n cap pl : Nat) (M : Int) (bs : List Int) (er : Nat → Addr) (w : World) (hR : Rdr w rb g n cap pl 0 bs) (hE : Errs w er) (hp : pl ≤ n) (hk : n < pl + 4) (hn : cap ≤ 200000000000000) :
    Calls Tryz.prog 234 #[.pointer (some ⟨rb, 0, none⟩), .int .i64 M] w fun e w' => e = .returned (.int .i64 0) ∧ WentR w w' rb g n cap pl 11 bs := by
  have hmf : ∀ (fn : Fn) (first cap : Array Value) (w : World), (Instr.makeFunc fn first cap).run Tryz.prog w = .ok (.func fn first cap) w := fun _ _ _ _ => rfl
  have hR0 := hR.alloc (.cells #[.pointer (some ⟨rb, 0, none⟩)] 283)
  have hE0 := hE.alloc (.cells #[.pointer (some ⟨rb, 0, none⟩)] 283)
  have c2 := hR0.c2
  go_enter_defers Tryz.func234, Tryz.ntmps234
  go_wp2_with (go_at_call 260; refine (bounded_short rb g n cap pl 4 M 0 bs er _ hR0 hE0 hp hk (by omega) hn).mono ?_; rintro e w1 ⟨rfl, m0, hw1⟩; subst w1)
  refine leaves_cons (f := 261) (args := #[.pointer (some ⟨w.heap.size, 0, none⟩)]) (by simp) (by simp [go_sem]) ?_
  refine (catch39_err 4 (by omega) ⟨w.heap.size, 0, none⟩ rb g n cap pl 0 bs er [] _ ?_ (hR0.drewN m0) (hE0.drewN m0)).mono ?_
  · simp [go_sem]
  rintro e u' w'' ⟨rfl, rfl, rfl⟩
  exact ⟨_, results_tmp rfl _ _ _, rfl, went_err hR m0 11⟩

set_option maxHeartbeats 400000 in
theorem u32_wide (rb g n cap pl : Nat) (M : Int) (bs : List Int) (er : Nat → Addr) (w : World) (hR : Rdr w rb g n cap pl 0 bs) (hE : Errs w er) (hk : pl + 4 ≤ n) (hn : cap ≤ 200000000000000) (hby : ∀ x ∈ bs, 0 ≤ x ∧ x ≤ 255)
    (hM1 : M ≤ 9223372036854775807) (hw : M < 0 ∨ M < val ((bs.drop pl).take 4)) :
    Calls Tryz.prog 234 #[.pointer (some ⟨rb, 0, none⟩), .int .i64 M] w fun e w' => e = .returned (.int .i64 0) ∧ WentR w w' rb g n cap pl 12 bs := by
  have hmf : ∀ (fn : Fn) (first cap : Array Value) (w : World), (Instr.makeFunc fn first cap).run Tryz.prog w = .ok (.func fn first cap) w := fun _ _ _ _ => rfl
  have hR0 := hR.alloc (.cells #[.pointer (some ⟨rb, 0, none⟩)] 283)
  have hE0 := hE.alloc (.cells #[.pointer (some ⟨rb, 0, none⟩)] 283)
  have c2 := hR0.c2
  have HW : Hid (M < 0 ∨ M < val ((bs.drop pl).take 4)) := hw
  clear hw
  go_enter_defers Tryz.func234, Tryz.ntmps234
  go_wp2_with (go_at_call 260; refine (bounded_wide rb g n cap pl 4 M 0 bs er _ hR0 hE0 hk (by omega) (by omega) hn hby hM1 HW.out).mono ?_; rintro e w1 ⟨rfl, m0, hw1⟩; subst w1)
  refine leaves_cons (f := 261) (args := #[.pointer (some ⟨w.heap.size, 0, none⟩)]) (by simp) (by simp [go_sem]) ?_
  refine (catch39_err 1 (by omega) ⟨w.heap.size, 0, none⟩ rb g n cap pl 0 bs er [] _ ?_ (hR0.drewN m0) (hE0.drewN m0)).mono ?_
  · simp [go_sem]
  rintro e u' w'' ⟨rfl, rfl, rfl⟩
  exact ⟨_, results_tmp rfl _ _ _, rfl, went_err hR m0 12⟩

set_option maxHeartbeats 400000 in
theorem u32_ok (rb g n cap pl : Nat) (M : Int) (bs : List Int) (w : World) (hR : Rdr w rb g n cap pl 0 bs) (hk : pl + 4 ≤ n) (hn : cap ≤ 200000000000000) (hby : ∀ x ∈ bs, 0 ≤ x ∧ x ≤ 255)
    (hM1 : M ≤ 9223372036854775807) (hM0 : 0 ≤ M) (hv : val ((bs.drop pl).take 4) ≤ M) :
    Calls Tryz.prog 234 #[.pointer (some ⟨rb, 0, none⟩), .int .i64 M] w fun e w' => e = .returned (.int .i64 (val ((bs.drop pl).take 4))) ∧ WentR w w' rb g n cap (pl + 4 : Nat) 0 bs := by
  have hmf : ∀ (fn : Fn) (first cap : Array Value) (w : World), (Instr.makeFunc fn first cap).run Tryz.prog w = .ok (.func fn first cap) w := fun _ _ _ _ => rfl
  have hR0 := hR.alloc (.cells #[.pointer (some ⟨rb, 0, none⟩)] 283)
  have c2 := hR0.c2
  have hB := bounded_ok rb g n cap pl 4 M 0 bs _ hR0 hk (by omega) (by omega) hn hby hM1 hM0 hv
  generalize hV : val ((bs.drop pl).take 4) = V at *
  clear hV hby hv
  go_enter_defers Tryz.func234, Tryz.ntmps234
  go_wp2_with (go_at_call 260; refine hB.mono ?_; rintro e w1 ⟨rfl, m0, hw1⟩; subst w1)
  refine leaves_cons (f := 261) (args := #[.pointer (some ⟨w.heap.size, 0, none⟩)]) (by simp) (by simp [go_sem]) ?_
  refine (catch39_idle ⟨w.heap.size, 0, none⟩ rb _ ?_).mono ?_
  · have hlt := hR.lt
    exact (World.cell?_setCell_other _ _ _ _ (ne_block (Nat.ne_of_lt hlt))).trans (by simp [go_sem])
  rintro e u' w'' ⟨rfl, rfl, rfl⟩
  exact ⟨_, results_tmp rfl _ _ _, rfl, went_ok hR m0 _⟩

theorem u32_any (rb g n cap pl : Nat) (code M : Int) (bs : List Int) (er : Nat → Addr) (w : World) (hR : Rdr w rb g n cap pl code bs) (hE : Errs w er) (hp : pl ≤ n) (hn : cap ≤ 200000000000000) (hby : ∀ x ∈ bs, 0 ≤ x ∧ x ≤ 255) (hM1 : M ≤ 9223372036854775807) :
    Calls Tryz.prog 234 #[.pointer (some ⟨rb, 0, none⟩), .int .i64 M] w fun e w' => e = .returned (.int .i64 (rdNum 4 n bs pl code M).1) ∧ WentR w w' rb g n cap (rdNum 4 n bs pl code M).2.1 (rdNum 4 n bs pl code M).2.2 bs := by
  unfold rdNum
  by_cases hc : code ≠ 0
  · simp only [if_pos hc]
    exact u32_held rb g n cap pl code M bs w hR (by simpa using hc)
  · have hc0 : code = 0 := by omega
    subst hc0
    simp only [if_neg hc]
    by_cases hk : n < pl + 4
    · simp only [if_pos hk]
      exact u32_short rb g n cap pl M bs er w hR hE hp hk hn
    · simp only [if_neg hk]
      by_cases hv : M < 0 ∨ M < val ((bs.drop pl).take 4)
      · simp only [if_pos hv]
        exact u32_wide rb g n cap pl M bs er w hR hE (by omega) hn hby hM1 hv
      · simp only [if_neg hv]
        exact u32_ok rb g n cap pl M bs w hR (by omega) hn hby hM1 (by omega) (by omega)

set_option maxHeartbeats 400000 in
theorem u64_held (rb g n cap : Nat) (pl code M : Int) (bs : List Int) (w : World) (hR : Rdr w rb g n cap pl code bs) (hc : (code != 0) = true) :
    Calls Tryz.prog 233 #[.pointer (some ⟨rb, 0, none⟩), .int .i64 M] w fun e w' => e = .returned (.int .i64 0) ∧ WentR w w' rb g n cap pl code bs := by
  have c2 := (hR.alloc (.cells #[.pointer (some ⟨rb, 0, none⟩)] 283)).c2
  have fin := went_held hR
  clear hR
  go_enter_defers Tryz.func233, Tryz.ntmps233
  go_wp2
  exact ⟨_, results_tmp rfl _ _ _, rfl, fin⟩

set_option maxHeartbeats 400000 in
theorem u64_short (rb g n cap pl : Nat) (M : Int) (bs : List Int) (er : Nat → Addr) (w : World) (hR : Rdr w rb g n cap pl 0 bs) (hE : Errs w er) (hp : pl ≤ n) (hk : n < pl + 8) (hn : cap ≤ 200000000000000) :
    Calls Tryz.prog 233 #[.pointer (some ⟨rb, 0, none⟩), .int .i64 M] w fun e w' => e = .returned (.int .i64 0) ∧ WentR w w' rb g n cap pl 11 bs := by
  have hmf : ∀ (fn : Fn) (first cap : Array Value) (w : World), (Instr.makeFunc fn first cap).run Tryz.prog w = .ok (.func fn first cap) w := fun _ _ _ _ => rfl
  have hR0 := hR.alloc (.cells #[.pointer (some ⟨rb, 0, none⟩)] 283)
  have hE0 := hE.alloc (.cells #[.pointer (some ⟨rb, 0, none⟩)] 283)
  have c2 := hR0.c2
  go_enter_defers Tryz.func233, Tryz.ntmps233
  go_wp2_with (go_at_call 260; refine (bounded_short rb g n cap pl 8 M 0 bs er _ hR0 hE0 hp hk (by omega) hn).mono ?_; rintro e w1 ⟨rfl, m0, hw1⟩; subst w1)
  refine leaves_cons (f := 258) (args := #[.pointer (some ⟨w.heap.size, 0, none⟩)]) (by simp) (by simp [go_sem]) ?_
  refine (catch42_err 4 (by omega) ⟨w.heap.size, 0, none⟩ rb g n cap pl 0 bs er [] _ ?_ (hR0.drewN m0) (hE0.drewN m0)).mono ?_
  · simp [go_sem]
  rintro e u' w'' ⟨rfl, rfl, rfl⟩
  exact ⟨_, results_tmp rfl _ _ _, rfl, went_err hR m0 11⟩

set_option maxHeartbeats 400000 in
theorem u64_wide (rb g n cap pl : Nat) (M : Int) (bs : List Int) (er : Nat → Addr) (w : World) (hR : Rdr w rb g n cap pl 0 bs) (hE : Errs w er) (hk : pl + 8 ≤ n) (hn : cap ≤ 200000000000000) (hby : ∀ x ∈ bs, 0 ≤ x ∧ x ≤ 255)
    (hM1 : M ≤ 9223372036854775807) (hw : M < 0 ∨ M < val ((bs.drop pl).take 8)) :
    Calls Tryz.prog 233 #[.pointer (some ⟨rb, 0, none⟩), .int .i64 M] w fun e w' => e = .returned (.int .i64 0) ∧ WentR w w' rb g n cap pl 12 bs := by
  have hmf : ∀ (fn : Fn) (first cap : Array Value) (w : World), (Instr.makeFunc fn first cap).run Tryz.prog w = .ok (.func fn first cap) w := fun _ _ _ _ => rfl
  have hR0 := hR.alloc (.cells #[.pointer (some ⟨rb, 0, none⟩)] 283)
  have hE0 := hE.alloc (.cells #[.pointer (some ⟨rb, 0, none⟩)] 283)
  have c2 := hR0.c2
  have HW : Hid (M < 0 ∨ M < val ((bs.drop pl).take 8)) := hw
  clear hw
  go_enter_defers Tryz.func233, Tryz.ntmps233
  go_wp2_with (go_at_call 260; refine (bounded_wide rb g n cap pl 8 M 0 bs er _ hR0 hE0 hk (by omega) (by omega) hn hby hM1 HW.out).mono ?_; rintro e w1 ⟨rfl, m0, hw1⟩; subst w1)
  refine leaves_cons (f := 258) (args := #[.pointer (some ⟨w.heap.size, 0, none⟩)]) (by simp) (by simp [go_sem]) ?_
  refine (catch42_err 1 (by omega) ⟨w.heap.size, 0, none⟩ rb g n cap pl 0 bs er [] _ ?_ (hR0.drewN m0) (hE0.drewN m0)).mono ?_
  · simp [go_sem]
  rintro e u' w'' ⟨rfl, rfl, rfl⟩
  exact ⟨_, results_tmp rfl _ _ _, rfl, went_err hR m0 12⟩

set_option maxHeartbeats 400000 in
theorem u64_ok (rb g n cap pl : Nat) (M : Int) (bs : List Int) (w : World) (hR : Rdr w rb g n cap pl 0 bs) (hk : pl + 8 ≤ n) (hn : cap ≤ 200000000000000) (hby : ∀ x ∈ bs, 0 ≤ x ∧ x ≤ 255)
    (hM1 : M ≤ 9223372036854775807) (hM0 : 0 ≤ M) (hv : val ((bs.drop pl).take 8) ≤ M) :
    Calls Tryz.prog 233 #[.pointer (some ⟨rb, 0, none⟩), .int .i64 M] w fun e w' => e = .returned (.int .i64 (val ((bs.drop pl).take 8))) ∧ WentR w w' rb g n cap (pl + 8 : Nat) 0 bs := by
  have hmf : ∀ (fn : Fn) (first cap : Array Value) (w : World), (Instr.makeFunc fn first cap).run Tryz.prog w = .ok (.func fn first cap) w := fun _ _ _ _ => rfl
  have hR0 := hR.alloc (.cells #[.pointer (some ⟨rb, 0, none⟩)] 283)
  have c2 := hR0.c2
  have hB := bounded_ok rb g n cap pl 8 M 0 bs _ hR0 hk (by omega) (by omega) hn hby hM1 hM0 hv
  generalize hV : val ((bs.drop pl).take 8) = V at *
  clear hV hby hv
  go_enter_defers Tryz.func233, Tryz.ntmps233
  go_wp2_with (go_at_call 260; refine hB.mono ?_; rintro e w1 ⟨rfl, m0, hw1⟩; subst w1)
  refine leaves_cons (f := 258) (args := #[.pointer (some ⟨w.heap.size, 0, none⟩)]) (by simp) (by simp [go_sem]) ?_
  refine (catch42_idle ⟨w.heap.size, 0, none⟩ rb _ ?_).mono ?_
  · have hlt := hR.lt
    exact (World.cell?_setCell_other _ _ _ _ (ne_block (Nat.ne_of_lt hlt))).trans (by simp [go_sem])
  rintro e u' w'' ⟨rfl, rfl, rfl⟩
  exact ⟨_, results_tmp rfl _ _ _, rfl, went_ok hR m0 _⟩

theorem u64_any (rb g n cap pl : Nat) (code M : Int) (bs : List Int) (er : Nat → Addr) (w : World) (hR : Rdr w rb g n cap pl code bs) (hE : Errs w er) (hp : pl ≤ n) (hn : cap ≤ 200000000000000) (hby : ∀ x ∈ bs, 0 ≤ x ∧ x ≤ 255) (hM1 : M ≤ 9223372036854775807) :
    Calls Tryz.prog 233 #[.pointer (some ⟨rb, 0, none⟩), .int .i64 M] w fun e w' => e = .returned (.int .i64 (rdNum 8 n bs pl code M).1) ∧ WentR w w' rb g n cap (rdNum 8 n bs pl code M).2.1 (rdNum 8 n bs pl code M).2.2 bs := by
  unfold rdNum
  by_cases hc : code ≠ 0
  · simp only [if_pos hc]
    exact u64_held rb g n cap pl code M bs w hR (by simpa using hc)
  · have hc0 : code = 0 := by omega
    subst hc0
    simp only [if_neg hc]
    by_cases hk : n < pl + 8
    · simp only [if_pos hk]
      exact u64_short rb g n cap pl M bs er w hR hE hp hk hn
    · simp only [if_neg hk]
      by_cases hv : M < 0 ∨ M < val ((bs.drop pl).take 8)
      · simp only [if_pos hv]
        exact u64_wide rb g n cap pl M bs er w hR hE (by omega) hn hby hM1 hv
      · simp only [if_neg hv]
        exact u64_ok rb g n cap pl M bs w hR (by omega) hn hby hM1 (by omega) (by omega)
end Go.Proofs.YtlcjkbhcbiggcaaGreatDoor

/- roomBehind and appendNumber by their contracts. -/
namespace Go.Proofs.YtlcjkbhcbiggcaaGreatDoor
open Go.RowKit
set_option maxRecDepth 100000

set_option maxHeartbeats 400000 in
theorem room_any (ao : Option Addr) (len cap n : Nat) (bs : List Int) (w : World) (hbd : len + n ≤ 140737488355328) (hL : Lies w ao len cap bs) :
    Calls Tryz.prog 176 #[.slice ao len cap, .int .i64 n] w fun e w' => e = .returned (.slice (some ⟨w.heap.size, 0, none⟩) len (len + n)) ∧
      w'.ownsRow w.heap.size 5 1 (.slice (some ⟨w.heap.size, 0, none⟩) len (len + n)) len (bs.map (Value.int .u8)) ∧ Below w.heap.size w w' := by
  obtain ⟨i0, hi, hz0, hz1, hz2⟩ := info_parts Tryz.info5
  go_enter Tryz.func176, Tryz.ntmps176
  go_wp2_with (first
    | (at_make; refine wpList_make_own _ rfl _ _ 39 rfl w.heap.size 5 i0 (.int .u8 0) 1 Tryz.underlying39 hi hz0 hz1 _ _ _ (len + n) rfl rfl (by omega) (by rw [hz2]; omega) (by unfold maxLen; omega) (Nat.le_refl _) ?_; intro w0 hown0 hgrow0)
    | (at_builtin; refine wpList_append_fits_any _ rfl (.tmp 9) (.tmp 10) 39 rfl w.heap.size 5 i0 1 Tryz.underlying39 hi hz1 w.heap.size 0 (len + n) _ rfl hown0 _ len _ (bs.map (Value.int .u8)) rfl (by simp [hL.hlen]) hL.hnone (fun ad had t u hu => hgrow0.cell (hL.hcells ad had t u hu) (by simp)) (ints_oneCell _ _) (by omega) ?_; intro w1 hown1 hgrow1))
  go_ret
  simp only [Nat.zero_add, List.nil_append] at hown1 ⊢
  exact ⟨rfl, hown1, ((Below.refl _ _).grown hgrow0 (Nat.le_refl _) (fun k h => by cases h)).grown hgrow1 hgrow0.size (fun k hk => by cases hk; exact Nat.le_refl _)⟩

set_option maxHeartbeats 400000 in
theorem num_any (g n cap sz base : Nat) (X : Int) (bs : List Int) (w : World) (_hX0 : 0 ≤ X) (_hX1 : X ≤ 18446744073709551615) (hsz : sz ≤ 8)
    (hown : w.ownsRow base 5 1 (.slice (some ⟨g, 0, none⟩) n cap) n (bs.map (Value.int .u8))) (hfit : n + sz ≤ cap) :
    Calls Tryz.prog 175 #[.slice (some ⟨g, 0, none⟩) n cap, .int .u64 X, .int .i64 sz] w fun e w' => e = .returned (.slice (some ⟨g, 0, none⟩) (n + sz) cap) ∧
      w'.ownsRow base 5 1 (.slice (some ⟨g, 0, none⟩) (n + sz) cap) (n + sz) ((bs ++ be X sz).map (Value.int .u8)) ∧ w.grownBy w' (some g) := by
  obtain ⟨i0, hi, hz0, hz1, hz2⟩ := info_parts Tryz.info5
  go_enter Tryz.func175, Tryz.ntmps175
  go_wp2
  go_loopw [0, 7] (fun v i wr => ∃ (m : Nat) (pre : List Int), m ≤ sz ∧ i = .int .i64 ((m : Int) - 1) ∧ v = .slice (some ⟨g, 0, none⟩) (n + (sz - m)) cap ∧
      wr.ownsRow base 5 1 (.slice (some ⟨g, 0, none⟩) (n + (sz - m)) cap) (n + (sz - m)) ((bs ++ pre).map (Value.int .u8)) ∧ pre ++ be X m = be X sz ∧ w.grownBy wr (some g))
    (fun _ i _ => (intOf i + 1).toNat)
  case atStart => exact ⟨sz, [], Nat.le_refl _, by go_num, by simp, by simpa using hown, rfl, World.grownBy.refl _ _⟩
  case round =>
    obtain ⟨m, pre, hm, rfl, rfl, hownr, hpre, hgr⟩ := hrel
    by_cases hm0 : 0 < m
    · obtain ⟨m, rfl⟩ : ∃ k, m = k + 1 := ⟨m - 1, by omega⟩
      have HP : Hid (pre ++ be X (m + 1) = be X sz) := hpre
      clear hpre
      have h1 : (0 : Int) ≤ m := by omega
      have h2 : (m : Int) < 8 := by omega
      go_wp2_with (at_builtin; refine wpList_append_fits _ rfl (.tmp 14) (.tmp 20) 39 rfl base 5 i0 1 Tryz.underlying39 hi hz1 g (n + (sz - (m + 1))) cap _ rfl (hownr.alloc _) ⟨wr.heap.size, 0, none⟩ 1 1 [.int .u8 (X / 2 ^ (8 * m) % 256)] rfl rfl (cell_one_new _ _ _) (by intro u hu; simp at hu; subst hu; rfl) (by omega) ?_; intro w1 hown1 hgrow1)
      have e0 : n + (sz - (m + 1)) + 1 = n + (sz - m) := by omega
      go_roundw
      case rel =>
        refine ⟨m, pre ++ [X / 2 ^ (8 * m) % 256], by omega, by go_num, by rw [← e0], ?_, ?_, grown_trans (grown_trans hgr (World.grownBy_alloc _ _ _)) hgrow1⟩
        · rw [← e0]; simpa using hown1
        · rw [List.append_assoc]; exact HP.out
      case measure => simp [intOf]
    · have h1 : (m : Int) ≤ 0 := by omega
      have HP : Hid (pre ++ be X m = be X sz) := hpre
      clear hpre
      go_wp2
      go_ret
      obtain rfl : m = 0 := by omega
      have hpre := HP.out
      have e0 : n + (sz - 0) = n + sz := by omega
      simp only [be, List.append_nil] at hpre
      rw [← hpre]
      exact ⟨by rw [← e0]; rfl, by rw [e0] at hownr; exact hownr, hgr⟩

/-- What a Put answers: a new row of bytes, all of them from 'base' on; nothing old has turned. -/
def Made (w : World) (e : Ending) (w' : World) (n : Nat) (bs : List Int) : Prop :=
  ∃ g cap, e = .returned (.slice (some ⟨g, 0, none⟩) n cap) ∧ w'.ownsRow w.heap.size 5 1 (.slice (some ⟨g, 0, none⟩) n cap) n (bs.map (Value.int .u8)) ∧ Below w.heap.size w w'

set_option maxHeartbeats 400000 in
theorem putSum_any (ao : Option Addr) (len cap : Nat) (X : Int) (bs : List Int) (w : World) (hX0 : 0 ≤ X) (hX1 : X ≤ 18446744073709551615) (hbd : len + 8 ≤ 140737488355328) (hL : Lies w ao len cap bs) :
    Calls Tryz.prog 123 #[.slice ao len cap, .int .u64 X] w fun e w' => Made w e w' (len + 8) (bs ++ be X 8) := by
  go_enter Tryz.func123, Tryz.ntmps123
  go_wp2_with (first
    | (go_at_call 176; refine (room_any ao len cap 8 bs _ hbd hL).mono ?_; rintro e w1 ⟨rfl, hown1, hb1⟩)
    | (go_at_call 175; refine (num_any w.heap.size len (len + 8) 8 w.heap.size X bs _ hX0 hX1 (by omega) hown1 (by omega)).mono ?_; rintro e w2 ⟨rfl, hown2, hg2⟩))
  go_ret
  exact ⟨w.heap.size, len + 8, rfl, hown2, hb1.grown hg2 hb1.size (fun k hk => by cases hk; exact Nat.le_refl _)⟩
end Go.Proofs.YtlcjkbhcbiggcaaGreatDoor

/- Put32 and Put64 by their contracts. -/
namespace Go.Proofs.YtlcjkbhcbiggcaaGreatDoor
open Go.RowKit
set_option maxRecDepth 100000

theorem u64_wrap_bd (X : Int) : 0 ≤ IntKind.u64.wrap X ∧ IntKind.u64.wrap X ≤ 18446744073709551615 := by
  simp [IntKind.wrap, IntKind.bits, IntKind.signed]; omega

set_option maxHeartbeats 400000 in
theorem put32_any (ao : Option Addr) (len cap : Nat) (X : Int) (bs : List Int) (w : World) (hbd : len + 4 ≤ 140737488355328) (hL : Lies w ao len cap bs) :
    Calls Tryz.prog 120 #[.slice ao len cap, .int .i64 X] w fun e w' => Made w e w' (len + 4) (bs ++ be (IntKind.u64.wrap X) 4) := by
  go_enter Tryz.func120, Tryz.ntmps120
  go_wp2_with (first
    | (go_at_call 176; refine (room_any ao len cap 4 bs _ hbd hL).mono ?_; rintro e w1 ⟨rfl, hown1, hb1⟩)
    | (go_at_call 175; refine (num_any w.heap.size len (len + 4) 4 w.heap.size (IntKind.u64.wrap X) bs _ (u64_wrap_bd X).1 (u64_wrap_bd X).2 (by omega) hown1 (by omega)).mono ?_; rintro e w2 ⟨rfl, hown2, hg2⟩))
  go_ret
  exact ⟨w.heap.size, len + 4, rfl, hown2, hb1.grown hg2 hb1.size (fun k hk => by cases hk; exact Nat.le_refl _)⟩

set_option maxHeartbeats 400000 in
theorem put64_any (ao : Option Addr) (len cap : Nat) (X : Int) (bs : List Int) (w : World) (hbd : len + 8 ≤ 140737488355328) (hL : Lies w ao len cap bs) :
    Calls Tryz.prog 121 #[.slice ao len cap, .int .i64 X] w fun e w' => Made w e w' (len + 8) (bs ++ be (IntKind.u64.wrap X) 8) := by
  go_enter Tryz.func121, Tryz.ntmps121
  go_wp2_with (go_at_call 123; refine (putSum_any ao len cap (IntKind.u64.wrap X) bs _ (u64_wrap_bd X).1 (u64_wrap_bd X).2 hbd hL).mono ?_; rintro e w1 ⟨g, cap1, rfl, hown, hb⟩)
  go_ret
  exact ⟨g, cap1, rfl, hown, hb⟩
end Go.Proofs.YtlcjkbhcbiggcaaGreatDoor

/- A law of no program: append(s, make([]T, k)...), T a one-cell type, where s is the call's own and has room for k more. -/
namespace Go.Proofs.YtlcjkbhcbiggcaaGreatDoor
open Go.RowKit

theorem zeroCells_one (z : Value) (k : Nat) : (Builtin.zeroCells #[z] k).toList = List.replicate k z := by
  simp only [Builtin.zeroCells, Array.toList_map, Array.toList_range, List.size_toArray, List.length_cons, List.length_nil, Nat.zero_add, Nat.mul_one]
  apply List.ext_getElem <;> simp [Nat.mod_one]

theorem run_append_room_zeros {P : Program} (w : World) (t tn ty e : TypeId) (i : TypeInfo) (z : Value) (kq kn : IntKind) (ht : P.underlying t = some (.slice e)) (htn : P.underlying tn = some (.int kn)) (hi : P.info? e = some i) (hz : i.zero = some z) (hzc : z.cells = #[z]) (hone : z.oneCell' = true)
    (hs : i.size = 1) (g n cap : Nat) (cur : Array Value) (hg : w.heap[g]? = some (.cells cur e (0, 0))) (k : Nat) (hroom : n + k ≤ cap) (hfit : n + k ≤ cur.size) (hk : k ≤ 1048576) (hb : i.bytes ≤ 1048576) :
    (Builtin.append_ #[t, tn] ty #[.slice (some ⟨g, 0, none⟩) n cap, .int kq k]).run P w =
      .ok (.slice (some ⟨g, 0, none⟩) (n + k) cap) (w.setRow g (cur.toList.take n ++ List.replicate k z ++ cur.toList.drop (n + k)).toArray) := by
  have hw : IntKind.i64.wrap (k : Int) = k := by rw [IntKind.wrap_i64]; omega
  have hneg : ¬ ((k : Int) < 0) := by omega
  have hm : k * i.bytes ≤ 1048576 * 1048576 := Nat.mul_le_mul hk hb
  have h48i : ¬ (281474976710656 < (k : Int) * (i.bytes : Int)) := by
    rw [← Int.natCast_mul]
    omega
  have hst := run_storeCells_at P g n e (List.replicate k z) 0 cur w hg (by simpa using hfit) (by intro u hu; rw [List.eq_of_mem_replicate hu]; exact hone)
  simp only [Nat.add_zero, List.length_replicate] at hst
  by_cases h0 : k = 0
  · subst h0
    simp only [List.replicate_zero] at hst
    have hroom' : n ≤ cap := hroom
    simp at hst hw
    simp [Builtin.append_, run_underlying ht, run_underlying htn, sizeOf, typeInfo, hi, asInt, asIntOf, hw, hroom', Addr.add_lit, hs, hst]
  · simp [Builtin.append_, run_underlying ht, run_underlying htn, sizeOf, typeInfo, zeroValue, hi, hz, hzc, asInt, asIntOf, hw, hneg, h48i, hs, h0, hroom, Addr.add_lit, zeroCells_one, hst]

theorem wpList_append_fits_zeros {P : Program} (w : World) {ops : Array Oper} {rest : List Oper} {o : Oper} {a : Act} {Q : Exit → Act → World → Prop} (hgd : o.guard = none) (s x : Operand) (t tn : TypeId)
    (ho : o.op = .call { callee := .builtin .append, args := #[s, x], argTypes := #[t, tn] }) (base : Nat) (e : TypeId) (i : TypeInfo) (z : Value) (kq kn : IntKind) (ht : P.underlying t = some (.slice e)) (htn : P.underlying tn = some (.int kn)) (hi : P.info? e = some i) (hz : i.zero = some z) (hzc : z.cells = #[z]) (hone : z.oneCell' = true)
    (hs : i.size = 1) (hb : i.bytes ≤ 1048576) (g n cap k : Nat) (C : Int) (xs : List Value) (hsl : a.eval s = .slice (some ⟨g, 0, none⟩) n cap) (hown : w.ownsRow base e 1 (.slice (some ⟨g, 0, none⟩) n cap) n xs) (hx : a.eval x = .int kq C) (hC : C = (k : Int)) (hk : k ≤ 1048576) (hroom : n + k ≤ cap)
    (h : ∀ w', w'.ownsRow base e 1 (.slice (some ⟨g, 0, none⟩) (n + k) cap) (n + k) (xs ++ List.replicate k z) → w.grownBy w' (some g) → wpList P ops Q rest (a.put o.dst (.slice (some ⟨g, 0, none⟩) (n + k) cap)) w') : wpList P ops Q (o :: rest) a w := by
  subst hC
  have hxl : xs.length = n := by simpa using hown.1
  have hlen : (xs ++ List.replicate k z).length = (n + k) * 1 := by rw [List.length_append, hxl, List.length_replicate, Nat.mul_one]
  rcases hown.2 with ⟨hv, _⟩ | ⟨g', cap', cur, hv, hbg, hg, hnc, hcm, hcs, htake⟩
  · cases hv
  · cases hv
    have hcs' : cur.size = cap := by simpa using hcs
    have hr := run_append_room_zeros (P := P) w t tn o.type e i z kq kn ht htn hi hz hzc hone hs g n cap cur hg k hroom (by omega) hk hb
    refine Lib.wpList_append_run w hgd s x t tn ho _ _ hsl hx _ _ hr (h _ ⟨hlen, .inr ⟨g, cap, _, rfl, hbg, setRow_heap w g cur _ e _ hg, hroom, hcm, ?_, ?_⟩⟩ ⟨rfl, rfl, rfl, by simp, fun k _ hk => setRow_other w g k _ (fun e => hk (by simp [e]))⟩)
    · simp only [List.size_toArray, List.length_append, List.length_take, List.length_drop, Array.length_toList, List.length_replicate]
      omega
    · have ht' : cur.toList.take n = xs := by simpa using htake
      rw [ht', ← hlen]
      exact List.take_left
end Go.Proofs.YtlcjkbhcbiggcaaGreatDoor

/- PutBytes and PutText by their contracts. -/
namespace Go.Proofs.YtlcjkbhcbiggcaaGreatDoor
open Go.RowKit
set_option maxRecDepth 100000

/-- The numbers of a text's bytes. -/
def nums (s : ByteArray) : List Int := s.data.toList.map (fun b => (b.toNat : Int))
theorem nums_length (s : ByteArray) : (nums s).length = s.size := by simp [nums]

theorem bytesWorld_below (w : World) (s : ByteArray) : Below w.heap.size w (Lib.bytesWorld w 5 s) :=
  ⟨rfl, rfl, rfl, by rw [Lib.bytesWorld_size]; omega, fun k hk => Lib.bytesWorld_at_old w 5 s k hk⟩
theorem bytesWorld_lies (w : World) (s : ByteArray) : Lies (Lib.bytesWorld w 5 s) (some ⟨w.heap.size, 0, none⟩) s.size (grownCap w s.size 0 5) (nums s) := by
  refine ⟨nums_length s, grownCap_ge _ _ _ _, (fun h => by cases h), fun ad had t u hu => ?_⟩
  obtain rfl := Option.some.inj had
  have ht : t < s.size := by
    have := (List.getElem?_eq_some_iff.1 hu).1
    simpa [nums_length] using this
  rw [Addr.add_lit, Nat.zero_add, Lib.bytesWorld_cell w 5 s t ht]
  rw [← hu]
  have ht' : t < s.data.toList.length := by simpa using ht
  simp [nums, List.getD, ht]
end Go.Proofs.YtlcjkbhcbiggcaaGreatDoor

/- text by its contracts. -/
namespace Go.Proofs.YtlcjkbhcbiggcaaGreatDoor
open Go.RowKit
set_option maxRecDepth 100000

theorem padN_le (k : Nat) : padN k ≤ 3 := by unfold padN; omega
end Go.Proofs.YtlcjkbhcbiggcaaGreatDoor
