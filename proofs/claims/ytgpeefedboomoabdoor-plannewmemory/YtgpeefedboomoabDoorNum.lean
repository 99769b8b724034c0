/- ahead, number, above and bounded by their contracts. -/
import Derived.Test.YtgpeefedboomoabDoorRdr
import Derived.Laws.BitsAllLaws
namespace Go.Proofs.YtgpeefedboomoabDoor
open Go.RowKit
set_option maxRecDepth 100000

/-- What the reader gives up with. -/
abbrev gaveUp (a : Addr) : Ending := .panicked [{ v := .iface 118 (.pointer (some a)), recovered := false }]

set_option maxHeartbeats 400000 in
theorem ahead_ok (rb g n cap pl k : Nat) (code : Int) (bs : List Int) (w : World) (hR : Rdr w rb g n cap pl code bs) (hk : pl + k ≤ n) (hk0 : 0 < k) (hn : cap ≤ 200000000000000) :
    Calls Tryd.prog 65 #[.pointer (some ⟨rb, 0, none⟩), .int .u64 k] w fun e w' => e = .returned (.slice (some ⟨g, pl, none⟩) k (cap - pl)) ∧ ∃ m, w' = w.drewN m := by
  have c0 := hR.c0
  have c1 := hR.c1
  have hnc := hR.lies.hle
  have h1 : (pl : Int) + k ≤ n := by omega
  have h2 : (n : Int) ≤ cap := by omega
  have h3 : (cap : Int) ≤ 200000000000000 := by omega
  have h4 : ¬ cap = pl := by omega
  clear hR
  go_enter Tryd.func65, Tryd.ntmps65
  go_wp2
  go_quiet (fail)
  go_wp2
  go_ret
  exact ⟨rfl, _, rfl⟩

set_option maxHeartbeats 400000 in
theorem ahead_short (rb g n cap pl k : Nat) (code : Int) (bs : List Int) (er : Nat → Addr) (w : World) (hR : Rdr w rb g n cap pl code bs) (hE : Errs w er) (hp : pl ≤ n) (hk : n < pl + k) (hkb : k ≤ 4611686018427387904) (hn : cap ≤ 200000000000000) :
    Calls Tryd.prog 65 #[.pointer (some ⟨rb, 0, none⟩), .int .u64 k] w fun e w' => e = gaveUp (er 4) ∧ ∃ m, w' = w.drewN m := by
  have c0 := hR.c0
  have c1 := hR.c1
  have e4 := hE.c4
  have hnc := hR.lies.hle
  have h1 : (n : Int) < (pl : Int) + k := by omega
  have h2 : (n : Int) ≤ cap := by omega
  have h3 : (cap : Int) ≤ 200000000000000 := by omega
  have h5 : (pl : Int) ≤ n := by omega
  have h6 : n - pl < k := by omega
  clear hR hE
  by_cases h4 : cap = pl
  · obtain rfl : n = pl := by omega
    subst h4
    go_enter Tryd.func65, Tryd.ntmps65
    go_wp2
    go_quiet (fail)
    go_wp2
    exact ⟨rfl, rfl, _, rfl⟩
  · go_enter Tryd.func65, Tryd.ntmps65
    go_wp2
    go_quiet (fail)
    go_wp2
    exact ⟨rfl, rfl, _, rfl⟩

/-- The number that bytes are, the greatest digit first. -/
def val (l : List Int) : Int := l.foldl (fun x c => x * 256 + c) 0
theorem val_snoc (l : List Int) (c : Int) : val (l ++ [c]) = val l * 256 + c := by simp [val]

theorem val_bd (l : List Int) (h : ∀ x ∈ l, 0 ≤ x ∧ x ≤ 255) : 0 ≤ val l ∧ val l < 256 ^ l.length := by
  suffices H : ∀ (l : List Int) (a : Int) (k : Nat), (∀ x ∈ l, 0 ≤ x ∧ x ≤ 255) → 0 ≤ a → a < 256 ^ k → 0 ≤ l.foldl (fun x c => x * 256 + c) a ∧ l.foldl (fun x c => x * 256 + c) a < 256 ^ (k + l.length) by
    have := H l 0 0 h (by omega) (by omega)
    simpa [val] using this
  intro l
  induction l with
  | nil => intro a k _ h0 h1; exact ⟨h0, h1⟩
  | cons c l ih =>
    intro a k hl h0 h1
    have hc := hl c (by simp)
    have := ih (a * 256 + c) (k + 1) (fun x hx => hl x (by simp [hx])) (by omega) (by rw [Int.pow_succ]; omega)
    simp only [List.foldl_cons, List.length_cons]
    rw [show k + (l.length + 1) = k + 1 + l.length by omega]
    exact this

theorem Rdr.byte {w : World} {rb g n cap : Nat} {pl code : Int} {bs : List Int} (h : Rdr w rb g n cap pl code bs) (t : Nat) (ht : t < n) : w.cell? ⟨g, t, none⟩ = some (.int .u8 (bs.getD t 0)) := by
  obtain ⟨b, o, he, hc⟩ := h.lies.at (by omega)
  cases he
  simpa using hc t ht

theorem or_byte (V C : Int) (h1 : 0 ≤ V) (h2 : V < 72057594037927936) (h3 : 0 ≤ C) (h4 : C ≤ 255) : bits .or .u64 (V * 256) C = V * 256 + C := by
  rw [u64_or (V * 256) C (by omega) (by omega) h3 (by omega)]
  obtain ⟨v, rfl⟩ := Int.eq_ofNat_of_zero_le h1
  obtain ⟨c, rfl⟩ := Int.eq_ofNat_of_zero_le h3
  have e : v <<< 8 + c = v <<< 8 ||| c := Nat.shiftLeft_add_eq_or_of_lt (by omega) v
  rw [Nat.shiftLeft_eq] at e
  have e1 : ((v : Int) * 256).toNat = v * 2 ^ 8 := by omega
  have e2 : ((c : Int)).toNat = c := by omega
  rw [e1, e2, ← e]
  omega

set_option maxHeartbeats 400000 in
theorem number_ok (rb g n cap pl k : Nat) (code : Int) (bs : List Int) (w : World) (hR : Rdr w rb g n cap pl code bs) (hk : pl + k ≤ n) (hk0 : 0 < k) (hk8 : k ≤ 8) (hn : cap ≤ 200000000000000) (hby : ∀ x ∈ bs, 0 ≤ x ∧ x ≤ 255) :
    Calls Tryd.prog 60 #[.pointer (some ⟨rb, 0, none⟩), .int .u64 k] w fun e w' => e = .returned (.int .u64 (val ((bs.drop pl).take k))) ∧ ∃ m, w' = w.drewN m := by
  have hki : (k : Int) ≤ 8 := by omega
  have hnc := hR.lies.hle
  go_enter Tryd.func60, Tryd.ntmps60
  go_wp2_with (go_at_call 65; refine (ahead_ok rb g n cap pl k code bs _ hR hk hk0 hn).mono ?_; rintro e w1 ⟨rfl, m0, hw1⟩; subst w1)
  go_loop [5, 12] (fun x i => ∃ j : Nat, j ≤ k ∧ i = .int .i64 j ∧ x = .int .u64 (val ((bs.drop pl).take j))) (fun _ i => k - (intOf i).toNat)
  case atStart => exact ⟨0, Nat.zero_le _, rfl, rfl⟩
  case round =>
    obtain ⟨j, hj, rfl, rfl⟩ := hrel
    have hl : ((bs.drop pl).take j).length = j := by simp [hR.lies.hlen]; omega
    by_cases hlt : j < k
    · have hb := val_bd ((bs.drop pl).take j) (fun x hx => hby x (List.mem_of_mem_drop (List.mem_of_mem_take hx)))
      rw [hl] at hb
      have hb2 : (256 : Int) ^ j ≤ 256 ^ 7 := by
        have := Nat.pow_le_pow_right (show 0 < 256 by decide) (show j ≤ 7 by omega)
        exact_mod_cast this
      have hc := hR.byte (pl + j) (by omega)
      have hmem : bs.getD (pl + j) 0 ∈ bs := by
        have : pl + j < bs.length := by rw [hR.lies.hlen]; omega
        simp [List.getD, this]
      have hcb := hby _ hmem
      have hstep : (bs.drop pl).take (j + 1) = (bs.drop pl).take j ++ [bs.getD (pl + j) 0] := by
        have : pl + j < bs.length := by rw [hR.lies.hlen]; omega
        rw [List.take_succ_eq_append_getElem (by simp; omega)]
        simp [List.getD, this]
      have HS : Hid (val ((bs.drop pl).take (j + 1)) = val ((bs.drop pl).take j) * 256 + bs.getD (pl + j) 0) := by rw [hstep]; exact val_snoc _ _
      clear hstep hmem
      generalize hV : val ((bs.drop pl).take j) = V at *
      generalize hC : bs.getD (pl + j) 0 = C at *
      have hV0 : 0 ≤ V := hb.1
      have hV1 : V < 72057594037927936 := by have : (256 : Int) ^ 7 = 72057594037927936 := by decide
                                             omega
      have hC0 := hcb.1
      have hC1 := hcb.2
      clear hV hC hb hb2 hcb hR hby hl
      go_wp2
      go_round
      case rel => exact ⟨j + 1, by omega, by go_num, by rw [HS.out, or_byte V C hV0 hV1 hC0 hC1]⟩
      case measure => simp [intOf]; omega
    · have hjk : (k : Int) ≤ j := by omega
      obtain ⟨V, hV⟩ : ∃ V, V = val ((bs.drop pl).take j) := ⟨_, rfl⟩
      have HV : Hid (V = val ((bs.drop pl).take k)) := by obtain rfl : j = k := by omega
                                                          exact hV
      rw [← hV]
      clear hV hR hby hl
      go_wp2
      go_ret
      exact ⟨by rw [← HV.out]; rfl, m0, rfl⟩

set_option maxHeartbeats 400000 in
theorem number_short (rb g n cap pl k : Nat) (code : Int) (bs : List Int) (er : Nat → Addr) (w : World) (hR : Rdr w rb g n cap pl code bs) (hE : Errs w er) (hp : pl ≤ n) (hk : n < pl + k) (hkb : k ≤ 4611686018427387904) (hn : cap ≤ 200000000000000) :
    Calls Tryd.prog 60 #[.pointer (some ⟨rb, 0, none⟩), .int .u64 k] w fun e w' => e = gaveUp (er 4) ∧ ∃ m, w' = w.drewN m := by
  go_enter Tryd.func60, Tryd.ntmps60
  go_wp2_with (go_at_call 65; refine (ahead_short rb g n cap pl k code bs er _ hR hE hp hk hkb hn).mono ?_; rintro e w1 ⟨rfl, m0, hw1⟩; subst w1)
  exact ⟨rfl, rfl, m0, rfl⟩

set_option maxHeartbeats 400000 in
theorem above_neg (X M : Int) (w : World) (hM : M < 0) :
    Calls Tryd.prog 66 #[.int .u64 X, .int .i64 M] w fun e w' => e = .returned (.bool true) ∧ w' = w := by
  go_enter Tryd.func66, Tryd.ntmps66
  go_wp2
  go_ret
  exact ⟨rfl, rfl⟩

set_option maxHeartbeats 400000 in
theorem above_yes (X M : Int) (w : World) (hM : 0 ≤ M) (hM1 : M ≤ 9223372036854775807) (h : M < X) :
    Calls Tryd.prog 66 #[.int .u64 X, .int .i64 M] w fun e w' => e = .returned (.bool true) ∧ w' = w := by
  go_enter Tryd.func66, Tryd.ntmps66
  go_wp2
  go_ret
  exact ⟨rfl, rfl⟩

set_option maxHeartbeats 400000 in
theorem above_no (X M : Int) (w : World) (hM : 0 ≤ M) (hM1 : M ≤ 9223372036854775807) (h : X ≤ M) :
    Calls Tryd.prog 66 #[.int .u64 X, .int .i64 M] w fun e w' => e = .returned (.bool false) ∧ w' = w := by
  go_enter Tryd.func66, Tryd.ntmps66
  go_wp2
  go_ret
  refine ⟨?_, rfl⟩
  show Ending.returned (.bool (decide (M < 0) || decide (M < X))) = _
  rw [decide_eq_false (by omega), decide_eq_false (by omega)]; rfl
end Go.Proofs.YtgpeefedboomoabDoor
