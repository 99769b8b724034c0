/- annexref1.Reader.Bytes and Text: what rdText says. -/
import Derived.Test.YtjpaooejkbkliabDoorDref5
namespace Go.Proofs.YtjpaooejkbkliabDoor
open Go.RowKit
set_option maxRecDepth 100000

theorem pad_getD (bs : List Int) (q p t : Nat) (ht : t < p) : ((bs.drop q).take p).getD t 0 = bs.getD (q + t) 0 := by
  simp only [List.getD]
  rw [List.getElem?_take, if_pos ht, List.getElem?_drop]

theorem dBytes_any (rb n cap pl : Nat) (ao : Option Addr) (code M : Int) (bs : List Int) (w : World) (hR : RdD w rb ao n cap pl code bs) (hp : pl ≤ n) (hn : n ≤ 200000000000000) (hby : ∀ x ∈ bs, 0 ≤ x ∧ x ≤ 255) (hM1 : M ≤ 9223372036854775807) :
    Calls Tryd.prog 27 #[.pointer (some ⟨rb, 0, none⟩), .int .i64 M] w fun e w' => HandD e w' (rdText n bs pl code M).1 ∧ WentD w w' rb ao n cap (rdText n bs pl code M).2.1 (rdText n bs pl code M).2.2 bs := by
  unfold rdText
  by_cases hc : code ≠ 0
  · rw [if_pos hc]
    exact dBytes_held rb n cap ao pl code M bs w hR (by simpa using hc)
  · obtain rfl : code = 0 := by simpa using hc
    rw [if_neg hc]
    by_cases h1 : n < pl + 4
    · rw [if_pos h1]
      exact dBytes_short rb n cap pl ao M bs w hR hp h1 hn
    · rw [if_neg h1]
      by_cases h2 : M < 0 ∨ M < val ((bs.drop pl).take 4)
      · rw [if_pos h2]
        exact dBytes_long rb n cap pl ao M bs w hR (by omega) hn hby hM1 h2
      · rw [if_neg h2]
        have hv4 := val4_lt bs pl hby
        obtain ⟨k, hk⟩ : ∃ k : Nat, val ((bs.drop pl).take 4) = k := ⟨(val ((bs.drop pl).take 4)).toNat, by omega⟩
        rw [hk] at h2 hv4 ⊢
        simp only [Int.toNat_natCast]
        by_cases h3 : n < pl + (4 + k + padN k)
        · rw [if_pos h3]
          exact dBytes_short2 rb n cap pl k ao M bs w hR (by omega) hn hby (by omega) hM1 hk (by omega) (by omega) h3
        · rw [if_neg h3]
          obtain ⟨g, o, rfl, _⟩ := hR.lies.at (by omega)
          have hz : (∀ t, t < padN k → ((bs.drop (pl + 4 + k)).take (padN k)).getD t 0 = 0) ↔ ∀ t, t < padN k → bs.getD (pl + (4 + k) + t) 0 = 0 :=
            ⟨fun h t ht => by have := h t ht; rw [pad_getD _ _ _ _ ht] at this; rwa [show pl + (4 + k) + t = pl + 4 + k + t by omega],
             fun h t ht => by rw [pad_getD _ _ _ _ ht]; have := h t ht; rwa [show pl + (4 + k) + t = pl + 4 + k + t by omega] at this⟩
          by_cases h4 : ∀ t, t < padN k → bs.getD (pl + (4 + k) + t) 0 = 0
          · rw [if_neg (fun h => h h4)]
            exact dBytes_done rb g o n cap pl k M bs w hR hn hby (by omega) hM1 hk (by omega) (by omega) (by omega) (hz.2 h4)
          · rw [if_pos h4]
            exact dBytes_pad rb g o n cap pl k M bs w hR hn hby (by omega) hM1 hk (by omega) (by omega) (by omega) (fun h => h4 (hz.1 h))

set_option maxHeartbeats 400000 in
theorem dText_any (rb n cap pl : Nat) (ao : Option Addr) (code M : Int) (bs : List Int) (w : World) (hR : RdD w rb ao n cap pl code bs) (hp : pl ≤ n) (hn : n ≤ 200000000000000) (hby : ∀ x ∈ bs, 0 ≤ x ∧ x ≤ 255) (hM1 : M ≤ 9223372036854775807) :
    Calls Tryd.prog 25 #[.pointer (some ⟨rb, 0, none⟩), .int .i64 M] w fun e w' => e = .returned (.string (txt (rdText n bs pl code M).1)) ∧ WentD w w' rb ao n cap (rdText n bs pl code M).2.1 (rdText n bs pl code M).2.2 bs := by
  have hB := dBytes_any rb n cap pl ao code M bs w hR hp hn hby hM1
  generalize rdText n bs pl code M = z at hB
  go_enter Tryd.func25, Tryd.ntmps25
  go_wp2_with fail
  refine hB.mono ?_
  rintro e w1 ⟨⟨a1, c1, rfl, hl⟩, hw⟩
  have hs := run_string_any w1 a1 z.1.length c1 z.1 hl
  clear hB hR
  go_wp2
  go_ret
  exact ⟨rfl, hw⟩
end Go.Proofs.YtjpaooejkbkliabDoor
