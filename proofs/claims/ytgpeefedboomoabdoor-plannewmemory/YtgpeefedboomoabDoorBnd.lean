/- bounded by its contracts. -/
import Derived.Test.YtgpeefedboomoabDoorNum
namespace Go.Proofs.YtgpeefedboomoabDoor
open Go.RowKit
set_option maxRecDepth 100000

set_option maxHeartbeats 400000 in
theorem bounded_short (rb g n cap pl k : Nat) (M code : Int) (bs : List Int) (er : Nat → Addr) (w : World) (hR : Rdr w rb g n cap pl code bs) (hE : Errs w er) (hp : pl ≤ n) (hk : n < pl + k) (hk8 : k ≤ 8) (hn : cap ≤ 200000000000000) :
    Calls Tryd.prog 62 #[.pointer (some ⟨rb, 0, none⟩), .int .i64 k, .int .i64 M] w fun e w' => e = gaveUp (er 4) ∧ ∃ m, w' = w.drewN m := by
  have hki : (k : Int) ≤ 8 := by omega
  go_enter Tryd.func62, Tryd.ntmps62
  go_wp2_with (go_at_call 60; refine (number_short rb g n cap pl k code bs er _ hR hE hp hk (by omega) hn).mono ?_; rintro e w1 ⟨rfl, m0, hw1⟩; subst w1)
  exact ⟨rfl, rfl, m0, rfl⟩

set_option maxHeartbeats 400000 in
theorem bounded_wide (rb g n cap pl k : Nat) (M code : Int) (bs : List Int) (er : Nat → Addr) (w : World) (hR : Rdr w rb g n cap pl code bs) (hE : Errs w er) (hk : pl + k ≤ n) (hk0 : 0 < k) (hk8 : k ≤ 8) (hn : cap ≤ 200000000000000) (hby : ∀ x ∈ bs, 0 ≤ x ∧ x ≤ 255)
    (hM1 : M ≤ 9223372036854775807) (hw : M < 0 ∨ M < val ((bs.drop pl).take k)) :
    Calls Tryd.prog 62 #[.pointer (some ⟨rb, 0, none⟩), .int .i64 k, .int .i64 M] w fun e w' => e = gaveUp (er 1) ∧ ∃ m, w' = w.drewN m := by
  have hki : (k : Int) ≤ 8 := by omega
  have e1 := hE.c1
  have HA : ∀ w : World, Calls Tryd.prog 66 #[.int .u64 (val ((bs.drop pl).take k)), .int .i64 M] w fun e w' => e = .returned (.bool true) ∧ w' = w := by
    intro w
    rcases Int.lt_or_le M 0 with h | h
    · exact above_neg _ M w h
    · exact above_yes _ M w h hM1 (by omega)
  go_enter Tryd.func62, Tryd.ntmps62
  go_wp2_with (first
    | (go_at_call 60; refine (number_ok rb g n cap pl k code bs _ hR hk hk0 hk8 hn hby).mono ?_; rintro e w1 ⟨rfl, m0, hw1⟩; subst w1)
    | (go_at_call 66; refine (HA _).mono ?_; rintro e w2 ⟨rfl, hw2⟩; subst w2))
  exact ⟨rfl, rfl, m0, rfl⟩

set_option maxHeartbeats 400000 in
theorem bounded_ok (rb g n cap pl k : Nat) (M code : Int) (bs : List Int) (w : World) (hR : Rdr w rb g n cap pl code bs) (hk : pl + k ≤ n) (hk0 : 0 < k) (hk8 : k ≤ 8) (hn : cap ≤ 200000000000000) (hby : ∀ x ∈ bs, 0 ≤ x ∧ x ≤ 255)
    (hM1 : M ≤ 9223372036854775807) (hM0 : 0 ≤ M) (hv : val ((bs.drop pl).take k) ≤ M) :
    Calls Tryd.prog 62 #[.pointer (some ⟨rb, 0, none⟩), .int .i64 k, .int .i64 M] w fun e w' => e = .returned (.int .i64 (val ((bs.drop pl).take k))) ∧ ∃ m, w' = (w.drewN m).setCell ⟨rb, 1, none⟩ (.int .i64 ((pl + k : Nat) : Int)) := by
  have hki : (k : Int) ≤ 8 := by omega
  have hnc := hR.lies.hle
  have hpi : (pl : Int) ≤ 200000000000000 := by omega
  have c1 := hR.c1
  have f1 := hR.f 1
  have hv0 := (val_bd ((bs.drop pl).take k) (fun x hx => hby x (List.mem_of_mem_drop (List.mem_of_mem_take hx)))).1
  have hN := number_ok rb g n cap pl k code bs w hR hk hk0 hk8 hn hby
  generalize hV : val ((bs.drop pl).take k) = V at *
  clear hV hR hby
  go_enter Tryd.func62, Tryd.ntmps62
  go_wp2_with (first
    | (go_at_call 60; refine hN.mono ?_; rintro e w1 ⟨rfl, m0, hw1⟩; subst w1)
    | (go_at_call 66; refine (above_no V M _ hM0 hM1 hv).mono ?_; rintro e w2 ⟨rfl, hw2⟩; subst w2))
  go_ret
  exact ⟨rfl, m0, by simp⟩
end Go.Proofs.YtgpeefedboomoabDoor
