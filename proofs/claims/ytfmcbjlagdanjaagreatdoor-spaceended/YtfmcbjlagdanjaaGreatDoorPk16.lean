/- SpaceEnded by its contract, whatever the arguments. -/
import Derived.Test.YtfmcbjlagdanjaaGreatDoorPk14
import Derived.BigQuiet
import Derived.Test.YtfmcbjlagdanjaaGreatDoorPk15
namespace Go.Proofs.YtfmcbjlagdanjaaGreatDoor
open Go.RowKit Go.Maps
set_option maxRecDepth 100000

set_option maxHeartbeats 1000000 in
theorem ended_un (data : Int) (b : Int) (c : Bool) (hf : ¬ (8 ≤ data ∧ data ≤ 500)) (w : World) (hB : Bds w) {er : Nat → Addr} (hE : Errs w er) :
    Calls Tryz.prog 5 #[.int .i64 data, .int .i64 b, .bool c] w fun e w' => e = .returned (.bool true) ∧ Below w.heap.size w w' := by
  have HF : Hid (fitsB data = false) := decide_eq_false hf
  clear hf
  go_enter Tryz.func5, Tryz.ntmps5
  go_wp2_with fail
  refine (known_ok w hB hE).mono ?_
  rintro e w1 ⟨rfl, b1⟩
  have F1 := fits8_any data w1
  rw [HF.out] at F1
  go_wp2_with fail
  refine F1.mono ?_
  rintro e w2 ⟨rfl, hw2⟩
  subst w2
  clear F1
  go_wp2_with fail
  go_ret
  exact ⟨rfl, b1⟩
theorem ended_any (data b : Int) (c : Bool) (w : World) (hB : Bds w) {er : Nat → Addr} (hE : Errs w er) :
    Calls Tryz.prog 5 #[.int .i64 data, .int .i64 b, .bool c] w fun e w' => e = .returned (.bool true) ∧ Below w.heap.size w w' := by
  by_cases hf : 8 ≤ data ∧ data ≤ 500
  · obtain ⟨D, rfl⟩ : ∃ D : Nat, data = D := ⟨data.toNat, by omega⟩
    have h1 : 8 ≤ D := by omega
    have h2 : D ≤ 500 := by omega
    by_cases hl : b < 35
    · cases c
      · exact endedd_lo h1 h2 b hl w hB hE
      · exact endedc_lo h1 h2 b hl w hB hE
    · by_cases hh : 35 + (D : Int) ≤ b
      · cases c
        · exact endedd_hi h1 h2 b hh w hB hE
        · exact endedc_hi h1 h2 b hh w hB hE
      · cases c
        · exact endedd_in h1 h2 b (by omega) (by omega) w hB hE
        · exact endedc_in h1 h2 b (by omega) (by omega) w hB hE
  · exact ended_un data b c hf w hB hE
end Go.Proofs.YtfmcbjlagdanjaaGreatDoor
