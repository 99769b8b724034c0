/- Bytes and runes of the play's text: the small functions. -/
import Derived.Test.YtjkmdacgiebbfaaDoorChecked
import Derived.Test.YtjkmdacgiebbfaaDoorPM1
import Derived.WalkKit
import Derived.WalkSpells
import Derived.WalkLawsBesides
import Derived.Deep.QuietTactic
import Derived.BigQuiet
import Derived.Below
namespace Go.Proofs.YtjkmdacgiebbfaaDoor
open Go.RowKit
set_option maxRecDepth 100000

/-- The bytes of a text; a text of these bytes. -/
abbrev bs (s : ByteArray) : By := s.data.toList
abbrev tx (l : By) : ByteArray := ⟨l.toArray⟩
theorem bs_tx (l : By) : bs (tx l) = l := by simp
theorem tx_bs (s : ByteArray) : tx (bs s) = s := by cases s; simp
theorem bs_inj {s t : ByteArray} (h : bs s = bs t) : s = t := by rw [← tx_bs s, ← tx_bs t, h]
theorem size_bs (s : ByteArray) : (bs s).length = s.size := Array.length_toList (xs := s.data)
theorem bs_at (s : ByteArray) (k : Nat) (h : k < s.size) : (bs s)[k]'(by rw [size_bs]; exact h) = s[k]'h := by simp [ByteArray.getElem_eq_getElem_data]
theorem bs_take (s : ByteArray) (k : Nat) (h : k < s.size) : (bs s).take (k + 1) = (bs s).take k ++ [s[k]'h] := by
  rw [List.take_succ_eq_append_getElem (by rw [size_bs]; exact h), bs_at s k h]
theorem bs_drop (s : ByteArray) (k : Nat) (h : k < s.size) : (bs s).drop k = s[k]'h :: (bs s).drop (k + 1) := by
  rw [List.drop_eq_getElem_cons (by rw [size_bs]; exact h), bs_at s k h]
/-- A byte as a value. -/
abbrev ub (b : UInt8) : Value := .int .u8 (b.toNat : Int)
def bareR (r : Int) : Bool := (decide (97 ≤ r) && decide (r ≤ 122)) || (decide (65 ≤ r) && decide (r ≤ 90)) || (decide (48 ≤ r) && decide (r ≤ 57)) || decide (r = 95) || decide (r = 46) || decide (r = 45) || decide (r = 47)
def plainR (r : Int) : Bool := decide (32 ≤ r) && decide (r ≤ 126)
def blankR (r : Int) : Bool := decide (r = 32) || decide (r = 9)
theorem bareR_byte (b : UInt8) : bareR (b.toNat : Int) = bareB b := u8_all (p := fun b => bareR (b.toNat : Int) = bareB b) (by decide +kernel) b
theorem plainR_byte (b : UInt8) : plainR (b.toNat : Int) = plainB b := u8_all (p := fun b => plainR (b.toNat : Int) = plainB b) (by decide +kernel) b
theorem blankR_byte (b : UInt8) : blankR (b.toNat : Int) = blankB b := u8_all (p := fun b => blankR (b.toNat : Int) = blankB b) (by decide +kernel) b

theorem isPlain_any (r : Int) (w : World) : Calls Tryd.prog 33 #[.int .i32 r] w fun e w' => e = .returned (.bool (plainR r)) ∧ w' = w := by
  go_enter Tryd.func33, Tryd.ntmps33
  by_cases h : 32 ≤ r
  · have h' : decide (32 ≤ r) = true := decide_eq_true h
    go_wp2
    go_ret
    exact ⟨by simp [plainR, h], rfl⟩
  · have h' : decide (32 ≤ r) = false := decide_eq_false h
    go_wp2
    go_ret
    exact ⟨by rw [show plainR r = false by simp only [plainR, h', Bool.false_and]]; rfl, rfl⟩

theorem isBare_any (r : Int) (w : World) : Calls Tryd.prog 31 #[.int .i32 r] w fun e w' => e = .returned (.bool (bareR r)) ∧ w' = w := by
  go_enter Tryd.func31, Tryd.ntmps31
  by_cases h1 : r = 95
  · subst h1; go_wp2; go_ret; exact ⟨rfl, rfl⟩
  by_cases h2 : r = 46
  · subst h2; go_wp2; go_ret; exact ⟨rfl, rfl⟩
  by_cases h3 : r = 45
  · subst h3; go_wp2; go_ret; exact ⟨rfl, rfl⟩
  by_cases h4 : r = 47
  · subst h4; go_wp2; go_ret; exact ⟨rfl, rfl⟩
  have g1 : (r == 95) = false := by simpa using h1
  have g2 : (r == 46) = false := by simpa using h2
  have g3 : (r == 45) = false := by simpa using h3
  have g4 : (r == 47) = false := by simpa using h4
  go_wp2
  all_goals
    go_ret
    refine ⟨?_, rfl⟩
    show Ending.returned (Value.bool _) = Ending.returned (Value.bool _)
    congr 2
    rw [Bool.eq_iff_iff]
    simp only [bareR, Bool.or_eq_true, Bool.and_eq_true, decide_eq_true_eq, true_iff, Bool.false_eq_true, false_iff]
    omega
end Go.Proofs.YtjkmdacgiebbfaaDoor
