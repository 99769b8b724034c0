/- AlarmSorts: when nothing is left. -/
import Derived.Test.YtbopghpfghaoeaaSO0
namespace Go.Proofs.Ytbopghpfghaoeaa
open Go.RowKit Go.Maps
set_option maxRecDepth 100000

theorem SoR.nextN {w0 w : World} {a b : Nat} {wv ev lv : Value} {L E T : List (Int × Int)} {bx : Nat} {x y : Int} (h : SoR w0 w a b [] wv ev lv L E T bx x y) :
    Calls Try.prog 13 #[.pointer (some ⟨a, 0, none⟩)] w fun e w' => e = .returned (.tuple #[.int .i64 0, .int .i64 0, .bool false]) ∧ w' = w := by
  obtain ⟨l, h⟩ := h
  exact nextN_I h.tw.A
theorem SoR.len {w0 w : World} {a b : Nat} {wv ev lv : Value} {L E T : List (Int × Int)} {bx : Nat} {x y : Int} (h : SoR w0 w a b [] wv ev lv L E T bx x y) :
    Calls Try.prog 14 #[.pointer (some ⟨a, 0, none⟩)] w fun e w' => e = .returned (.int .i64 0) ∧ w' = w := by
  obtain ⟨l, h⟩ := h
  exact lenA_I h.tw.A
end Go.Proofs.Ytbopghpfghaoeaa
