/- allPass. -/
import Derived.Test.YtjaheoccofcklabDoorR1
import Derived.Laws.EntriesVeiled
namespace Go.Proofs.YtjaheoccofcklabDoor
open Go.RowKit
set_option maxRecDepth 100000

/-- The method value of a row's holds. -/
abbrev fnV (a b : Int) : Value := .func (.func 26) #[rwV a b] #[]
/-- A list of checks in memory. -/
def Chk (w : World) (g : Nat) (L : List (Int × Int × Int)) : Prop :=
  ∀ i a b x, L[i]? = some (a, b, x) → w.cell? ⟨g, i * 2, none⟩ = some (fnV a b) ∧ w.cell? ⟨g, i * 2 + 1, none⟩ = some (.int .i64 x)
theorem Chk.later {B : Nat} {w w' : World} {g : Nat} {L : List (Int × Int × Int)} (h : Chk w g L) (hb : Below B w w') (hB : g < B) : Chk w' g L :=
  fun i a b x hi => ⟨(hb.cell (p := ⟨g, i * 2, none⟩) hB).trans (h i a b x hi).1, (hb.cell (p := ⟨g, i * 2 + 1, none⟩) hB).trans (h i a b x hi).2⟩
/-- A number lies in its row. -/
def pas (t : Int × Int × Int) : Bool := decide (t.1 ≤ t.2.2 ∧ t.2.2 ≤ t.2.1)

set_option maxHeartbeats 2000000 in
theorem allPass_any (g : Nat) (L : List (Int × Int × Int)) (w : World) (hL : L.length < 1000) (hg : g < w.heap.size) (hC : Chk w g L) :
    Calls Tryd.prog 25 #[.slice (some ⟨g, 0, none⟩) L.length L.length] w fun e w' => e = .returned (.bool (L.all pas)) ∧ Below w.heap.size w w' := by
  go_enter Tryd.func25, Tryd.ntmps25
  go_wp2_with fail
  go_loopw [7] (fun v wr => ∃ k : Nat, k ≤ L.length ∧ v = .int .i64 k ∧ (L.take k).all pas = true ∧ Below w.heap.size w wr) (fun v _ => L.length - (intOf v).toNat)
  case atStart => exact ⟨0, Nat.zero_le _, rfl, rfl, Below.refl _ _⟩
  case round =>
    obtain ⟨k, hk, rfl, hA, hb⟩ := hrel
    by_cases hlt : k < L.length
    · obtain ⟨⟨a, b, x⟩, hx⟩ : ∃ t, L[k]? = some t := ⟨L[k], List.getElem?_eq_getElem hlt⟩
      obtain ⟨q0, q1⟩ := (hC.later hb hg) k a b x hx
      have hlt' : decide ((k : Int) < (L.length : Int)) = true := by simpa using hlt
      have hbw : Below w.heap.size w (wr.alloc (Obj.cells #[Value.func (Fn.func 26) #[rwV a b] #[], Value.int IntKind.i64 x] 50)) := hb.trans ((newBox wr _).mono hb.size)
      go_wp2_with fail
      clear q0 q1 hb
      refine (holds_any a b x _).mono ?_
      rintro e w1 ⟨rfl, hh⟩
      have hb1 := hbw.trans (hh.mono hbw.size)
      clear hbw hh
      by_cases hp : a ≤ x ∧ x ≤ b
      · have hA' : (L.take (k + 1)).all pas = true := by
          rw [List.take_add_one, List.all_append, hA, hx]
          simp [pas, hp]
        rw [decide_eq_true hp]
        clear hp hx hA
        go_wp2
        go_roundw
        case rel => exact ⟨k + 1, by omega, by simp, hA', hb1⟩
        case measure => simp [intOf]; omega
      · have hN : L.all pas = false := by
          rw [List.all_eq_false]
          exact ⟨(a, b, x), List.mem_of_getElem? hx, by simp only [pas, decide_eq_true_eq]; exact hp⟩
        rw [decide_eq_false hp]
        clear hp hx hA
        go_wp2
        go_ret
        exact ⟨by rw [hN]; rfl, hb1⟩
    · have hlt' : decide ((k : Int) < (L.length : Int)) = false := by simpa using hlt
      obtain rfl : k = L.length := by omega
      rw [List.take_length] at hA
      go_wp2
      go_ret
      exact ⟨by rw [hA]; rfl, hb⟩
end Go.Proofs.YtjaheoccofcklabDoor
