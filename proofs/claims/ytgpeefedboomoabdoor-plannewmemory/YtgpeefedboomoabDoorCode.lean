/- codeOf and keep by their contracts: which number each of the package's errors is kept as. -/
import Derived.Test.YtgpeefedboomoabDoorIs
import Derived.Test.YtgpeefedboomoabDoorBnd
namespace Go.Proofs.YtgpeefedboomoabDoor
open Go.RowKit Go.Extern.Stop Go.Stop Go.Extern
set_option maxRecDepth 100000

/-- The number that the error of variable i is kept as. -/
def codeNo : Nat → Int
  | 4 => 11 | 1 => 12 | 0 => 13 | 2 => 14 | _ => 15

/-- errors.Is of two of the package's errors. -/
theorem is_errs (er : Nat → Addr) (i j : Nat) (w : World) (hE : Errs w er) (hi : i < 5) (hj : j < 5) :
    Calls Tryd.prog 67 #[.iface 118 (.pointer (some (er i))), .iface 118 (.pointer (some (er j)))] w fun e w' => e = .returned (.bool (i == j)) ∧ w' = w := by
  by_cases h : i = j
  · subst h
    refine (is_same (er i) w).mono ?_
    rintro e w' ⟨rfl, rfl⟩
    simp
  · obtain ⟨c1, t1, r1⟩ := hE.row i hi
    obtain ⟨c2, t2, r2⟩ := hE.row j hj
    refine (is_other (er i) (er j) c1 c2 t1 t2 w (hE.ne i j hi hj h) r1 r2).mono ?_
    rintro e w' ⟨rfl, rfl⟩
    simp [h]

set_option maxHeartbeats 400000 in
theorem codeOf_0 (er : Nat → Addr) (w : World) (hE : Errs w er) :
    Calls Tryd.prog 64 #[.iface 118 (.pointer (some (er 0)))] w fun e w' => e = .returned (.int .i64 (codeNo 0)) ∧ w' = w := by
  have e4 := hE.c4
  have e1 := hE.c1
  have e0 := hE.c0
  go_enter Tryd.func64, Tryd.ntmps64
  go_wp2_with (go_at_call 67; refine (is_errs er _ _ _ hE (by decide) (by decide)).mono ?_; rintro e w1 ⟨he, hw1⟩; simp at he; subst he; subst w1)
  go_ret
  exact ⟨rfl, rfl⟩

set_option maxHeartbeats 400000 in
theorem codeOf_1 (er : Nat → Addr) (w : World) (hE : Errs w er) :
    Calls Tryd.prog 64 #[.iface 118 (.pointer (some (er 1)))] w fun e w' => e = .returned (.int .i64 (codeNo 1)) ∧ w' = w := by
  have e4 := hE.c4
  have e1 := hE.c1
  go_enter Tryd.func64, Tryd.ntmps64
  go_wp2_with (go_at_call 67; refine (is_errs er _ _ _ hE (by decide) (by decide)).mono ?_; rintro e w1 ⟨he, hw1⟩; simp at he; subst he; subst w1)
  go_ret
  exact ⟨rfl, rfl⟩

set_option maxHeartbeats 400000 in
theorem codeOf_2 (er : Nat → Addr) (w : World) (hE : Errs w er) :
    Calls Tryd.prog 64 #[.iface 118 (.pointer (some (er 2)))] w fun e w' => e = .returned (.int .i64 (codeNo 2)) ∧ w' = w := by
  have e4 := hE.c4
  have e1 := hE.c1
  have e0 := hE.c0
  have e2 := hE.c2
  go_enter Tryd.func64, Tryd.ntmps64
  go_wp2_with (go_at_call 67; refine (is_errs er _ _ _ hE (by decide) (by decide)).mono ?_; rintro e w1 ⟨he, hw1⟩; simp at he; subst he; subst w1)
  go_ret
  exact ⟨rfl, rfl⟩

set_option maxHeartbeats 400000 in
theorem codeOf_3 (er : Nat → Addr) (w : World) (hE : Errs w er) :
    Calls Tryd.prog 64 #[.iface 118 (.pointer (some (er 3)))] w fun e w' => e = .returned (.int .i64 (codeNo 3)) ∧ w' = w := by
  have e4 := hE.c4
  have e1 := hE.c1
  have e0 := hE.c0
  have e2 := hE.c2
  have e3 := hE.c3
  go_enter Tryd.func64, Tryd.ntmps64
  go_wp2_with (go_at_call 67; refine (is_errs er _ _ _ hE (by decide) (by decide)).mono ?_; rintro e w1 ⟨he, hw1⟩; simp at he; subst he; subst w1)
  go_ret
  exact ⟨rfl, rfl⟩

set_option maxHeartbeats 400000 in
theorem codeOf_4 (er : Nat → Addr) (w : World) (hE : Errs w er) :
    Calls Tryd.prog 64 #[.iface 118 (.pointer (some (er 4)))] w fun e w' => e = .returned (.int .i64 (codeNo 4)) ∧ w' = w := by
  have e4 := hE.c4
  go_enter Tryd.func64, Tryd.ntmps64
  go_wp2_with (go_at_call 67; refine (is_errs er _ _ _ hE (by decide) (by decide)).mono ?_; rintro e w1 ⟨he, hw1⟩; simp at he; subst he; subst w1)
  go_ret
  exact ⟨rfl, rfl⟩

theorem codeOf_any (i : Nat) (hi : i < 5) (er : Nat → Addr) (w : World) (hE : Errs w er) :
    Calls Tryd.prog 64 #[.iface 118 (.pointer (some (er i)))] w fun e w' => e = .returned (.int .i64 (codeNo i)) ∧ w' = w := by
  match i, hi with
  | 0, _ => exact codeOf_0 er w hE
  | 1, _ => exact codeOf_1 er w hE
  | 2, _ => exact codeOf_2 er w hE
  | 3, _ => exact codeOf_3 er w hE
  | 4, _ => exact codeOf_4 er w hE

theorem codeNo_ne (i : Nat) : (codeNo i != 0) = true := by
  unfold codeNo; split <;> rfl
theorem asErr (v : Value) (xT : TypeId) (w : World) : (Instr.typeAssert (.iface 118 v) xT 96 true).run Tryd.prog w = .ok (.tuple #[.iface 118 v, .bool true]) w := run_typeAssert_hasB Tryd.underlying96 (by kernel_rfl) v xT w

set_option maxHeartbeats 400000 in
theorem keep_nil (p : Value) (w : World) :
    Calls Tryd.prog 59 #[p, .nilIface] w fun e w' => e = .returned (.tuple #[]) ∧ w' = w := by
  have hnil : ∀ w : World, (binOp BinOp.eql 20 .nilIface .nilIface).run Tryd.prog w = .ok (.bool true) w := fun _ => by kernel_rfl
  go_enter Tryd.func59, Tryd.ntmps59
  go_wp2
  first | go_end0 | refine bodyPost_ret (results_none rfl _ _ _) rfl ?_
  exact ⟨rfl, rfl⟩

set_option maxHeartbeats 400000 in
theorem keep_err (i : Nat) (hi : i < 5) (rb g n cap : Nat) (pl code : Int) (bs : List Int) (er : Nat → Addr) (w : World) (hR : Rdr w rb g n cap pl code bs) (hE : Errs w er) :
    Calls Tryd.prog 59 #[.pointer (some ⟨rb, 0, none⟩), .iface 118 (.pointer (some (er i)))] w fun e w' => e = .returned (.tuple #[]) ∧ w' = w.setCell ⟨rb, 2, none⟩ (.int .i64 (codeNo i)) := by
  have c2 := hR.c2
  have f2 := hR.f 2
  have hne := codeNo_ne i
  have hA := asErr
  have hnil : ∀ (v : Value) (w : World), (binOp BinOp.eql 20 (.iface 118 v) .nilIface).run Tryd.prog w = .ok (.bool false) w := fun _ _ => by kernel_rfl
  go_enter Tryd.func59, Tryd.ntmps59
  go_wp2_with (go_at_call 64; refine (codeOf_any i hi er _ hE).mono ?_; rintro e w1 ⟨rfl, hw1⟩; subst w1)
  first | go_end0 | refine bodyPost_ret (results_none rfl _ _ _) rfl ?_
  exact ⟨rfl, rfl⟩
end Go.Proofs.YtgpeefedboomoabDoor
