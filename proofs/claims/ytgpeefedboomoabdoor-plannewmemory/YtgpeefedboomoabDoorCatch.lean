/- The deferred functions of the reading calls by their contracts. -/
import Derived.Test.YtgpeefedboomoabDoorCode
import Derived.Test.YtgpeefedboomoabDoorDraw
namespace Go.Proofs.YtgpeefedboomoabDoor
open Go.RowKit
set_option maxRecDepth 100000

theorem Rdr.drew {w : World} {rb g n cap : Nat} {pl code : Int} {bs : List Int} (h : Rdr w rb g n cap pl code bs) : Rdr w.drew rb g n cap pl code bs := h.drewN 1
theorem Errs.drew {w : World} {er : Nat → Addr} (h : Errs w er) : Errs w.drew er := h.drewN 1

set_option maxHeartbeats 400000 in
theorem catch39_idle (p : Addr) (rb : Nat) (w : World) (hc : w.cell? p = some (.pointer (some ⟨rb, 0, none⟩))) :
    CallsD Tryd.prog 61 #[.pointer (some p)] .returning w fun e u' w' => e = .returned (.tuple #[]) ∧ u' = .returning ∧ w' = w.drew := by
  refine callsD_of_wpS Tryd.func61 rfl fun c₀ cs hu => ?_
  refine wpS_region_draw [[0, 1, 2], [1, 0, 2]] (by kernel_rfl) (by kernel_rfl) ?_
  intro l hl
  simp only [List.mem_cons, List.not_mem_nil, or_false] at hl
  rcases hl with rfl | rfl
  all_goals
    simp [wpOpsS, go_sem, recoverD, hu, hc, Tryd.ntmps61]
    refine (keep_nil _ _).mono ?_
    rintro e w' ⟨rfl, rfl⟩
    cases c₀
    simp_all [bodyPostS, results, Tryd.results61]

set_option maxHeartbeats 400000 in
theorem catch39_err (i : Nat) (hi : i < 5) (p : Addr) (rb g n cap : Nat) (pl code : Int) (bs : List Int) (er : Nat → Addr) (older : List PanicEntry) (w : World) (hc : w.cell? p = some (.pointer (some ⟨rb, 0, none⟩))) (hR : Rdr w rb g n cap pl code bs) (hE : Errs w er) :
    CallsD Tryd.prog 61 #[.pointer (some p)] (.panicking ({ v := .iface 118 (.pointer (some (er i))), recovered := false } :: older)) w fun e u' w' =>
      e = .returned (.tuple #[]) ∧ u' = .panicking ({ v := .iface 118 (.pointer (some (er i))), recovered := true } :: older) ∧ w' = (w.setCell ⟨rb, 2, none⟩ (.int .i64 (codeNo i))).drew := by
  refine callsD_of_wpS Tryd.func61 rfl fun c₀ cs hu => ?_
  refine wpS_region_draw [[0, 1, 2], [1, 0, 2]] (by kernel_rfl) (by kernel_rfl) ?_
  intro l hl
  simp only [List.mem_cons, List.not_mem_nil, or_false] at hl
  rcases hl with rfl | rfl
  all_goals
    simp [wpOpsS, go_sem, recoverD, hu, hc, Tryd.ntmps61]
    refine (keep_err i hi rb g n cap pl code bs er _ hR.drew hE.drew).mono ?_
    rintro e w' ⟨rfl, rfl⟩
    cases c₀
    simp_all [bodyPostS, results, Tryd.results61, World.setCell_drew]

set_option maxHeartbeats 400000 in
theorem catch43_idle (p : Addr) (rb : Nat) (w : World) (hc : w.cell? p = some (.pointer (some ⟨rb, 0, none⟩))) :
    CallsD Tryd.prog 58 #[.pointer (some p)] .returning w fun e u' w' => e = .returned (.tuple #[]) ∧ u' = .returning ∧ w' = w.drew := by
  refine callsD_of_wpS Tryd.func58 rfl fun c₀ cs hu => ?_
  refine wpS_region_draw [[0, 1, 2], [1, 0, 2]] (by kernel_rfl) (by kernel_rfl) ?_
  intro l hl
  simp only [List.mem_cons, List.not_mem_nil, or_false] at hl
  rcases hl with rfl | rfl
  all_goals
    simp [wpOpsS, go_sem, recoverD, hu, hc, Tryd.ntmps58]
    refine (keep_nil _ _).mono ?_
    rintro e w' ⟨rfl, rfl⟩
    cases c₀
    simp_all [bodyPostS, results, Tryd.results58]

set_option maxHeartbeats 400000 in
theorem catch43_err (i : Nat) (hi : i < 5) (p : Addr) (rb g n cap : Nat) (pl code : Int) (bs : List Int) (er : Nat → Addr) (older : List PanicEntry) (w : World) (hc : w.cell? p = some (.pointer (some ⟨rb, 0, none⟩))) (hR : Rdr w rb g n cap pl code bs) (hE : Errs w er) :
    CallsD Tryd.prog 58 #[.pointer (some p)] (.panicking ({ v := .iface 118 (.pointer (some (er i))), recovered := false } :: older)) w fun e u' w' =>
      e = .returned (.tuple #[]) ∧ u' = .panicking ({ v := .iface 118 (.pointer (some (er i))), recovered := true } :: older) ∧ w' = (w.setCell ⟨rb, 2, none⟩ (.int .i64 (codeNo i))).drew := by
  refine callsD_of_wpS Tryd.func58 rfl fun c₀ cs hu => ?_
  refine wpS_region_draw [[0, 1, 2], [1, 0, 2]] (by kernel_rfl) (by kernel_rfl) ?_
  intro l hl
  simp only [List.mem_cons, List.not_mem_nil, or_false] at hl
  rcases hl with rfl | rfl
  all_goals
    simp [wpOpsS, go_sem, recoverD, hu, hc, Tryd.ntmps58]
    refine (keep_err i hi rb g n cap pl code bs er _ hR.drew hE.drew).mono ?_
    rintro e w' ⟨rfl, rfl⟩
    cases c₀
    simp_all [bodyPostS, results, Tryd.results58, World.setCell_drew]
end Go.Proofs.YtgpeefedboomoabDoor
