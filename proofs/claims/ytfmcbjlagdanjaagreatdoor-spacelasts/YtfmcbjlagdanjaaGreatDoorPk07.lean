/- codeOf and keep by their contracts: which number each of the package's errors is kept as. -/
import Derived.Test.YtfmcbjlagdanjaaGreatDoorPk06
import Derived.Recover
import Derived.Orders
import Derived.WalkKit
import Derived.Test.YtfmcbjlagdanjaaGreatDoorPk01
import Derived.Lib.AppendZeros
import Derived.Lib.ConvBytes
import Derived.Laws.IdiomStrings
import Derived.BigQuiet
import Derived.Deep.QuietTactic
import Derived.OpenShut
import Derived.Laws.BitsAllLaws
namespace Go.Proofs.YtfmcbjlagdanjaaGreatDoor
open Go.RowKit Go.Extern.Stop Go.Stop Go.Extern
set_option maxRecDepth 100000

/-- The number that the error of variable i is kept as. -/
def codeNo : Nat → Int
  | 4 => 11 | 1 => 12 | 0 => 13 | 2 => 14 | _ => 15

/-- errors.Is of two of the package's errors. -/
theorem is_errs (er : Nat → Addr) (i j : Nat) (w : World) (hE : Errs w er) (hi : i < 5) (hj : j < 5) :
    Calls Tryz.prog 242 #[.iface 303 (.pointer (some (er i))), .iface 303 (.pointer (some (er j)))] w fun e w' => e = .returned (.bool (i == j)) ∧ w' = w := by
  by_cases h : i = j
  · subst h
    refine (is_same (er i) w).mono ?_
    rintro e w' ⟨rfl, rfl⟩
    simp
  · obtain ⟨c1, t1, r1⟩ := hE.row i hi
    obtain ⟨c2, t2, r2⟩ := hE.row j hj
    refine (is_other (er i) (er j) c1 c2 t1 t2 w (hE.ne i j hi hj h) r1 r2).mono ?_
    rintro e w' ⟨rfl, rfl⟩
    simp [h]

set_option maxHeartbeats 400000 in
theorem codeOf_0 (er : Nat → Addr) (w : World) (hE : Errs w er) :
    Calls Tryz.prog 236 #[.iface 303 (.pointer (some (er 0)))] w fun e w' => e = .returned (.int .i64 (codeNo 0)) ∧ w' = w := by
  have e4 := hE.c4
  have e1 := hE.c1
  have e0 := hE.c0
  go_enter Tryz.func236, Tryz.ntmps236
  go_wp2_with (go_at_call 242; refine (is_errs er _ _ _ hE (by decide) (by decide)).mono ?_; rintro e w1 ⟨he, hw1⟩; simp at he; subst he; subst w1)
  go_ret
  exact ⟨rfl, rfl⟩

set_option maxHeartbeats 400000 in
theorem codeOf_1 (er : Nat → Addr) (w : World) (hE : Errs w er) :
    Calls Tryz.prog 236 #[.iface 303 (.pointer (some (er 1)))] w fun e w' => e = .returned (.int .i64 (codeNo 1)) ∧ w' = w := by
  have e4 := hE.c4
  have e1 := hE.c1
  go_enter Tryz.func236, Tryz.ntmps236
  go_wp2_with (go_at_call 242; refine (is_errs er _ _ _ hE (by decide) (by decide)).mono ?_; rintro e w1 ⟨he, hw1⟩; simp at he; subst he; subst w1)
  go_ret
  exact ⟨rfl, rfl⟩

set_option maxHeartbeats 400000 in
theorem codeOf_2 (er : Nat → Addr) (w : World) (hE : Errs w er) :
    Calls Tryz.prog 236 #[.iface 303 (.pointer (some (er 2)))] w fun e w' => e = .returned (.int .i64 (codeNo 2)) ∧ w' = w := by
  have e4 := hE.c4
  have e1 := hE.c1
  have e0 := hE.c0
  have e2 := hE.c2
  go_enter Tryz.func236, Tryz.ntmps236
  go_wp2_with (go_at_call 242; refine (is_errs er _ _ _ hE (by decide) (by decide)).mono ?_; rintro e w1 ⟨he, hw1⟩; simp at he; subst he; subst w1)
  go_ret
  exact ⟨rfl, rfl⟩

set_option maxHeartbeats 400000 in
theorem codeOf_3 (er : Nat → Addr) (w : World) (hE : Errs w er) :
    Calls Tryz.prog 236 #[.iface 303 (.pointer (some (er 3)))] w fun e w' => e = .returned (.int .i64 (codeNo 3)) ∧ w' = w := by
  have e4 := hE.c4
  have e1 := hE.c1
  have e0 := hE.c0
  have e2 := hE.c2
  have e3 := hE.c3
  go_enter Tryz.func236, Tryz.ntmps236
  go_wp2_with (go_at_call 242; refine (is_errs er _ _ _ hE (by decide) (by decide)).mono ?_; rintro e w1 ⟨he, hw1⟩; simp at he; subst he; subst w1)
  go_ret
  exact ⟨rfl, rfl⟩

set_option maxHeartbeats 400000 in
theorem codeOf_4 (er : Nat → Addr) (w : World) (hE : Errs w er) :
    Calls Tryz.prog 236 #[.iface 303 (.pointer (some (er 4)))] w fun e w' => e = .returned (.int .i64 (codeNo 4)) ∧ w' = w := by
  have e4 := hE.c4
  go_enter Tryz.func236, Tryz.ntmps236
  go_wp2_with (go_at_call 242; refine (is_errs er _ _ _ hE (by decide) (by decide)).mono ?_; rintro e w1 ⟨he, hw1⟩; simp at he; subst he; subst w1)
  go_ret
  exact ⟨rfl, rfl⟩

theorem codeOf_any (i : Nat) (hi : i < 5) (er : Nat → Addr) (w : World) (hE : Errs w er) :
    Calls Tryz.prog 236 #[.iface 303 (.pointer (some (er i)))] w fun e w' => e = .returned (.int .i64 (codeNo i)) ∧ w' = w := by
  match i, hi with
  | 0, _ => exact codeOf_0 er w hE
  | 1, _ => exact codeOf_1 er w hE
  | 2, _ => exact codeOf_2 er w hE
  | 3, _ => exact codeOf_3 er w hE
  | 4, _ => exact codeOf_4 er w hE

theorem codeNo_ne (i : Nat) : (codeNo i != 0) = true := by
  unfold codeNo; split <;> rfl
theorem asErr (v : Value) (xT : TypeId) (w : World) : (Instr.typeAssert (.iface 303 v) xT 146 true).run Tryz.prog w = .ok (.tuple #[.iface 303 v, .bool true]) w := run_typeAssert_hasB Tryz.underlying146 (by kernel_rfl) v xT w

set_option maxHeartbeats 400000 in
theorem keep_nil (p : Value) (w : World) :
    Calls Tryz.prog 218 #[p, .nilIface] w fun e w' => e = .returned (.tuple #[]) ∧ w' = w := by
  have hnil : ∀ w : World, (binOp BinOp.eql 20 .nilIface .nilIface).run Tryz.prog w = .ok (.bool true) w := fun _ => by kernel_rfl
  go_enter Tryz.func218, Tryz.ntmps218
  go_wp2
  first | go_end0 | refine bodyPost_ret (results_none rfl _ _ _) rfl ?_
  exact ⟨rfl, rfl⟩

set_option maxHeartbeats 400000 in
theorem keep_err (i : Nat) (hi : i < 5) (rb g n cap : Nat) (pl code : Int) (bs : List Int) (er : Nat → Addr) (w : World) (hR : Rdr w rb g n cap pl code bs) (hE : Errs w er) :
    Calls Tryz.prog 218 #[.pointer (some ⟨rb, 0, none⟩), .iface 303 (.pointer (some (er i)))] w fun e w' => e = .returned (.tuple #[]) ∧ w' = w.setCell ⟨rb, 2, none⟩ (.int .i64 (codeNo i)) := by
  have c2 := hR.c2
  have f2 := hR.f 2
  have hne := codeNo_ne i
  have hA := asErr
  have hnil : ∀ (v : Value) (w : World), (binOp BinOp.eql 20 (.iface 303 v) .nilIface).run Tryz.prog w = .ok (.bool false) w := fun _ _ => by kernel_rfl
  go_enter Tryz.func218, Tryz.ntmps218
  go_wp2_with (go_at_call 236; refine (codeOf_any i hi er _ hE).mono ?_; rintro e w1 ⟨rfl, hw1⟩; subst w1)
  first | go_end0 | refine bodyPost_ret (results_none rfl _ _ _) rfl ?_
  exact ⟨rfl, rfl⟩
end Go.Proofs.YtfmcbjlagdanjaaGreatDoor

/- A law of no program: a region that draws its order inside a deferred function that recovers: walked in each order that may be drawn. -/
namespace Go.Proofs.YtfmcbjlagdanjaaGreatDoor
open Go.RowKit

/-- All orders that a region may draw. -/
def regOrders (md : Region.Mode) (ops : Array Oper) : Nat → Array Bool → List (List Nat)
  | 0, _ => [[]]
  | f + 1, listed =>
    match Region.ready md ops listed with
    | [] => [[]]
    | r :: rs => (r :: rs).flatMap fun i => (regOrders md ops f (listed.setIfInBounds i true)).map (i :: ·)

theorem reg_mem (md : Region.Mode) (ops : Array Oper) : ∀ (f t : Nat) (listed : Array Bool), Region.linearise.go md ops f t listed [] ∈ regOrders md ops f listed := by
  intro f
  induction f with
  | zero => intro t listed; simp [Region.linearise.go, regOrders]
  | succ f ih =>
    intro t listed
    simp only [Region.linearise.go]
    change (match (Region.ready md ops listed)[t % (Region.ready md ops listed).length]? with
      | some i => Region.linearise.go md ops f (t / (Region.ready md ops listed).length) (listed.setIfInBounds i true) [i]
      | none => [].reverse) ∈ _
    simp only [regOrders]
    cases hr : Region.ready md ops listed with
    | nil => simp
    | cons r rs =>
      have hlt : t % (r :: rs).length < (r :: rs).length := Nat.mod_lt _ (by simp)
      rw [List.getElem?_eq_getElem hlt]
      simp only []
      rw [linearise_go_acc]
      simp only [List.reverse_singleton, List.singleton_append]
      refine List.mem_flatMap.2 ⟨_, List.getElem_mem hlt, List.mem_map.2 ⟨_, ih _ _, rfl⟩⟩

theorem wpS_region_draw {P : Program} {Q : Exit → Act → List Frame → World → Prop} {a : Act} {cs : List Frame} {w : World} {id : Nat} {ops : Array Oper} (L : List (List Nat)) (hm : P.follows .mixedOrders = true) (hL : regOrders .any ops ops.size (Array.replicate ops.size false) = L)
    (h : ∀ l ∈ L, wpOpsS P ops Q l a cs w.drew) : (Code.region id ops true).wpS P Q a cs w := by
  subst hL
  intro b k hb hr
  have h' : ∀ t, wpOpsS P ops Q (Region.schedule (P.follows .mixedOrders) ops t) a cs { w with drawn := w.drawn + 1 } := fun t => by
    simp only [Region.schedule, hm, Bool.true_or, if_true]
    exact h _ (reg_mem _ _ _ _ _)
  obtain ⟨e, a', cs', w', q, r⟩ := wp_opsS _ a cs _ (h' _) b k hb hr
  exact ⟨e, a', cs', w', q, .of_steps (.one step_region_draw) r⟩
end Go.Proofs.YtfmcbjlagdanjaaGreatDoor

/- The deferred functions of the reading calls by their contracts. -/
namespace Go.Proofs.YtfmcbjlagdanjaaGreatDoor
open Go.RowKit
set_option maxRecDepth 100000

theorem Rdr.drew {w : World} {rb g n cap : Nat} {pl code : Int} {bs : List Int} (h : Rdr w rb g n cap pl code bs) : Rdr w.drew rb g n cap pl code bs := h.drewN 1
theorem Errs.drew {w : World} {er : Nat → Addr} (h : Errs w er) : Errs w.drew er := h.drewN 1

set_option maxHeartbeats 400000 in
theorem catch39_idle (p : Addr) (rb : Nat) (w : World) (hc : w.cell? p = some (.pointer (some ⟨rb, 0, none⟩))) :
    CallsD Tryz.prog 220 #[.pointer (some p)] .returning w fun e u' w' => e = .returned (.tuple #[]) ∧ u' = .returning ∧ w' = w.drew := by
  refine callsD_of_wpS Tryz.func220 rfl fun c₀ cs hu => ?_
  refine wpS_region_draw [[0, 1, 2], [1, 0, 2]] (by kernel_rfl) (by kernel_rfl) ?_
  intro l hl
  simp only [List.mem_cons, List.not_mem_nil, or_false] at hl
  rcases hl with rfl | rfl
  all_goals
    simp [wpOpsS, go_sem, recoverD, hu, hc, Tryz.ntmps220]
    refine (keep_nil _ _).mono ?_
    rintro e w' ⟨rfl, rfl⟩
    cases c₀
    simp_all [bodyPostS, results, Tryz.results220]

set_option maxHeartbeats 400000 in
theorem catch39_err (i : Nat) (hi : i < 5) (p : Addr) (rb g n cap : Nat) (pl code : Int) (bs : List Int) (er : Nat → Addr) (older : List PanicEntry) (w : World) (hc : w.cell? p = some (.pointer (some ⟨rb, 0, none⟩))) (hR : Rdr w rb g n cap pl code bs) (hE : Errs w er) :
    CallsD Tryz.prog 220 #[.pointer (some p)] (.panicking ({ v := .iface 303 (.pointer (some (er i))), recovered := false } :: older)) w fun e u' w' =>
      e = .returned (.tuple #[]) ∧ u' = .panicking ({ v := .iface 303 (.pointer (some (er i))), recovered := true } :: older) ∧ w' = (w.setCell ⟨rb, 2, none⟩ (.int .i64 (codeNo i))).drew := by
  refine callsD_of_wpS Tryz.func220 rfl fun c₀ cs hu => ?_
  refine wpS_region_draw [[0, 1, 2], [1, 0, 2]] (by kernel_rfl) (by kernel_rfl) ?_
  intro l hl
  simp only [List.mem_cons, List.not_mem_nil, or_false] at hl
  rcases hl with rfl | rfl
  all_goals
    simp [wpOpsS, go_sem, recoverD, hu, hc, Tryz.ntmps220]
    refine (keep_err i hi rb g n cap pl code bs er _ hR.drew hE.drew).mono ?_
    rintro e w' ⟨rfl, rfl⟩
    cases c₀
    simp_all [bodyPostS, results, Tryz.results220, World.setCell_drew]

set_option maxHeartbeats 400000 in
theorem catch42_idle (p : Addr) (rb : Nat) (w : World) (hc : w.cell? p = some (.pointer (some ⟨rb, 0, none⟩))) :
    CallsD Tryz.prog 217 #[.pointer (some p)] .returning w fun e u' w' => e = .returned (.tuple #[]) ∧ u' = .returning ∧ w' = w.drew := by
  refine callsD_of_wpS Tryz.func217 rfl fun c₀ cs hu => ?_
  refine wpS_region_draw [[0, 1, 2], [1, 0, 2]] (by kernel_rfl) (by kernel_rfl) ?_
  intro l hl
  simp only [List.mem_cons, List.not_mem_nil, or_false] at hl
  rcases hl with rfl | rfl
  all_goals
    simp [wpOpsS, go_sem, recoverD, hu, hc, Tryz.ntmps217]
    refine (keep_nil _ _).mono ?_
    rintro e w' ⟨rfl, rfl⟩
    cases c₀
    simp_all [bodyPostS, results, Tryz.results217]

set_option maxHeartbeats 400000 in
theorem catch42_err (i : Nat) (hi : i < 5) (p : Addr) (rb g n cap : Nat) (pl code : Int) (bs : List Int) (er : Nat → Addr) (older : List PanicEntry) (w : World) (hc : w.cell? p = some (.pointer (some ⟨rb, 0, none⟩))) (hR : Rdr w rb g n cap pl code bs) (hE : Errs w er) :
    CallsD Tryz.prog 217 #[.pointer (some p)] (.panicking ({ v := .iface 303 (.pointer (some (er i))), recovered := false } :: older)) w fun e u' w' =>
      e = .returned (.tuple #[]) ∧ u' = .panicking ({ v := .iface 303 (.pointer (some (er i))), recovered := true } :: older) ∧ w' = (w.setCell ⟨rb, 2, none⟩ (.int .i64 (codeNo i))).drew := by
  refine callsD_of_wpS Tryz.func217 rfl fun c₀ cs hu => ?_
  refine wpS_region_draw [[0, 1, 2], [1, 0, 2]] (by kernel_rfl) (by kernel_rfl) ?_
  intro l hl
  simp only [List.mem_cons, List.not_mem_nil, or_false] at hl
  rcases hl with rfl | rfl
  all_goals
    simp [wpOpsS, go_sem, recoverD, hu, hc, Tryz.ntmps217]
    refine (keep_err i hi rb g n cap pl code bs er _ hR.drew hE.drew).mono ?_
    rintro e w' ⟨rfl, rfl⟩
    cases c₀
    simp_all [bodyPostS, results, Tryz.results217, World.setCell_drew]

set_option maxHeartbeats 400000 in
theorem catch43_idle (p : Addr) (rb : Nat) (w : World) (hc : w.cell? p = some (.pointer (some ⟨rb, 0, none⟩))) :
    CallsD Tryz.prog 221 #[.pointer (some p)] .returning w fun e u' w' => e = .returned (.tuple #[]) ∧ u' = .returning ∧ w' = w.drew := by
  refine callsD_of_wpS Tryz.func221 rfl fun c₀ cs hu => ?_
  refine wpS_region_draw [[0, 1, 2], [1, 0, 2]] (by kernel_rfl) (by kernel_rfl) ?_
  intro l hl
  simp only [List.mem_cons, List.not_mem_nil, or_false] at hl
  rcases hl with rfl | rfl
  all_goals
    simp [wpOpsS, go_sem, recoverD, hu, hc, Tryz.ntmps221]
    refine (keep_nil _ _).mono ?_
    rintro e w' ⟨rfl, rfl⟩
    cases c₀
    simp_all [bodyPostS, results, Tryz.results221]

set_option maxHeartbeats 400000 in
theorem catch43_err (i : Nat) (hi : i < 5) (p : Addr) (rb g n cap : Nat) (pl code : Int) (bs : List Int) (er : Nat → Addr) (older : List PanicEntry) (w : World) (hc : w.cell? p = some (.pointer (some ⟨rb, 0, none⟩))) (hR : Rdr w rb g n cap pl code bs) (hE : Errs w er) :
    CallsD Tryz.prog 221 #[.pointer (some p)] (.panicking ({ v := .iface 303 (.pointer (some (er i))), recovered := false } :: older)) w fun e u' w' =>
      e = .returned (.tuple #[]) ∧ u' = .panicking ({ v := .iface 303 (.pointer (some (er i))), recovered := true } :: older) ∧ w' = (w.setCell ⟨rb, 2, none⟩ (.int .i64 (codeNo i))).drew := by
  refine callsD_of_wpS Tryz.func221 rfl fun c₀ cs hu => ?_
  refine wpS_region_draw [[0, 1, 2], [1, 0, 2]] (by kernel_rfl) (by kernel_rfl) ?_
  intro l hl
  simp only [List.mem_cons, List.not_mem_nil, or_false] at hl
  rcases hl with rfl | rfl
  all_goals
    simp [wpOpsS, go_sem, recoverD, hu, hc, Tryz.ntmps221]
    refine (keep_err i hi rb g n cap pl code bs er _ hR.drew hE.drew).mono ?_
    rintro e w' ⟨rfl, rfl⟩
    cases c₀
    simp_all [bodyPostS, results, Tryz.results221, World.setCell_drew]
end Go.Proofs.YtfmcbjlagdanjaaGreatDoor

/- The faces U32 and U64 by their contracts. -/
namespace Go.Proofs.YtfmcbjlagdanjaaGreatDoor
open Go.RowKit
set_option maxRecDepth 100000

theorem Rdr.alloc {w : World} {rb g n cap : Nat} {pl code : Int} {bs : List Int} (h : Rdr w rb g n cap pl code bs) (o : Obj) : Rdr (w.alloc o) rb g n cap pl code bs :=
  h.kept (World.grownBy_alloc w o none) (by simp) (by simp)
theorem Errs.alloc {w : World} {er : Nat → Addr} (h : Errs w er) (o : Obj) : Errs (w.alloc o) er := h.grown (World.grownBy_alloc w o none) (fun _ _ => ⟨by simp, by simp⟩)
theorem Rdr.lt {w : World} {rb g n cap : Nat} {pl code : Int} {bs : List Int} (h : Rdr w rb g n cap pl code bs) : rb < w.heap.size := lt_of_block h.blk
theorem grown_setCell (w : World) (b o : Nat) (v : Value) : w.grownBy (w.setCell ⟨b, o, none⟩ v) (some b) :=
  ⟨rfl, rfl, rfl, by simp [World.setCell], fun k _ hk => Below.heap_setCell _ _ _ _ (fun e => hk (by rw [e]))⟩
theorem grown_drewN (w : World) (m : Nat) (row : Option Nat) : w.grownBy (w.drewN m) row := ⟨rfl, rfl, rfl, Nat.le_refl _, fun _ _ _ => rfl⟩
theorem grown_drew (w : World) (row : Option Nat) : w.grownBy w.drew row := ⟨rfl, rfl, rfl, Nat.le_refl _, fun _ _ _ => rfl⟩
theorem Rdr.set1 {w : World} {rb g n cap : Nat} {pl code : Int} {bs : List Int} (h : Rdr w rb g n cap pl code bs) (q : Int) : Rdr (w.setCell ⟨rb, 1, none⟩ (.int .i64 q)) rb g n cap q code bs :=
  ⟨by rw [heap_setCell_same _ _ _ _ _ _ h.blk]; rfl, h.lies.grown (grown_setCell _ _ _ _) (fun ad had => by obtain rfl := Option.some.inj had; simpa using h.apart), h.apart, by simpa [World.setCell] using h.glt⟩
theorem Rdr.set2 {w : World} {rb g n cap : Nat} {pl code : Int} {bs : List Int} (h : Rdr w rb g n cap pl code bs) (q : Int) : Rdr (w.setCell ⟨rb, 2, none⟩ (.int .i64 q)) rb g n cap pl q bs :=
  ⟨by rw [heap_setCell_same _ _ _ _ _ _ h.blk]; rfl, h.lies.grown (grown_setCell _ _ _ _) (fun ad had => by obtain rfl := Option.some.inj had; simpa using h.apart), h.apart, by simpa [World.setCell] using h.glt⟩

theorem ne_block {b c o q : Nat} (h : b ≠ c) : (⟨b, o, none⟩ : Addr) ≠ ⟨c, q, none⟩ := fun e => h (congrArg Addr.block e)

/-- What a call at a reader leaves: its place and error; nothing else that was there has turned. -/
def WentR (w w' : World) (rb g n cap : Nat) (pl code : Int) (bs : List Int) : Prop := Rdr w' rb g n cap pl code bs ∧ w.grownBy w' (some rb)

abbrev boxed (w : World) (rb : Nat) : World := w.alloc (.cells #[.pointer (some ⟨rb, 0, none⟩)] 224)
theorem boxed_grown (w : World) (rb : Nat) (row : Option Nat) : w.grownBy (boxed w rb) row := World.grownBy_alloc _ _ _

theorem went_held {w : World} {rb g n cap : Nat} {pl code : Int} {bs : List Int} (h : Rdr w rb g n cap pl code bs) : WentR w (boxed w rb) rb g n cap pl code bs := ⟨h.alloc _, boxed_grown _ _ _⟩
theorem went_err {w : World} {rb g n cap : Nat} {pl code : Int} {bs : List Int} (h : Rdr w rb g n cap pl code bs) (m : Nat) (q : Int) : WentR w ((((boxed w rb).drewN m).setCell ⟨rb, 2, none⟩ (.int .i64 q)).drew) rb g n cap pl q bs :=
  ⟨(((h.alloc _).drewN m).set2 q).drew, grown_trans (grown_trans (grown_trans (boxed_grown _ _ _) (grown_drewN _ m _)) (grown_setCell _ _ _ _)) (grown_drew _ _)⟩
theorem went_ok {w : World} {rb g n cap : Nat} {pl code : Int} {bs : List Int} (h : Rdr w rb g n cap pl code bs) (m : Nat) (q : Int) : WentR w ((((boxed w rb).drewN m).setCell ⟨rb, 1, none⟩ (.int .i64 q)).drew) rb g n cap q code bs :=
  ⟨(((h.alloc _).drewN m).set1 q).drew, grown_trans (grown_trans (grown_trans (boxed_grown _ _ _) (grown_drewN _ m _)) (grown_setCell _ _ _ _)) (grown_drew _ _)⟩

/-- What U32 and U64 answer, and where they leave the reader. -/
def rdNum (k n : Nat) (bs : List Int) (pl : Nat) (code M : Int) : Int × Nat × Int :=
  if code ≠ 0 then (0, pl, code) else if n < pl + k then (0, pl, 11) else if M < 0 ∨ M < val ((bs.drop pl).take k) then (0, pl, 12) else (val ((bs.drop pl).take k), pl + k, 0)

set_option maxHeartbeats 400000 in
theorem u32_held (rb g n cap : Nat) (pl code M : Int) (bs : List Int) (w : World) (hR : Rdr w rb g n cap pl code bs) (hc : (code != 0) = true) :
    Calls Tryz.prog 165 #[.pointer (some ⟨rb, 0, none⟩), .int .i64 M] w fun e w' => e = .returned (.int .i64 0) ∧ WentR w w' rb g n cap pl code bs := by
  have c2 := (hR.alloc (.cells #[.pointer (some ⟨rb, 0, none⟩)] 224)).c2
  have fin := went_held hR
  clear hR
  go_enter_defers Tryz.func165, Tryz.ntmps165
  go_wp2
  exact ⟨_, results_tmp rfl _ _ _, rfl, fin⟩

set_option maxHeartbeats 400000 in
theorem u32_short (rb g n cap pl : Nat) (M : Int) (bs : List Int) (er : Nat → Addr) (w : World) (hR : Rdr w rb g n cap pl 0 bs) (hE : Errs w er) (hp : pl ≤ n) (hk : n < pl + 4) (hn : cap ≤ 200000000000000) :
    Calls Tryz.prog 165 #[.pointer (some ⟨rb, 0, none⟩), .int .i64 M] w fun e w' => e = .returned (.int .i64 0) ∧ WentR w w' rb g n cap pl 11 bs := by
  have hmf : ∀ (fn : Fn) (first cap : Array Value) (w : World), (Instr.makeFunc fn first cap).run Tryz.prog w = .ok (.func fn first cap) w := fun _ _ _ _ => rfl
  have hR0 := hR.alloc (.cells #[.pointer (some ⟨rb, 0, none⟩)] 224)
  have hE0 := hE.alloc (.cells #[.pointer (some ⟨rb, 0, none⟩)] 224)
  have c2 := hR0.c2
  go_enter_defers Tryz.func165, Tryz.ntmps165
  go_wp2_with (go_at_call 219; refine (bounded_short rb g n cap pl 4 M 0 bs er _ hR0 hE0 hp hk (by omega) hn).mono ?_; rintro e w1 ⟨rfl, m0, hw1⟩; subst w1)
  refine leaves_cons (f := 220) (args := #[.pointer (some ⟨w.heap.size, 0, none⟩)]) (by simp) (by simp [go_sem]) ?_
  refine (catch39_err 4 (by omega) ⟨w.heap.size, 0, none⟩ rb g n cap pl 0 bs er [] _ ?_ (hR0.drewN m0) (hE0.drewN m0)).mono ?_
  · simp [go_sem]
  rintro e u' w'' ⟨rfl, rfl, rfl⟩
  exact ⟨_, results_tmp rfl _ _ _, rfl, went_err hR m0 11⟩

set_option maxHeartbeats 400000 in
theorem u32_wide (rb g n cap pl : Nat) (M : Int) (bs : List Int) (er : Nat → Addr) (w : World) (hR : Rdr w rb g n cap pl 0 bs) (hE : Errs w er) (hk : pl + 4 ≤ n) (hn : cap ≤ 200000000000000) (hby : ∀ x ∈ bs, 0 ≤ x ∧ x ≤ 255)
    (hM1 : M ≤ 9223372036854775807) (hw : M < 0 ∨ M < val ((bs.drop pl).take 4)) :
    Calls Tryz.prog 165 #[.pointer (some ⟨rb, 0, none⟩), .int .i64 M] w fun e w' => e = .returned (.int .i64 0) ∧ WentR w w' rb g n cap pl 12 bs := by
  have hmf : ∀ (fn : Fn) (first cap : Array Value) (w : World), (Instr.makeFunc fn first cap).run Tryz.prog w = .ok (.func fn first cap) w := fun _ _ _ _ => rfl
  have hR0 := hR.alloc (.cells #[.pointer (some ⟨rb, 0, none⟩)] 224)
  have hE0 := hE.alloc (.cells #[.pointer (some ⟨rb, 0, none⟩)] 224)
  have c2 := hR0.c2
  have HW : Hid (M < 0 ∨ M < val ((bs.drop pl).take 4)) := hw
  clear hw
  go_enter_defers Tryz.func165, Tryz.ntmps165
  go_wp2_with (go_at_call 219; refine (bounded_wide rb g n cap pl 4 M 0 bs er _ hR0 hE0 hk (by omega) (by omega) hn hby hM1 HW.out).mono ?_; rintro e w1 ⟨rfl, m0, hw1⟩; subst w1)
  refine leaves_cons (f := 220) (args := #[.pointer (some ⟨w.heap.size, 0, none⟩)]) (by simp) (by simp [go_sem]) ?_
  refine (catch39_err 1 (by omega) ⟨w.heap.size, 0, none⟩ rb g n cap pl 0 bs er [] _ ?_ (hR0.drewN m0) (hE0.drewN m0)).mono ?_
  · simp [go_sem]
  rintro e u' w'' ⟨rfl, rfl, rfl⟩
  exact ⟨_, results_tmp rfl _ _ _, rfl, went_err hR m0 12⟩

set_option maxHeartbeats 400000 in
theorem u32_ok (rb g n cap pl : Nat) (M : Int) (bs : List Int) (w : World) (hR : Rdr w rb g n cap pl 0 bs) (hk : pl + 4 ≤ n) (hn : cap ≤ 200000000000000) (hby : ∀ x ∈ bs, 0 ≤ x ∧ x ≤ 255)
    (hM1 : M ≤ 9223372036854775807) (hM0 : 0 ≤ M) (hv : val ((bs.drop pl).take 4) ≤ M) :
    Calls Tryz.prog 165 #[.pointer (some ⟨rb, 0, none⟩), .int .i64 M] w fun e w' => e = .returned (.int .i64 (val ((bs.drop pl).take 4))) ∧ WentR w w' rb g n cap (pl + 4 : Nat) 0 bs := by
  have hmf : ∀ (fn : Fn) (first cap : Array Value) (w : World), (Instr.makeFunc fn first cap).run Tryz.prog w = .ok (.func fn first cap) w := fun _ _ _ _ => rfl
  have hR0 := hR.alloc (.cells #[.pointer (some ⟨rb, 0, none⟩)] 224)
  have c2 := hR0.c2
  have hB := bounded_ok rb g n cap pl 4 M 0 bs _ hR0 hk (by omega) (by omega) hn hby hM1 hM0 hv
  generalize hV : val ((bs.drop pl).take 4) = V at *
  clear hV hby hv
  go_enter_defers Tryz.func165, Tryz.ntmps165
  go_wp2_with (go_at_call 219; refine hB.mono ?_; rintro e w1 ⟨rfl, m0, hw1⟩; subst w1)
  refine leaves_cons (f := 220) (args := #[.pointer (some ⟨w.heap.size, 0, none⟩)]) (by simp) (by simp [go_sem]) ?_
  refine (catch39_idle ⟨w.heap.size, 0, none⟩ rb _ ?_).mono ?_
  · have hlt := hR.lt
    exact (World.cell?_setCell_other _ _ _ _ (ne_block (Nat.ne_of_lt hlt))).trans (by simp [go_sem])
  rintro e u' w'' ⟨rfl, rfl, rfl⟩
  exact ⟨_, results_tmp rfl _ _ _, rfl, went_ok hR m0 _⟩

theorem u32_any (rb g n cap pl : Nat) (code M : Int) (bs : List Int) (er : Nat → Addr) (w : World) (hR : Rdr w rb g n cap pl code bs) (hE : Errs w er) (hp : pl ≤ n) (hn : cap ≤ 200000000000000) (hby : ∀ x ∈ bs, 0 ≤ x ∧ x ≤ 255) (hM1 : M ≤ 9223372036854775807) :
    Calls Tryz.prog 165 #[.pointer (some ⟨rb, 0, none⟩), .int .i64 M] w fun e w' => e = .returned (.int .i64 (rdNum 4 n bs pl code M).1) ∧ WentR w w' rb g n cap (rdNum 4 n bs pl code M).2.1 (rdNum 4 n bs pl code M).2.2 bs := by
  unfold rdNum
  by_cases hc : code ≠ 0
  · simp only [if_pos hc]
    exact u32_held rb g n cap pl code M bs w hR (by simpa using hc)
  · have hc0 : code = 0 := by omega
    subst hc0
    simp only [if_neg hc]
    by_cases hk : n < pl + 4
    · simp only [if_pos hk]
      exact u32_short rb g n cap pl M bs er w hR hE hp hk hn
    · simp only [if_neg hk]
      by_cases hv : M < 0 ∨ M < val ((bs.drop pl).take 4)
      · simp only [if_pos hv]
        exact u32_wide rb g n cap pl M bs er w hR hE (by omega) hn hby hM1 hv
      · simp only [if_neg hv]
        exact u32_ok rb g n cap pl M bs w hR (by omega) hn hby hM1 (by omega) (by omega)

set_option maxHeartbeats 400000 in
theorem u64_held (rb g n cap : Nat) (pl code M : Int) (bs : List Int) (w : World) (hR : Rdr w rb g n cap pl code bs) (hc : (code != 0) = true) :
    Calls Tryz.prog 164 #[.pointer (some ⟨rb, 0, none⟩), .int .i64 M] w fun e w' => e = .returned (.int .i64 0) ∧ WentR w w' rb g n cap pl code bs := by
  have c2 := (hR.alloc (.cells #[.pointer (some ⟨rb, 0, none⟩)] 224)).c2
  have fin := went_held hR
  clear hR
  go_enter_defers Tryz.func164, Tryz.ntmps164
  go_wp2
  exact ⟨_, results_tmp rfl _ _ _, rfl, fin⟩

set_option maxHeartbeats 400000 in
theorem u64_short (rb g n cap pl : Nat) (M : Int) (bs : List Int) (er : Nat → Addr) (w : World) (hR : Rdr w rb g n cap pl 0 bs) (hE : Errs w er) (hp : pl ≤ n) (hk : n < pl + 8) (hn : cap ≤ 200000000000000) :
    Calls Tryz.prog 164 #[.pointer (some ⟨rb, 0, none⟩), .int .i64 M] w fun e w' => e = .returned (.int .i64 0) ∧ WentR w w' rb g n cap pl 11 bs := by
  have hmf : ∀ (fn : Fn) (first cap : Array Value) (w : World), (Instr.makeFunc fn first cap).run Tryz.prog w = .ok (.func fn first cap) w := fun _ _ _ _ => rfl
  have hR0 := hR.alloc (.cells #[.pointer (some ⟨rb, 0, none⟩)] 224)
  have hE0 := hE.alloc (.cells #[.pointer (some ⟨rb, 0, none⟩)] 224)
  have c2 := hR0.c2
  go_enter_defers Tryz.func164, Tryz.ntmps164
  go_wp2_with (go_at_call 219; refine (bounded_short rb g n cap pl 8 M 0 bs er _ hR0 hE0 hp hk (by omega) hn).mono ?_; rintro e w1 ⟨rfl, m0, hw1⟩; subst w1)
  refine leaves_cons (f := 217) (args := #[.pointer (some ⟨w.heap.size, 0, none⟩)]) (by simp) (by simp [go_sem]) ?_
  refine (catch42_err 4 (by omega) ⟨w.heap.size, 0, none⟩ rb g n cap pl 0 bs er [] _ ?_ (hR0.drewN m0) (hE0.drewN m0)).mono ?_
  · simp [go_sem]
  rintro e u' w'' ⟨rfl, rfl, rfl⟩
  exact ⟨_, results_tmp rfl _ _ _, rfl, went_err hR m0 11⟩

set_option maxHeartbeats 400000 in
theorem u64_wide (rb g n cap pl : Nat) (M : Int) (bs : List Int) (er : Nat → Addr) (w : World) (hR : Rdr w rb g n cap pl 0 bs) (hE : Errs w er) (hk : pl + 8 ≤ n) (hn : cap ≤ 200000000000000) (hby : ∀ x ∈ bs, 0 ≤ x ∧ x ≤ 255)
    (hM1 : M ≤ 9223372036854775807) (hw : M < 0 ∨ M < val ((bs.drop pl).take 8)) :
    Calls Tryz.prog 164 #[.pointer (some ⟨rb, 0, none⟩), .int .i64 M] w fun e w' => e = .returned (.int .i64 0) ∧ WentR w w' rb g n cap pl 12 bs := by
  have hmf : ∀ (fn : Fn) (first cap : Array Value) (w : World), (Instr.makeFunc fn first cap).run Tryz.prog w = .ok (.func fn first cap) w := fun _ _ _ _ => rfl
  have hR0 := hR.alloc (.cells #[.pointer (some ⟨rb, 0, none⟩)] 224)
  have hE0 := hE.alloc (.cells #[.pointer (some ⟨rb, 0, none⟩)] 224)
  have c2 := hR0.c2
  have HW : Hid (M < 0 ∨ M < val ((bs.drop pl).take 8)) := hw
  clear hw
  go_enter_defers Tryz.func164, Tryz.ntmps164
  go_wp2_with (go_at_call 219; refine (bounded_wide rb g n cap pl 8 M 0 bs er _ hR0 hE0 hk (by omega) (by omega) hn hby hM1 HW.out).mono ?_; rintro e w1 ⟨rfl, m0, hw1⟩; subst w1)
  refine leaves_cons (f := 217) (args := #[.pointer (some ⟨w.heap.size, 0, none⟩)]) (by simp) (by simp [go_sem]) ?_
  refine (catch42_err 1 (by omega) ⟨w.heap.size, 0, none⟩ rb g n cap pl 0 bs er [] _ ?_ (hR0.drewN m0) (hE0.drewN m0)).mono ?_
  · simp [go_sem]
  rintro e u' w'' ⟨rfl, rfl, rfl⟩
  exact ⟨_, results_tmp rfl _ _ _, rfl, went_err hR m0 12⟩

set_option maxHeartbeats 400000 in
theorem u64_ok (rb g n cap pl : Nat) (M : Int) (bs : List Int) (w : World) (hR : Rdr w rb g n cap pl 0 bs) (hk : pl + 8 ≤ n) (hn : cap ≤ 200000000000000) (hby : ∀ x ∈ bs, 0 ≤ x ∧ x ≤ 255)
    (hM1 : M ≤ 9223372036854775807) (hM0 : 0 ≤ M) (hv : val ((bs.drop pl).take 8) ≤ M) :
    Calls Tryz.prog 164 #[.pointer (some ⟨rb, 0, none⟩), .int .i64 M] w fun e w' => e = .returned (.int .i64 (val ((bs.drop pl).take 8))) ∧ WentR w w' rb g n cap (pl + 8 : Nat) 0 bs := by
  have hmf : ∀ (fn : Fn) (first cap : Array Value) (w : World), (Instr.makeFunc fn first cap).run Tryz.prog w = .ok (.func fn first cap) w := fun _ _ _ _ => rfl
  have hR0 := hR.alloc (.cells #[.pointer (some ⟨rb, 0, none⟩)] 224)
  have c2 := hR0.c2
  have hB := bounded_ok rb g n cap pl 8 M 0 bs _ hR0 hk (by omega) (by omega) hn hby hM1 hM0 hv
  generalize hV : val ((bs.drop pl).take 8) = V at *
  clear hV hby hv
  go_enter_defers Tryz.func164, Tryz.ntmps164
  go_wp2_with (go_at_call 219; refine hB.mono ?_; rintro e w1 ⟨rfl, m0, hw1⟩; subst w1)
  refine leaves_cons (f := 217) (args := #[.pointer (some ⟨w.heap.size, 0, none⟩)]) (by simp) (by simp [go_sem]) ?_
  refine (catch42_idle ⟨w.heap.size, 0, none⟩ rb _ ?_).mono ?_
  · have hlt := hR.lt
    exact (World.cell?_setCell_other _ _ _ _ (ne_block (Nat.ne_of_lt hlt))).trans (by simp [go_sem])
  rintro e u' w'' ⟨rfl, rfl, rfl⟩
  exact ⟨_, results_tmp rfl _ _ _, rfl, went_ok hR m0 _⟩

theorem u64_any (rb g n cap pl : Nat) (code M : Int) (bs : List Int) (er : Nat → Addr) (w : World) (hR : Rdr w rb g n cap pl code bs) (hE : Errs w er) (hp : pl ≤ n) (hn : cap ≤ 200000000000000) (hby : ∀ x ∈ bs, 0 ≤ x ∧ x ≤ 255) (hM1 : M ≤ 9223372036854775807) :
    Calls Tryz.prog 164 #[.pointer (some ⟨rb, 0, none⟩), .int .i64 M] w fun e w' => e = .returned (.int .i64 (rdNum 8 n bs pl code M).1) ∧ WentR w w' rb g n cap (rdNum 8 n bs pl code M).2.1 (rdNum 8 n bs pl code M).2.2 bs := by
  unfold rdNum
  by_cases hc : code ≠ 0
  · simp only [if_pos hc]
    exact u64_held rb g n cap pl code M bs w hR (by simpa using hc)
  · have hc0 : code = 0 := by omega
    subst hc0
    simp only [if_neg hc]
    by_cases hk : n < pl + 8
    · simp only [if_pos hk]
      exact u64_short rb g n cap pl M bs er w hR hE hp hk hn
    · simp only [if_neg hk]
      by_cases hv : M < 0 ∨ M < val ((bs.drop pl).take 8)
      · simp only [if_pos hv]
        exact u64_wide rb g n cap pl M bs er w hR hE (by omega) hn hby hM1 hv
      · simp only [if_neg hv]
        exact u64_ok rb g n cap pl M bs w hR (by omega) hn hby hM1 (by omega) (by omega)
end Go.Proofs.YtfmcbjlagdanjaaGreatDoor

/- roomBehind and appendNumber by their contracts. -/
namespace Go.Proofs.YtfmcbjlagdanjaaGreatDoor
open Go.RowKit
set_option maxRecDepth 100000

set_option maxHeartbeats 400000 in
theorem room_any (ao : Option Addr) (len cap n : Nat) (bs : List Int) (w : World) (hbd : len + n ≤ 140737488355328) (hL : Lies w ao len cap bs) :
    Calls Tryz.prog 197 #[.slice ao len cap, .int .i64 n] w fun e w' => e = .returned (.slice (some ⟨w.heap.size, 0, none⟩) len (len + n)) ∧
      w'.ownsRow w.heap.size 5 1 (.slice (some ⟨w.heap.size, 0, none⟩) len (len + n)) len (bs.map (Value.int .u8)) ∧ Below w.heap.size w w' := by
  obtain ⟨i0, hi, hz0, hz1, hz2⟩ := info_parts Tryz.info5
  go_enter Tryz.func197, Tryz.ntmps197
  go_wp2_with (first
    | (at_make; refine wpList_make_own _ rfl _ _ 66 rfl w.heap.size 5 i0 (.int .u8 0) 1 Tryz.underlying66 hi hz0 hz1 _ _ _ (len + n) rfl rfl (by omega) (by rw [hz2]; omega) (by unfold maxLen; omega) (Nat.le_refl _) ?_; intro w0 hown0 hgrow0)
    | (at_builtin; refine wpList_append_fits_any _ rfl (.tmp 9) (.tmp 10) 66 rfl w.heap.size 5 i0 1 Tryz.underlying66 hi hz1 w.heap.size 0 (len + n) _ rfl hown0 _ len _ (bs.map (Value.int .u8)) rfl (by simp [hL.hlen]) hL.hnone (fun ad had t u hu => hgrow0.cell (hL.hcells ad had t u hu) (by simp)) (ints_oneCell _ _) (by omega) ?_; intro w1 hown1 hgrow1))
  go_ret
  simp only [Nat.zero_add, List.nil_append] at hown1 ⊢
  exact ⟨rfl, hown1, ((Below.refl _ _).grown hgrow0 (Nat.le_refl _) (fun k h => by cases h)).grown hgrow1 hgrow0.size (fun k hk => by cases hk; exact Nat.le_refl _)⟩

set_option maxHeartbeats 400000 in
theorem num_any (g n cap sz base : Nat) (X : Int) (bs : List Int) (w : World) (_hX0 : 0 ≤ X) (_hX1 : X ≤ 18446744073709551615) (hsz : sz ≤ 8)
    (hown : w.ownsRow base 5 1 (.slice (some ⟨g, 0, none⟩) n cap) n (bs.map (Value.int .u8))) (hfit : n + sz ≤ cap) :
    Calls Tryz.prog 196 #[.slice (some ⟨g, 0, none⟩) n cap, .int .u64 X, .int .i64 sz] w fun e w' => e = .returned (.slice (some ⟨g, 0, none⟩) (n + sz) cap) ∧
      w'.ownsRow base 5 1 (.slice (some ⟨g, 0, none⟩) (n + sz) cap) (n + sz) ((bs ++ be X sz).map (Value.int .u8)) ∧ w.grownBy w' (some g) := by
  obtain ⟨i0, hi, hz0, hz1, hz2⟩ := info_parts Tryz.info5
  go_enter Tryz.func196, Tryz.ntmps196
  go_wp2
  go_loopw [0, 7] (fun v i wr => ∃ (m : Nat) (pre : List Int), m ≤ sz ∧ i = .int .i64 ((m : Int) - 1) ∧ v = .slice (some ⟨g, 0, none⟩) (n + (sz - m)) cap ∧
      wr.ownsRow base 5 1 (.slice (some ⟨g, 0, none⟩) (n + (sz - m)) cap) (n + (sz - m)) ((bs ++ pre).map (Value.int .u8)) ∧ pre ++ be X m = be X sz ∧ w.grownBy wr (some g))
    (fun _ i _ => (intOf i + 1).toNat)
  case atStart => exact ⟨sz, [], Nat.le_refl _, by go_num, by simp, by simpa using hown, rfl, World.grownBy.refl _ _⟩
  case round =>
    obtain ⟨m, pre, hm, rfl, rfl, hownr, hpre, hgr⟩ := hrel
    by_cases hm0 : 0 < m
    · obtain ⟨m, rfl⟩ : ∃ k, m = k + 1 := ⟨m - 1, by omega⟩
      have HP : Hid (pre ++ be X (m + 1) = be X sz) := hpre
      clear hpre
      have h1 : (0 : Int) ≤ m := by omega
      have h2 : (m : Int) < 8 := by omega
      go_wp2_with (at_builtin; refine wpList_append_fits _ rfl (.tmp 14) (.tmp 20) 66 rfl base 5 i0 1 Tryz.underlying66 hi hz1 g (n + (sz - (m + 1))) cap _ rfl (hownr.alloc _) ⟨wr.heap.size, 0, none⟩ 1 1 [.int .u8 (X / 2 ^ (8 * m) % 256)] rfl rfl (cell_one_new _ _ _) (by intro u hu; simp at hu; subst hu; rfl) (by omega) ?_; intro w1 hown1 hgrow1)
      have e0 : n + (sz - (m + 1)) + 1 = n + (sz - m) := by omega
      go_roundw
      case rel =>
        refine ⟨m, pre ++ [X / 2 ^ (8 * m) % 256], by omega, by go_num, by rw [← e0], ?_, ?_, grown_trans (grown_trans hgr (World.grownBy_alloc _ _ _)) hgrow1⟩
        · rw [← e0]; simpa using hown1
        · rw [List.append_assoc]; exact HP.out
      case measure => simp [intOf]
    · have h1 : (m : Int) ≤ 0 := by omega
      have HP : Hid (pre ++ be X m = be X sz) := hpre
      clear hpre
      go_wp2
      go_ret
      obtain rfl : m = 0 := by omega
      have hpre := HP.out
      have e0 : n + (sz - 0) = n + sz := by omega
      simp only [be, List.append_nil] at hpre
      rw [← hpre]
      exact ⟨by rw [← e0]; rfl, by rw [e0] at hownr; exact hownr, hgr⟩

/-- What a Put answers: a new row of bytes, all of them from 'base' on; nothing old has turned. -/
def Made (w : World) (e : Ending) (w' : World) (n : Nat) (bs : List Int) : Prop :=
  ∃ g cap, e = .returned (.slice (some ⟨g, 0, none⟩) n cap) ∧ w'.ownsRow w.heap.size 5 1 (.slice (some ⟨g, 0, none⟩) n cap) n (bs.map (Value.int .u8)) ∧ Below w.heap.size w w'

set_option maxHeartbeats 400000 in
theorem putSum_any (ao : Option Addr) (len cap : Nat) (X : Int) (bs : List Int) (w : World) (hX0 : 0 ≤ X) (hX1 : X ≤ 18446744073709551615) (hbd : len + 8 ≤ 140737488355328) (hL : Lies w ao len cap bs) :
    Calls Tryz.prog 148 #[.slice ao len cap, .int .u64 X] w fun e w' => Made w e w' (len + 8) (bs ++ be X 8) := by
  go_enter Tryz.func148, Tryz.ntmps148
  go_wp2_with (first
    | (go_at_call 197; refine (room_any ao len cap 8 bs _ hbd hL).mono ?_; rintro e w1 ⟨rfl, hown1, hb1⟩)
    | (go_at_call 196; refine (num_any w.heap.size len (len + 8) 8 w.heap.size X bs _ hX0 hX1 (by omega) hown1 (by omega)).mono ?_; rintro e w2 ⟨rfl, hown2, hg2⟩))
  go_ret
  exact ⟨w.heap.size, len + 8, rfl, hown2, hb1.grown hg2 hb1.size (fun k hk => by cases hk; exact Nat.le_refl _)⟩
end Go.Proofs.YtfmcbjlagdanjaaGreatDoor

/- Put32 and Put64 by their contracts. -/
namespace Go.Proofs.YtfmcbjlagdanjaaGreatDoor
open Go.RowKit
set_option maxRecDepth 100000

theorem u64_wrap_bd (X : Int) : 0 ≤ IntKind.u64.wrap X ∧ IntKind.u64.wrap X ≤ 18446744073709551615 := by
  simp [IntKind.wrap, IntKind.bits, IntKind.signed]; omega

set_option maxHeartbeats 400000 in
theorem put32_any (ao : Option Addr) (len cap : Nat) (X : Int) (bs : List Int) (w : World) (hbd : len + 4 ≤ 140737488355328) (hL : Lies w ao len cap bs) :
    Calls Tryz.prog 145 #[.slice ao len cap, .int .i64 X] w fun e w' => Made w e w' (len + 4) (bs ++ be (IntKind.u64.wrap X) 4) := by
  go_enter Tryz.func145, Tryz.ntmps145
  go_wp2_with (first
    | (go_at_call 197; refine (room_any ao len cap 4 bs _ hbd hL).mono ?_; rintro e w1 ⟨rfl, hown1, hb1⟩)
    | (go_at_call 196; refine (num_any w.heap.size len (len + 4) 4 w.heap.size (IntKind.u64.wrap X) bs _ (u64_wrap_bd X).1 (u64_wrap_bd X).2 (by omega) hown1 (by omega)).mono ?_; rintro e w2 ⟨rfl, hown2, hg2⟩))
  go_ret
  exact ⟨w.heap.size, len + 4, rfl, hown2, hb1.grown hg2 hb1.size (fun k hk => by cases hk; exact Nat.le_refl _)⟩

set_option maxHeartbeats 400000 in
theorem put64_any (ao : Option Addr) (len cap : Nat) (X : Int) (bs : List Int) (w : World) (hbd : len + 8 ≤ 140737488355328) (hL : Lies w ao len cap bs) :
    Calls Tryz.prog 146 #[.slice ao len cap, .int .i64 X] w fun e w' => Made w e w' (len + 8) (bs ++ be (IntKind.u64.wrap X) 8) := by
  go_enter Tryz.func146, Tryz.ntmps146
  go_wp2_with (go_at_call 148; refine (putSum_any ao len cap (IntKind.u64.wrap X) bs _ (u64_wrap_bd X).1 (u64_wrap_bd X).2 hbd hL).mono ?_; rintro e w1 ⟨g, cap1, rfl, hown, hb⟩)
  go_ret
  exact ⟨g, cap1, rfl, hown, hb⟩
end Go.Proofs.YtfmcbjlagdanjaaGreatDoor

/- A law of no program: append(s, make([]T, k)...), T a one-cell type, where s is the call's own and has room for k more. -/
namespace Go.Proofs.YtfmcbjlagdanjaaGreatDoor
open Go.RowKit

theorem zeroCells_one (z : Value) (k : Nat) : (Builtin.zeroCells #[z] k).toList = List.replicate k z := by
  simp only [Builtin.zeroCells, Array.toList_map, Array.toList_range, List.size_toArray, List.length_cons, List.length_nil, Nat.zero_add, Nat.mul_one]
  apply List.ext_getElem <;> simp [Nat.mod_one]

theorem run_append_room_zeros {P : Program} (w : World) (t tn ty e : TypeId) (i : TypeInfo) (z : Value) (kq kn : IntKind) (ht : P.underlying t = some (.slice e)) (htn : P.underlying tn = some (.int kn)) (hi : P.info? e = some i) (hz : i.zero = some z) (hzc : z.cells = #[z]) (hone : z.oneCell' = true)
    (hs : i.size = 1) (g n cap : Nat) (cur : Array Value) (hg : w.heap[g]? = some (.cells cur e (0, 0))) (k : Nat) (hroom : n + k ≤ cap) (hfit : n + k ≤ cur.size) (hk : k ≤ 1048576) (hb : i.bytes ≤ 1048576) :
    (Builtin.append_ #[t, tn] ty #[.slice (some ⟨g, 0, none⟩) n cap, .int kq k]).run P w =
      .ok (.slice (some ⟨g, 0, none⟩) (n + k) cap) (w.setRow g (cur.toList.take n ++ List.replicate k z ++ cur.toList.drop (n + k)).toArray) := by
  have hw : IntKind.i64.wrap (k : Int) = k := by rw [IntKind.wrap_i64]; omega
  have hneg : ¬ ((k : Int) < 0) := by omega
  have hm : k * i.bytes ≤ 1048576 * 1048576 := Nat.mul_le_mul hk hb
  have h48i : ¬ (281474976710656 < (k : Int) * (i.bytes : Int)) := by
    rw [← Int.natCast_mul]
    omega
  have hst := run_storeCells_at P g n e (List.replicate k z) 0 cur w hg (by simpa using hfit) (by intro u hu; rw [List.eq_of_mem_replicate hu]; exact hone)
  simp only [Nat.add_zero, List.length_replicate] at hst
  by_cases h0 : k = 0
  · subst h0
    simp only [List.replicate_zero] at hst
    have hroom' : n ≤ cap := hroom
    simp at hst hw
    simp [Builtin.append_, run_underlying ht, run_underlying htn, sizeOf, typeInfo, hi, asInt, asIntOf, hw, hroom', Addr.add_lit, hs, hst]
  · simp [Builtin.append_, run_underlying ht, run_underlying htn, sizeOf, typeInfo, zeroValue, hi, hz, hzc, asInt, asIntOf, hw, hneg, h48i, hs, h0, hroom, Addr.add_lit, zeroCells_one, hst]

theorem wpList_append_fits_zeros {P : Program} (w : World) {ops : Array Oper} {rest : List Oper} {o : Oper} {a : Act} {Q : Exit → Act → World → Prop} (hgd : o.guard = none) (s x : Operand) (t tn : TypeId)
    (ho : o.op = .call { callee := .builtin .append, args := #[s, x], argTypes := #[t, tn] }) (base : Nat) (e : TypeId) (i : TypeInfo) (z : Value) (kq kn : IntKind) (ht : P.underlying t = some (.slice e)) (htn : P.underlying tn = some (.int kn)) (hi : P.info? e = some i) (hz : i.zero = some z) (hzc : z.cells = #[z]) (hone : z.oneCell' = true)
    (hs : i.size = 1) (hb : i.bytes ≤ 1048576) (g n cap k : Nat) (C : Int) (xs : List Value) (hsl : a.eval s = .slice (some ⟨g, 0, none⟩) n cap) (hown : w.ownsRow base e 1 (.slice (some ⟨g, 0, none⟩) n cap) n xs) (hx : a.eval x = .int kq C) (hC : C = (k : Int)) (hk : k ≤ 1048576) (hroom : n + k ≤ cap)
    (h : ∀ w', w'.ownsRow base e 1 (.slice (some ⟨g, 0, none⟩) (n + k) cap) (n + k) (xs ++ List.replicate k z) → w.grownBy w' (some g) → wpList P ops Q rest (a.put o.dst (.slice (some ⟨g, 0, none⟩) (n + k) cap)) w') : wpList P ops Q (o :: rest) a w := by
  subst hC
  have hxl : xs.length = n := by simpa using hown.1
  have hlen : (xs ++ List.replicate k z).length = (n + k) * 1 := by rw [List.length_append, hxl, List.length_replicate, Nat.mul_one]
  rcases hown.2 with ⟨hv, _⟩ | ⟨g', cap', cur, hv, hbg, hg, hnc, hcm, hcs, htake⟩
  · cases hv
  · cases hv
    have hcs' : cur.size = cap := by simpa using hcs
    have hr := run_append_room_zeros (P := P) w t tn o.type e i z kq kn ht htn hi hz hzc hone hs g n cap cur hg k hroom (by omega) hk hb
    refine Lib.wpList_append_run w hgd s x t tn ho _ _ hsl hx _ _ hr (h _ ⟨hlen, .inr ⟨g, cap, _, rfl, hbg, setRow_heap w g cur _ e _ hg, hroom, hcm, ?_, ?_⟩⟩ ⟨rfl, rfl, rfl, by simp, fun k _ hk => setRow_other w g k _ (fun e => hk (by simp [e]))⟩)
    · simp only [List.size_toArray, List.length_append, List.length_take, List.length_drop, Array.length_toList, List.length_replicate]
      omega
    · have ht' : cur.toList.take n = xs := by simpa using htake
      rw [ht', ← hlen]
      exact List.take_left
end Go.Proofs.YtfmcbjlagdanjaaGreatDoor

/- PutBytes and PutText by their contracts. -/
namespace Go.Proofs.YtfmcbjlagdanjaaGreatDoor
open Go.RowKit
set_option maxRecDepth 100000

/-- The numbers of a text's bytes. -/
def nums (s : ByteArray) : List Int := s.data.toList.map (fun b => (b.toNat : Int))
theorem nums_length (s : ByteArray) : (nums s).length = s.size := by simp [nums]

theorem bytesWorld_below (w : World) (s : ByteArray) : Below w.heap.size w (Lib.bytesWorld w 5 s) :=
  ⟨rfl, rfl, rfl, by rw [Lib.bytesWorld_size]; omega, fun k hk => Lib.bytesWorld_at_old w 5 s k hk⟩
theorem bytesWorld_lies (w : World) (s : ByteArray) : Lies (Lib.bytesWorld w 5 s) (some ⟨w.heap.size, 0, none⟩) s.size (grownCap w s.size 0 5) (nums s) := by
  refine ⟨nums_length s, grownCap_ge _ _ _ _, (fun h => by cases h), fun ad had t u hu => ?_⟩
  obtain rfl := Option.some.inj had
  have ht : t < s.size := by
    have := (List.getElem?_eq_some_iff.1 hu).1
    simpa [nums_length] using this
  rw [Addr.add_lit, Nat.zero_add, Lib.bytesWorld_cell w 5 s t ht]
  rw [← hu]
  have ht' : t < s.data.toList.length := by simpa using ht
  simp [nums, List.getD, ht]
end Go.Proofs.YtfmcbjlagdanjaaGreatDoor

/- text by its contracts. -/
namespace Go.Proofs.YtfmcbjlagdanjaaGreatDoor
open Go.RowKit
set_option maxRecDepth 100000

theorem padN_le (k : Nat) : padN k ≤ 3 := by unfold padN; omega
end Go.Proofs.YtfmcbjlagdanjaaGreatDoor

/- The face Sum by its contract. -/
namespace Go.Proofs.YtfmcbjlagdanjaaGreatDoor
open Go.RowKit
set_option maxRecDepth 100000

/-- The text of bytes. -/
def txt (l : List Int) : ByteArray := ⟨(l.map (fun x => UInt8.ofNat x.toNat)).toArray⟩
theorem fold_txt : ∀ (l : List Int) (r : ByteArray), l.foldl (fun r n => r.push (UInt8.ofNat n.toNat)) r = ⟨r.data ++ (l.map (fun x => UInt8.ofNat x.toNat)).toArray⟩
  | [], r => by simp
  | b :: l, r => by
    simp only [List.foldl_cons]
    rw [fold_txt l]
    simp [ByteArray.push]
theorem txt_size (l : List Int) : (txt l).size = l.length := by simp [txt, ByteArray.size]
theorem nums_txt (l : List Int) (h : ∀ x ∈ l, 0 ≤ x ∧ x ≤ 255) : nums (txt l) = l := by
  simp only [nums, txt, List.toList_toArray, List.map_map]
  conv => rhs; rw [← List.map_id l]
  apply List.map_congr_left
  intro x hx
  have := h x hx
  simp only [Function.comp, id]
  rw [UInt8.toNat_ofNat_of_lt' (by simp [UInt8.size]; omega)]
  omega

theorem run_string_of (w : World) (a : Addr) (n cap : Nat) (l : List Int) (hL : Lies w (some a) n cap l) : (convert 66 9 (.slice (some a) n cap)).run Tryz.prog w = .ok (.string (txt l)) w := by
  rw [run_convert_bytes_string w 66 9 5 (some a) n cap Tryz.underlying66 Tryz.underlying5 Tryz.underlying9]
  have hl := run_loadCells_list (P := Tryz.prog) w a (l.map (Value.int .u8)) (fun j v hj => hL.hcells a rfl j v hj)
  rw [List.length_map, hL.hlen] at hl
  rw [run_bytesToString w a n cap l hl, fold_txt]
  simp [txt]

/-- A piece of a row. -/
theorem Lies.sub {w : World} {g n cap : Nat} {bs : List Int} (h : Lies w (some ⟨g, 0, none⟩) n cap bs) (q p k c : Nat) (hq : 0 < k → q = p) (hk : p + k ≤ n) (hkc : k ≤ c) : Lies w (some ⟨g, q, none⟩) k c ((bs.drop p).take k) := by
  have hl : ((bs.drop p).take k).length = k := by simp [h.hlen]; omega
  refine ⟨hl, hkc, (fun h => by cases h), fun ad had t u hu => ?_⟩
  obtain rfl := Option.some.inj had
  have ht : t < k := by
    have := (List.getElem?_eq_some_iff.1 hu).1
    simp only [List.length_map, hl] at this
    exact this
  obtain rfl := hq (by omega)
  have := h.hcells _ rfl (q + t) u (by rw [← hu]; simp [ht])
  rw [Addr.add_lit] at this ⊢
  simpa using this

/-- What Text and Bytes read, and where they leave the reader. -/
def rdText (n : Nat) (bs : List Int) (pl : Nat) (code M : Int) : List Int × Nat × Int :=
  if code ≠ 0 then ([], pl, code) else
  if n < pl + 4 then ([], pl, 11) else
  if M < 0 ∨ M < val ((bs.drop pl).take 4) then ([], pl, 14) else
  if n < pl + (4 + (val ((bs.drop pl).take 4)).toNat + padN (val ((bs.drop pl).take 4)).toNat) then ([], pl, 11) else
  if ¬ ∀ t, t < padN (val ((bs.drop pl).take 4)).toNat → bs.getD (pl + (4 + (val ((bs.drop pl).take 4)).toNat) + t) 0 = 0 then ([], pl, 15) else
  ((bs.drop (pl + 4)).take (val ((bs.drop pl).take 4)).toNat, pl + (4 + (val ((bs.drop pl).take 4)).toNat + padN (val ((bs.drop pl).take 4)).toNat), 0)

theorem val4_lt (bs : List Int) (pl : Nat) (hby : ∀ x ∈ bs, 0 ≤ x ∧ x ≤ 255) : 0 ≤ val ((bs.drop pl).take 4) ∧ val ((bs.drop pl).take 4) < 4294967296 := by
  have h := val_bd ((bs.drop pl).take 4) (fun x hx => hby x (List.mem_of_mem_drop (List.mem_of_mem_take hx)))
  refine ⟨h.1, Int.lt_of_lt_of_le h.2 ?_⟩
  have hl : ((bs.drop pl).take 4).length ≤ 4 := List.length_take_le _ _
  have := Nat.pow_le_pow_right (show 0 < 256 by decide) hl
  have e : (256 : Int) ^ ((bs.drop pl).take 4).length = ((256 ^ ((bs.drop pl).take 4).length : Nat) : Int) := by simp
  rw [e]
  omega

/-- What Sum answers, and where it leaves the reader. -/
def rdSum (n : Nat) (bs : List Int) (pl : Nat) (code : Int) : Int × Nat × Int :=
  if code ≠ 0 then (0, pl, code) else if n < pl + 8 then (0, pl, 11) else (val ((bs.drop pl).take 8), pl + 8, 0)
/-- What Flag answers, and where it leaves the reader. -/
def rdFlag (n : Nat) (bs : List Int) (pl : Nat) (code : Int) : Bool × Nat × Int :=
  if code ≠ 0 then (false, pl, code) else if n < pl + 4 then (false, pl, 11) else if 1 < val ((bs.drop pl).take 4) then (false, pl, 13) else (val ((bs.drop pl).take 4) == 1, pl + 4, 0)

set_option maxHeartbeats 400000 in
theorem sum_held (rb g n cap : Nat) (pl code : Int) (bs : List Int) (w : World) (hR : Rdr w rb g n cap pl code bs) (hc : (code != 0) = true) :
    Calls Tryz.prog 166 #[.pointer (some ⟨rb, 0, none⟩)] w fun e w' => e = .returned (.int .u64 0) ∧ WentR w w' rb g n cap pl code bs := by
  have c2 := (hR.alloc (.cells #[.pointer (some ⟨rb, 0, none⟩)] 224)).c2
  have fin := went_held hR
  clear hR
  go_enter_defers Tryz.func166, Tryz.ntmps166
  go_wp2
  exact ⟨_, results_tmp rfl _ _ _, rfl, fin⟩

set_option maxHeartbeats 400000 in
theorem sum_short (rb g n cap pl : Nat) (bs : List Int) (er : Nat → Addr) (w : World) (hR : Rdr w rb g n cap pl 0 bs) (hE : Errs w er) (hp : pl ≤ n) (hk : n < pl + 8) (hn : cap ≤ 200000000000000) :
    Calls Tryz.prog 166 #[.pointer (some ⟨rb, 0, none⟩)] w fun e w' => e = .returned (.int .u64 0) ∧ WentR w w' rb g n cap pl 11 bs := by
  have hmf : ∀ (fn : Fn) (first cap : Array Value) (w : World), (Instr.makeFunc fn first cap).run Tryz.prog w = .ok (.func fn first cap) w := fun _ _ _ _ => rfl
  have hR0 := hR.alloc (.cells #[.pointer (some ⟨rb, 0, none⟩)] 224)
  have hE0 := hE.alloc (.cells #[.pointer (some ⟨rb, 0, none⟩)] 224)
  have c2 := hR0.c2
  go_enter_defers Tryz.func166, Tryz.ntmps166
  go_wp2_with (go_at_call 222; refine (number_short rb g n cap pl 8 0 bs er _ hR0 hE0 hp hk (by omega) hn).mono ?_; rintro e w1 ⟨rfl, m0, hw1⟩; subst w1)
  refine leaves_cons (f := 221) (args := #[.pointer (some ⟨w.heap.size, 0, none⟩)]) (by simp) (by simp [go_sem]) ?_
  refine (catch43_err 4 (by omega) ⟨w.heap.size, 0, none⟩ rb g n cap pl 0 bs er [] _ ?_ (hR0.drewN m0) (hE0.drewN m0)).mono ?_
  · simp [go_sem]
  rintro e u' w'' ⟨rfl, rfl, rfl⟩
  exact ⟨_, results_tmp rfl _ _ _, rfl, went_err hR m0 11⟩

set_option maxHeartbeats 400000 in
theorem sum_ok (rb g n cap pl : Nat) (bs : List Int) (w : World) (hR : Rdr w rb g n cap pl 0 bs) (hk : pl + 8 ≤ n) (hn : cap ≤ 200000000000000) (hby : ∀ x ∈ bs, 0 ≤ x ∧ x ≤ 255) :
    Calls Tryz.prog 166 #[.pointer (some ⟨rb, 0, none⟩)] w fun e w' => e = .returned (.int .u64 (val ((bs.drop pl).take 8))) ∧ WentR w w' rb g n cap (pl + 8 : Nat) 0 bs := by
  have hmf : ∀ (fn : Fn) (first cap : Array Value) (w : World), (Instr.makeFunc fn first cap).run Tryz.prog w = .ok (.func fn first cap) w := fun _ _ _ _ => rfl
  have hR0 := hR.alloc (.cells #[.pointer (some ⟨rb, 0, none⟩)] 224)
  have c1 := hR0.c1
  have c2 := hR0.c2
  have f1 := hR0.f 1
  have hnc := hR.lies.hle
  have hpi : (pl : Int) ≤ 200000000000000 := by omega
  have hB := number_ok rb g n cap pl 8 0 bs _ hR0 hk (by omega) (by omega) hn hby
  generalize hV : val ((bs.drop pl).take 8) = V at *
  clear hV hby
  go_enter_defers Tryz.func166, Tryz.ntmps166
  go_wp2_with (go_at_call 222; refine hB.mono ?_; rintro e w1 ⟨rfl, m0, hw1⟩; subst w1)
  refine leaves_cons (f := 221) (args := #[.pointer (some ⟨w.heap.size, 0, none⟩)]) (by simp) (by simp [go_sem]) ?_
  refine (catch43_idle ⟨w.heap.size, 0, none⟩ rb _ ?_).mono ?_
  · have hlt := hR.lt
    exact (World.cell?_setCell_other _ _ _ _ (ne_block (Nat.ne_of_lt hlt))).trans (by simp [go_sem])
  rintro e u' w'' ⟨rfl, rfl, rfl⟩
  exact ⟨_, results_tmp rfl _ _ _, rfl, went_ok hR m0 _⟩

theorem sum_any (rb g n cap pl : Nat) (code : Int) (bs : List Int) (er : Nat → Addr) (w : World) (hR : Rdr w rb g n cap pl code bs) (hE : Errs w er) (hp : pl ≤ n) (hn : cap ≤ 200000000000000) (hby : ∀ x ∈ bs, 0 ≤ x ∧ x ≤ 255) :
    Calls Tryz.prog 166 #[.pointer (some ⟨rb, 0, none⟩)] w fun e w' => e = .returned (.int .u64 (rdSum n bs pl code).1) ∧ WentR w w' rb g n cap (rdSum n bs pl code).2.1 (rdSum n bs pl code).2.2 bs := by
  unfold rdSum
  by_cases hc : code ≠ 0
  · simp only [if_pos hc]
    exact sum_held rb g n cap pl code bs w hR (by simpa using hc)
  · have hc0 : code = 0 := by omega
    subst hc0
    simp only [if_neg hc]
    by_cases hk : n < pl + 8
    · simp only [if_pos hk]
      exact sum_short rb g n cap pl bs er w hR hE hp hk hn
    · simp only [if_neg hk]
      exact sum_ok rb g n cap pl bs w hR (by omega) hn hby
end Go.Proofs.YtfmcbjlagdanjaaGreatDoor

/- What the texts on sums stand on. -/

/- The sum's step, forwards and backwards, as numbers; what follows of it. -/
namespace Go.Proofs.YtfmcbjlagdanjaaGreatDoor.S2
open Go.RowKit
set_option maxRecDepth 100000

/-- A number of 64 bits. -/
abbrev U (h : Int) : Prop := 0 ≤ h ∧ h ≤ 18446744073709551615
/-- A byte. -/
abbrev By (x : Int) : Prop := 0 ≤ x ∧ x ≤ 255
/-- The step of a number and a byte. -/
def stp (h x : Int) : Int := IntKind.u64.wrap (bits .xor .u64 h x * 1099511628211)
/-- The number times the inverse. -/
def inv (h : Int) : Int := IntKind.u64.wrap (h * 14886173955864302971)
/-- The step undone. -/
def und (h x : Int) : Int := bits .xor .u64 (inv h) x
def fwd (h : Int) (l : List Int) : Int := l.foldl stp h
def bwd (h : Int) (l : List Int) : Int := l.foldr (fun x g => und g x) h

theorem By.u {x : Int} (h : By x) : U x := ⟨h.1, by have := h.2; omega⟩
theorem U.wrap (n : Int) : U (IntKind.u64.wrap n) := by
  rw [IntKind.wrap_u64]; exact ⟨by omega, by omega⟩
theorem xorN {a b : Int} (ha : U a) (hb : U b) : bits .xor .u64 a b = ((a.toNat ^^^ b.toNat : Nat) : Int) := by
  have h1 := ha.1; have h2 := ha.2; have h3 := hb.1; have h4 := hb.2
  exact u64_xor a b h1 (by omega) h3 (by omega)
theorem U.xor {a b : Int} (ha : U a) (hb : U b) : U (bits .xor .u64 a b) := by
  rw [xorN ha hb]
  have h1 := ha.1; have h2 := ha.2; have h3 := hb.1; have h4 := hb.2
  have : a.toNat ^^^ b.toNat < 2 ^ 64 := Nat.xor_lt_two_pow (by omega) (by omega)
  exact ⟨by omega, by omega⟩
theorem xor_self {a b : Int} (ha : U a) (hb : U b) : bits .xor .u64 (bits .xor .u64 a b) b = a := by
  rw [xorN (ha.xor hb) hb, xorN ha hb, Int.toNat_natCast, Nat.xor_assoc, Nat.xor_self, Nat.xor_zero]
  have := ha.1; omega
theorem xor_comm {a b : Int} (ha : U a) (hb : U b) : bits .xor .u64 a b = bits .xor .u64 b a := by
  rw [xorN ha hb, xorN hb ha, Nat.xor_comm]
theorem xor_assoc {a b c : Int} (ha : U a) (hb : U b) (hc : U c) : bits .xor .u64 (bits .xor .u64 a b) c = bits .xor .u64 a (bits .xor .u64 b c) := by
  rw [xorN (ha.xor hb) hc, xorN ha hb, xorN ha (hb.xor hc), xorN hb hc, Int.toNat_natCast, Int.toNat_natCast, Nat.xor_assoc]
theorem xor_inj {a b c : Int} (ha : U a) (hb : U b) (hc : U c) (h : bits .xor .u64 a b = bits .xor .u64 a c) : b = c := by
  have e1 := xor_self hb ha
  have e2 := xor_self hc ha
  rw [xor_comm hb ha] at e1
  rw [xor_comm hc ha] at e2
  rw [← e1, ← e2, h]
theorem U.stp (h x : Int) : U (stp h x) := U.wrap _
theorem U.inv (h : Int) : U (inv h) := U.wrap _
theorem U.und (h : Int) {x : Int} (hx : By x) : U (und h x) := (U.inv h).xor hx.u
theorem inv_mul {a : Int} (ha : U a) : inv (IntKind.u64.wrap (a * 1099511628211)) = a := by
  have h1 := ha.1; have h2 := ha.2
  unfold inv
  rw [IntKind.wrap_u64, IntKind.wrap_u64]
  omega
theorem mul_inv {a : Int} (ha : U a) : IntKind.u64.wrap (inv a * 1099511628211) = a := by
  have h1 := ha.1; have h2 := ha.2
  unfold inv
  rw [IntKind.wrap_u64, IntKind.wrap_u64]
  omega
theorem und_stp {h x : Int} (hh : U h) (hx : By x) : und (stp h x) x = h := by
  unfold und stp
  rw [inv_mul (hh.xor hx.u), xor_self hh hx.u]
theorem stp_und {h x : Int} (hh : U h) (hx : By x) : stp (und h x) x = h := by
  unfold und stp
  rw [xor_self (U.inv h) hx.u, mul_inv hh]
theorem U.fwd {h : Int} (l : List Int) (hh : U h) : U (fwd h l) := by
  induction l generalizing h with
  | nil => exact hh
  | cons x l ih => exact ih (U.stp h x)
theorem U.bwd {h : Int} (l : List Int) (hl : ∀ x ∈ l, By x) (hh : U h) : U (bwd h l) := by
  cases l with
  | nil => exact hh
  | cons x l => exact U.und _ (hl x (by simp))
theorem fwd_append (h : Int) (a b : List Int) : fwd h (a ++ b) = fwd (fwd h a) b := List.foldl_append ..
theorem bwd_append (h : Int) (a b : List Int) : bwd h (a ++ b) = bwd (bwd h b) a := List.foldr_append ..
theorem bwd_fwd {h : Int} (l : List Int) (hl : ∀ x ∈ l, By x) (hh : U h) : bwd (fwd h l) l = h := by
  induction l generalizing h with
  | nil => rfl
  | cons x l ih =>
    show und (bwd (fwd (stp h x) l) l) x = h
    rw [ih (fun y hy => hl y (by simp [hy])) (U.stp h x), und_stp hh (hl x (by simp))]
theorem fwd_bwd {h : Int} (l : List Int) (hl : ∀ x ∈ l, By x) (hh : U h) : fwd (bwd h l) l = h := by
  induction l with
  | nil => rfl
  | cons x l ih =>
    show fwd (stp (und (bwd h l) x) x) l = h
    rw [stp_und (U.bwd l (fun y hy => hl y (by simp [hy])) hh) (hl x (by simp)), ih (fun y hy => hl y (by simp [hy]))]
theorem fwd_inj {g h : Int} (l : List Int) (hl : ∀ x ∈ l, By x) (hg : U g) (hh : U h) : fwd g l = fwd h l ↔ g = h := by
  refine ⟨fun e => ?_, fun e => by rw [e]⟩
  rw [← bwd_fwd l hl hg, ← bwd_fwd l hl hh, e]
theorem bwd_inj {g h : Int} (l : List Int) (hl : ∀ x ∈ l, By x) (hg : U g) (hh : U h) : bwd g l = bwd h l ↔ g = h := by
  refine ⟨fun e => ?_, fun e => by rw [e]⟩
  rw [← fwd_bwd l hl hg, ← fwd_bwd l hl hh, e]
end Go.Proofs.YtfmcbjlagdanjaaGreatDoor.S2

/- sum.step, sum.undo, sum.inverseOfPrime by their contracts. -/
namespace Go.Proofs.YtfmcbjlagdanjaaGreatDoor.S2
open Go.RowKit
set_option maxRecDepth 100000

set_option maxHeartbeats 400000 in
theorem step_any (h x : Int) (w : World) (hx : By x) :
    Calls Tryz.prog 230 #[.int .u64 h, .int .u8 x] w fun e w' => e = .returned (.int .u64 (stp h x)) ∧ w' = w := by
  have h1 := hx.1; have h2 := hx.2
  go_enter Tryz.func230, Tryz.ntmps230
  go_wp2
  go_ret
  exact ⟨rfl, rfl⟩
end Go.Proofs.YtfmcbjlagdanjaaGreatDoor.S2
