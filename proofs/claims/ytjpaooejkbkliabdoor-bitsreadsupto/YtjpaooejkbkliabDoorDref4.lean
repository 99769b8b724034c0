/- annexref1.Reader.Bytes by its contract. -/
import Derived.Test.YtjpaooejkbkliabDoorDref3
import Derived.Deep.RegionHeld3
namespace Go.Proofs.YtjpaooejkbkliabDoor
open Go.RowKit
set_option maxRecDepth 100000

/-- What the document's Bytes hands out. -/
def HandD (e : Ending) (w' : World) (l : List Int) : Prop := ∃ ao c, e = .returned (.slice ao l.length c) ∧ Lies w' ao l.length c l
theorem handD_nil (w' : World) : HandD (.returned (.slice none 0 0)) w' [] := ⟨none, 0, rfl, Lies.nil _⟩

set_option maxHeartbeats 400000 in
theorem dBytes_held (rb n cap : Nat) (ao : Option Addr) (pl code M : Int) (bs : List Int) (w : World) (hR : RdD w rb ao n cap pl code bs) (hc : (code != 0) = true) :
    Calls Tryd.prog 27 #[.pointer (some ⟨rb, 0, none⟩), .int .i64 M] w fun e w' => HandD e w' [] ∧ WentD w w' rb ao n cap pl code bs := by
  have hb := dnumber_held rb n cap 4 ao pl code bs w hR hc
  go_enter Tryd.func27, Tryd.ntmps27
  go_wp2_with (go_at_call 43; refine hb.mono ?_; rintro e w1 ⟨rfl, hw1⟩; subst w1)
  go_ret
  exact ⟨handD_nil _, hR, grown_same _ _⟩
set_option maxHeartbeats 400000 in
theorem dBytes_short (rb n cap pl : Nat) (ao : Option Addr) (M : Int) (bs : List Int) (w : World) (hR : RdD w rb ao n cap pl 0 bs) (hp : pl ≤ n) (hk : n < pl + 4) (hn : n ≤ 200000000000000) :
    Calls Tryd.prog 27 #[.pointer (some ⟨rb, 0, none⟩), .int .i64 M] w fun e w' => HandD e w' [] ∧ WentD w w' rb ao n cap pl 11 bs := by
  have hb := dnumber_short rb n cap pl 4 ao bs w hR hp hk hn (by omega)
  go_enter Tryd.func27, Tryd.ntmps27
  go_wp2_with (go_at_call 43; refine hb.mono ?_; rintro e w1 ⟨rfl, hw1⟩)
  go_ret
  exact ⟨handD_nil _, hw1⟩
set_option maxHeartbeats 400000 in
theorem dBytes_long (rb n cap pl : Nat) (ao : Option Addr) (M : Int) (bs : List Int) (w : World) (hR : RdD w rb ao n cap pl 0 bs) (hk : pl + 4 ≤ n) (hn : n ≤ 200000000000000) (hby : ∀ x ∈ bs, 0 ≤ x ∧ x ≤ 255) (hM1 : M ≤ 9223372036854775807) (hv : M < 0 ∨ M < val ((bs.drop pl).take 4)) :
    Calls Tryd.prog 27 #[.pointer (some ⟨rb, 0, none⟩), .int .i64 M] w fun e w' => HandD e w' [] ∧ WentD w w' rb ao n cap pl 14 bs := by
  have hb := dnumber_ok rb n cap pl 4 ao bs w hR hk (by omega) (by omega) hn hby
  have f2 := hR.f 2
  have c2 := hR.c2
  generalize val ((bs.drop pl).take 4) = V at *
  by_cases hM : M < 0
  · clear hv
    go_enter Tryd.func27, Tryd.ntmps27
    go_wp2_with (go_at_call 43; refine hb.mono ?_; rintro e w1 ⟨rfl, m, hw1⟩; subst w1)
    go_ret
    exact ⟨handD_nil _, (hR.drewN m).set2 14, grown_trans (grown_drewN _ _ _) (grown_setCell _ _ _ _)⟩
  · have hv2 : M < V := by omega
    have hM0 : 0 ≤ M := by omega
    have hMw : IntKind.u64.wrap M = M := Go.IntWalk.u64_in M ⟨hM0, by omega⟩
    clear hv hM
    go_enter Tryd.func27, Tryd.ntmps27
    go_wp2_with (go_at_call 43; refine hb.mono ?_; rintro e w1 ⟨rfl, m, hw1⟩; subst w1)
    go_ret
    exact ⟨handD_nil _, (hR.drewN m).set2 14, grown_trans (grown_drewN _ _ _) (grown_setCell _ _ _ _)⟩
set_option maxHeartbeats 800000 in
theorem dBytes_short2 (rb n cap pl k : Nat) (ao : Option Addr) (M : Int) (bs : List Int) (w : World) (hR : RdD w rb ao n cap pl 0 bs) (hk : pl + 4 ≤ n) (hn : n ≤ 200000000000000) (hby : ∀ x ∈ bs, 0 ≤ x ∧ x ≤ 255) (hM0 : 0 ≤ M) (hM1 : M ≤ 9223372036854775807) (hv : val ((bs.drop pl).take 4) = k) (hkM : (k : Int) ≤ M) (hk32 : k < 4294967296) (hs : n < pl + (4 + k + padN k)) :
    Calls Tryd.prog 27 #[.pointer (some ⟨rb, 0, none⟩), .int .i64 M] w fun e w' => HandD e w' [] ∧ WentD w w' rb ao n cap pl 11 bs := by
  have hb := dnumber_ok rb n cap pl 4 ao bs w hR hk (by omega) (by omega) hn hby
  rw [hv] at hb
  have c0 := hR.c0
  have c1 := hR.c1
  have f2 := hR.f 2
  have c2 := hR.c2
  have hMw : IntKind.u64.wrap M = M := Go.IntWalk.u64_in M ⟨hM0, by omega⟩
  have hpad : ((4 : Int) - (k : Int) % 4) % 4 = (padN k : Int) := by unfold padN; omega
  have hlt : (n : Int) - pl < 4 + k + padN k := by omega
  have hpd : (padN k : Int) ≤ 3 := by unfold padN; omega
  have hni : (n : Int) ≤ 200000000000000 := by omega
  have hki : (k : Int) < 4294967296 := by omega
  have hpl : (pl : Int) ≤ 200000000000000 := by omega
  have hk0 : (0 : Int) ≤ k := by omega
  clear hv hs hk32
  have hp0 : (0 : Int) ≤ padN k := by omega
  generalize (padN k : Int) = p at *
  generalize (k : Int) = V at *
  have hw1 : IntKind.i64.wrap (4 + V) = 4 + V := by rw [IntKind.wrap_i64]; omega
  have hw2 : IntKind.i64.wrap (4 + V + p) = 4 + V + p := by rw [IntKind.wrap_i64]; omega
  have hw3 : IntKind.i64.wrap ((n : Int) - pl) = (n : Int) - pl := by rw [IntKind.wrap_i64]; omega
  go_enter Tryd.func27, Tryd.ntmps27
  go_wp2_with (go_at_call 43; refine hb.mono ?_; rintro e w1 ⟨rfl, m, hw1⟩; subst w1)
  rw [hpad]
  go_quiet (fail)
  go_wp2
  go_ret
  exact ⟨handD_nil _, (hR.drewN (m + nq)).set2 11, grown_trans (grown_drewN _ _ _) (grown_setCell _ _ _ _)⟩
end Go.Proofs.YtjpaooejkbkliabDoor
