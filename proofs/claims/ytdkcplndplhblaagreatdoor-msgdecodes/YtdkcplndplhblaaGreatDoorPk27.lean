/- The document's own reader (annexref1.Reader) in memory; number and bounded by their contracts. -/
import Derived.Test.YtdkcplndplhblaaGreatDoorPk03
import Derived.Deep.RegionHeld3
import Derived.Test.YtdkcplndplhblaaGreatDoorPk01
import Derived.Maps.AppendAt
namespace Go.Proofs.YtdkcplndplhblaaGreatDoor
open Go.RowKit
set_option maxRecDepth 100000

/-- Block rb is an annexref1.Reader: its bytes bs, its place, its error. -/
structure RdD (w : World) (rb : Nat) (ao : Option Addr) (n cap : Nat) (pl code : Int) (bs : List Int) : Prop where
  blk : w.heap[rb]? = some (.cells #[.slice ao n cap, .int .i64 pl, .int .i64 code] 147 (0, 0))
  lies : Lies w ao n cap bs
  apart : ∀ ad, ao = some ad → ad.block ≠ rb
theorem RdD.c0 {w : World} {rb n cap : Nat} {ao : Option Addr} {pl code : Int} {bs : List Int} (h : RdD w rb ao n cap pl code bs) : w.cell? ⟨rb, 0, none⟩ = some (.slice ao n cap) := by simp [World.cell?, h.blk]
theorem RdD.c1 {w : World} {rb n cap : Nat} {ao : Option Addr} {pl code : Int} {bs : List Int} (h : RdD w rb ao n cap pl code bs) : w.cell? ⟨rb, 1, none⟩ = some (.int .i64 pl) := by simp [World.cell?, h.blk]
theorem RdD.c2 {w : World} {rb n cap : Nat} {ao : Option Addr} {pl code : Int} {bs : List Int} (h : RdD w rb ao n cap pl code bs) : w.cell? ⟨rb, 2, none⟩ = some (.int .i64 code) := by simp [World.cell?, h.blk]
theorem RdD.f {w : World} {rb n cap : Nat} {ao : Option Addr} {pl code : Int} {bs : List Int} (h : RdD w rb ao n cap pl code bs) (o : Nat) : w.frozen? ⟨rb, o, none⟩ = false := by simp [World.frozen?, h.blk]
theorem RdD.drewN {w : World} {rb n cap : Nat} {ao : Option Addr} {pl code : Int} {bs : List Int} (h : RdD w rb ao n cap pl code bs) (m : Nat) : RdD (w.drewN m) rb ao n cap pl code bs :=
  ⟨h.blk, ⟨h.lies.hlen, h.lies.hle, h.lies.hnone, h.lies.hcells⟩, h.apart⟩
theorem RdD.set1 {w : World} {rb n cap : Nat} {ao : Option Addr} {pl code : Int} {bs : List Int} (h : RdD w rb ao n cap pl code bs) (q : Int) : RdD (w.setCell ⟨rb, 1, none⟩ (.int .i64 q)) rb ao n cap q code bs :=
  ⟨heap_setCell_same w rb 1 _ _ _ h.blk, h.lies.grown (grown_setCell w rb 1 _) (fun ad had => by simpa using h.apart ad had), h.apart⟩
theorem RdD.set2 {w : World} {rb n cap : Nat} {ao : Option Addr} {pl code : Int} {bs : List Int} (h : RdD w rb ao n cap pl code bs) (q : Int) : RdD (w.setCell ⟨rb, 2, none⟩ (.int .i64 q)) rb ao n cap pl q bs :=
  ⟨heap_setCell_same w rb 2 _ _ _ h.blk, h.lies.grown (grown_setCell w rb 2 _) (fun ad had => by simpa using h.apart ad had), h.apart⟩
/-- The reader has gone on; nothing else old has turned. -/
def WentD (w w' : World) (rb : Nat) (ao : Option Addr) (n cap : Nat) (pl code : Int) (bs : List Int) : Prop := RdD w' rb ao n cap pl code bs ∧ w.grownBy w' (some rb)

set_option maxHeartbeats 400000 in
theorem dnumber_held (rb n cap k : Nat) (ao : Option Addr) (pl code : Int) (bs : List Int) (w : World) (hR : RdD w rb ao n cap pl code bs) (hc : (code != 0) = true) :
    Calls Tryz.prog 111 #[.pointer (some ⟨rb, 0, none⟩), .int .i64 k] w fun e w' => e = .returned (.tuple #[.int .u64 0, .bool false]) ∧ w' = w := by
  have c2 := hR.c2
  go_enter Tryz.func111, Tryz.ntmps111
  go_wp2
  go_ret2
  exact ⟨rfl, rfl⟩

set_option maxHeartbeats 400000 in
theorem dnumber_short (rb n cap pl k : Nat) (ao : Option Addr) (bs : List Int) (w : World) (hR : RdD w rb ao n cap pl 0 bs) (hp : pl ≤ n) (hk : n < pl + k) (hn : n ≤ 200000000000000) (hk8 : k ≤ 8) :
    Calls Tryz.prog 111 #[.pointer (some ⟨rb, 0, none⟩), .int .i64 k] w fun e w' => e = .returned (.tuple #[.int .u64 0, .bool false]) ∧ WentD w w' rb ao n cap pl 11 bs := by
  have c0 := hR.c0
  have c1 := hR.c1
  have c2 := hR.c2
  have f2 := hR.f 2
  have hlt : (n : Int) - pl < k := by omega
  have hni : (n : Int) ≤ 200000000000000 := by omega
  have hpi : (pl : Int) ≤ n := by omega
  go_enter Tryz.func111, Tryz.ntmps111
  go_wp2
  go_quiet (fail)
  go_wp2
  go_ret2
  exact ⟨rfl, (hR.drewN _).set2 11, grown_trans (grown_drewN _ _ _) (grown_setCell _ _ _ _)⟩

theorem val_take_succ (bs : List Int) (pl i : Nat) (h : pl + i < bs.length) : val ((bs.drop pl).take (i + 1)) = val ((bs.drop pl).take i) * 256 + bs.getD (pl + i) 0 := by
  have : (bs.drop pl).take (i + 1) = (bs.drop pl).take i ++ [bs.getD (pl + i) 0] := by
    rw [List.take_succ_eq_append_getElem (by simp; omega)]
    simp [List.getD, h]
  rw [this, val_snoc]
theorem pow256 {a b : Nat} (h : a ≤ b) : (256 : Int) ^ a ≤ 256 ^ b := by
  have := Nat.pow_le_pow_right (n := 256) (by decide) h
  exact_mod_cast this
theorem val_take_bd (bs : List Int) (pl i : Nat) (hby : ∀ x ∈ bs, 0 ≤ x ∧ x ≤ 255) : 0 ≤ val ((bs.drop pl).take i) ∧ val ((bs.drop pl).take i) < 256 ^ i := by
  have h := val_bd ((bs.drop pl).take i) (fun x hx => hby x (List.mem_of_mem_drop (List.mem_of_mem_take hx)))
  refine ⟨h.1, Int.lt_of_lt_of_le h.2 ?_⟩
  exact pow256 (by simp; omega)

set_option maxHeartbeats 800000 in
theorem dnumber_ok (rb n cap pl k : Nat) (ao : Option Addr) (bs : List Int) (w : World) (hR : RdD w rb ao n cap pl 0 bs) (hk : pl + k ≤ n) (hk0 : 0 < k) (hk8 : k ≤ 8) (hn : n ≤ 200000000000000) (hby : ∀ x ∈ bs, 0 ≤ x ∧ x ≤ 255) :
    Calls Tryz.prog 111 #[.pointer (some ⟨rb, 0, none⟩), .int .i64 k] w fun e w' => e = .returned (.tuple #[.int .u64 (val ((bs.drop pl).take k)), .bool true]) ∧ ∃ m, w' = w.drewN m := by
  have c0 := hR.c0
  have c1 := hR.c1
  have c2 := hR.c2
  obtain ⟨b, o, rfl, hcs⟩ := hR.lies.at (by omega)
  have hlen := hR.lies.hlen
  have hge : ((n : Int) - pl < k) = False := by simp; omega
  have hni : (n : Int) ≤ 200000000000000 := by omega
  have hki : (k : Int) ≤ 8 := by omega
  have hpi : (pl : Int) + k ≤ n := by omega
  go_enter Tryz.func111, Tryz.ntmps111
  go_wp2
  go_quiet (fail)
  go_wp2
  go_loopw [6, 7] (fun x i wr => ∃ j m : Nat, j ≤ k ∧ i = .int .i64 j ∧ x = .int .u64 (val ((bs.drop pl).take j)) ∧ wr = w.drewN m) (fun _ i _ => k - (intOf i).toNat)
  case atStart => exact ⟨0, _, Nat.zero_le _, rfl, by simp [val], rfl⟩
  case round =>
    obtain ⟨j, m, hj, rfl, rfl, hwr⟩ := hrel
    subst wr
    by_cases hlt : j < k
    · have hji : (j : Int) < k := by omega
      have hcell := hcs (pl + j) (by omega)
      have hv := val_take_succ bs pl j (by omega)
      have hbd := val_take_bd bs pl j hby
      have hx : 0 ≤ bs.getD (pl + j) 0 ∧ bs.getD (pl + j) 0 ≤ 255 := by
        have h1 : pl + j < bs.length := by omega
        have : bs.getD (pl + j) 0 = bs[pl + j] := by simp [List.getD, h1]
        rw [this]; exact hby _ (List.getElem_mem h1)
      have hp8 : (256 : Int) ^ j ≤ 72057594037927936 := by
        have : (256 : Int) ^ j ≤ 256 ^ 7 := pow256 (by omega)
        simpa using this
      have hb2 : val ((bs.drop pl).take j) < 72057594037927936 := Int.lt_of_lt_of_le hbd.2 hp8
      have hb1 := hbd.1
      have hx1 := hx.1
      have hx2 := hx.2
      have HV : Hid _ := hv
      have hw1 : IntKind.i64.wrap ((pl : Int) + j) = (pl : Int) + j := by rw [IntKind.wrap_i64]; omega
      clear hcs hv hbd hx hp8 hby
      generalize val ((bs.drop pl).take j) = V at *
      generalize bs.getD (pl + j) 0 = C at *
      go_wp2
      go_quiet (fail)
      go_wp2
      go_roundw
      case rel => exact ⟨j + 1, m + nq, by omega, by go_num, by first | (rw [HV.out]; done) | (rw [HV.out]; go_num), by first | rfl | exact World.drewN_drewN _ _ _ | simp⟩
      case measure => simp [intOf]; omega
    · have hji : (k : Int) ≤ j := by omega
      obtain rfl : j = k := by omega
      clear hcs
      go_wp2
      go_ret2
      exact ⟨rfl, m, rfl⟩

set_option maxHeartbeats 400000 in
theorem dbounded_held (rb n cap k : Nat) (ao : Option Addr) (pl code M : Int) (bs : List Int) (w : World) (hR : RdD w rb ao n cap pl code bs) (hc : (code != 0) = true) :
    Calls Tryz.prog 110 #[.pointer (some ⟨rb, 0, none⟩), .int .i64 k, .int .i64 M] w fun e w' => e = .returned (.int .i64 0) ∧ WentD w w' rb ao n cap pl code bs := by
  go_enter Tryz.func110, Tryz.ntmps110
  go_wp2_with (go_at_call 111; refine (dnumber_held rb n cap k ao pl code bs _ hR hc).mono ?_; rintro e w1 ⟨rfl, hw1⟩; subst w1)
  go_ret
  exact ⟨rfl, hR, ⟨rfl, rfl, rfl, Nat.le_refl _, fun _ _ _ => rfl⟩⟩

set_option maxHeartbeats 400000 in
theorem dbounded_short (rb n cap pl k : Nat) (ao : Option Addr) (M : Int) (bs : List Int) (w : World) (hR : RdD w rb ao n cap pl 0 bs) (hp : pl ≤ n) (hk : n < pl + k) (hn : n ≤ 200000000000000) (hk8 : k ≤ 8) :
    Calls Tryz.prog 110 #[.pointer (some ⟨rb, 0, none⟩), .int .i64 k, .int .i64 M] w fun e w' => e = .returned (.int .i64 0) ∧ WentD w w' rb ao n cap pl 11 bs := by
  go_enter Tryz.func110, Tryz.ntmps110
  go_wp2_with (go_at_call 111; refine (dnumber_short rb n cap pl k ao bs _ hR hp hk hn hk8).mono ?_; rintro e w1 ⟨rfl, hw1⟩)
  go_ret
  exact ⟨rfl, hw1⟩

set_option maxHeartbeats 400000 in
theorem dbounded_neg (rb n cap pl k : Nat) (ao : Option Addr) (M : Int) (bs : List Int) (w : World) (hR : RdD w rb ao n cap pl 0 bs) (hk : pl + k ≤ n) (hk0 : 0 < k) (hk8 : k ≤ 8) (hn : n ≤ 200000000000000) (hby : ∀ x ∈ bs, 0 ≤ x ∧ x ≤ 255) (hM : M < 0) :
    Calls Tryz.prog 110 #[.pointer (some ⟨rb, 0, none⟩), .int .i64 k, .int .i64 M] w fun e w' => e = .returned (.int .i64 0) ∧ WentD w w' rb ao n cap pl 12 bs := by
  have hnum := dnumber_ok rb n cap pl k ao bs w hR hk hk0 hk8 hn hby
  have f2 := hR.f 2
  have c2 := hR.c2
  generalize val ((bs.drop pl).take k) = V at *
  go_enter Tryz.func110, Tryz.ntmps110
  go_wp2_with (go_at_call 111; refine hnum.mono ?_; rintro e w1 ⟨rfl, m, hw1⟩; subst w1)
  go_ret
  exact ⟨rfl, (hR.drewN m).set2 12, grown_trans (grown_drewN _ _ _) (grown_setCell _ _ _ _)⟩

set_option maxHeartbeats 400000 in
theorem dbounded_wide (rb n cap pl k : Nat) (ao : Option Addr) (M : Int) (bs : List Int) (w : World) (hR : RdD w rb ao n cap pl 0 bs) (hk : pl + k ≤ n) (hk0 : 0 < k) (hk8 : k ≤ 8) (hn : n ≤ 200000000000000) (hby : ∀ x ∈ bs, 0 ≤ x ∧ x ≤ 255) (hM : 0 ≤ M) (hM1 : M ≤ 9223372036854775807) (hV : M < val ((bs.drop pl).take k)) :
    Calls Tryz.prog 110 #[.pointer (some ⟨rb, 0, none⟩), .int .i64 k, .int .i64 M] w fun e w' => e = .returned (.int .i64 0) ∧ WentD w w' rb ao n cap pl 12 bs := by
  have hnum := dnumber_ok rb n cap pl k ao bs w hR hk hk0 hk8 hn hby
  have f2 := hR.f 2
  have c2 := hR.c2
  have hMw : IntKind.u64.wrap M = M := Go.IntWalk.u64_in M ⟨hM, by omega⟩
  generalize val ((bs.drop pl).take k) = V at *
  go_enter Tryz.func110, Tryz.ntmps110
  go_wp2_with (go_at_call 111; refine hnum.mono ?_; rintro e w1 ⟨rfl, m, hw1⟩; subst w1)
  go_ret
  exact ⟨rfl, (hR.drewN m).set2 12, grown_trans (grown_drewN _ _ _) (grown_setCell _ _ _ _)⟩

set_option maxHeartbeats 400000 in
theorem dbounded_ok (rb n cap pl k : Nat) (ao : Option Addr) (M : Int) (bs : List Int) (w : World) (hR : RdD w rb ao n cap pl 0 bs) (hk : pl + k ≤ n) (hk0 : 0 < k) (hk8 : k ≤ 8) (hn : n ≤ 200000000000000) (hby : ∀ x ∈ bs, 0 ≤ x ∧ x ≤ 255) (hM : 0 ≤ M) (hM1 : M ≤ 9223372036854775807) (hV : val ((bs.drop pl).take k) ≤ M) :
    Calls Tryz.prog 110 #[.pointer (some ⟨rb, 0, none⟩), .int .i64 k, .int .i64 M] w fun e w' => e = .returned (.int .i64 (val ((bs.drop pl).take k))) ∧ WentD w w' rb ao n cap ((pl + k : Nat) : Int) 0 bs := by
  have hnum := dnumber_ok rb n cap pl k ao bs w hR hk hk0 hk8 hn hby
  have hV0 := (val_take_bd bs pl k hby).1
  have f1 := hR.f 1
  have c1 := hR.c1
  have hMw : IntKind.u64.wrap M = M := Go.IntWalk.u64_in M ⟨hM, by omega⟩
  have hpk : (pl : Int) + k ≤ 200000000000000 := by omega
  have hset := (fun m => (hR.drewN m).set1 ((pl : Int) + k))
  have HSET : Hid _ := hset
  clear hset
  generalize val ((bs.drop pl).take k) = V at *
  go_enter Tryz.func110, Tryz.ntmps110
  go_wp2_with (go_at_call 111; refine hnum.mono ?_; rintro e w1 ⟨rfl, m, hw1⟩; subst w1)
  go_ret
  refine ⟨by first | rfl | go_num, ?_, grown_trans (grown_drewN _ _ _) (grown_setCell _ _ _ _)⟩
  have := HSET.out m
  rwa [show ((pl + k : Nat) : Int) = (pl : Int) + k by omega]

/-- What U32 and U64 answer, the document's. -/
theorem dbounded_any (rb n cap pl k : Nat) (ao : Option Addr) (code M : Int) (bs : List Int) (w : World) (hR : RdD w rb ao n cap pl code bs) (hp : pl ≤ n) (hk0 : 0 < k) (hk8 : k ≤ 8) (hn : n ≤ 200000000000000) (hby : ∀ x ∈ bs, 0 ≤ x ∧ x ≤ 255) (hM1 : M ≤ 9223372036854775807) :
    Calls Tryz.prog 110 #[.pointer (some ⟨rb, 0, none⟩), .int .i64 k, .int .i64 M] w fun e w' => e = .returned (.int .i64 (rdNum k n bs pl code M).1) ∧ WentD w w' rb ao n cap (rdNum k n bs pl code M).2.1 (rdNum k n bs pl code M).2.2 bs := by
  unfold rdNum
  by_cases hc : code ≠ 0
  · simp only [if_pos hc]
    exact dbounded_held rb n cap k ao pl code M bs w hR (by simpa using hc)
  · have hc0 : code = 0 := by omega
    subst hc0
    simp only [if_neg hc]
    by_cases hk : n < pl + k
    · simp only [if_pos hk]
      exact dbounded_short rb n cap pl k ao M bs w hR hp hk hn hk8
    · simp only [if_neg hk]
      by_cases hM : M < 0
      · simp only [hM, true_or, if_true]
        exact dbounded_neg rb n cap pl k ao M bs w hR (by omega) hk0 hk8 hn hby hM
      · by_cases hv : M < val ((bs.drop pl).take k)
        · simp only [hv, or_true, if_true]
          exact dbounded_wide rb n cap pl k ao M bs w hR (by omega) hk0 hk8 hn hby (by omega) hM1 hv
        · simp only [hM, hv, or_self, if_false]
          exact dbounded_ok rb n cap pl k ao M bs w hR (by omega) hk0 hk8 hn hby (by omega) hM1 (by omega)
end Go.Proofs.YtdkcplndplhblaaGreatDoor

/- The document's own reader: U32, U64, Sum, Flag, Err, Close by their contracts. -/
namespace Go.Proofs.YtdkcplndplhblaaGreatDoor
open Go.RowKit
set_option maxRecDepth 100000

theorem grown_same (w : World) (row : Option Nat) : w.grownBy w row := ⟨rfl, rfl, rfl, Nat.le_refl _, fun _ _ _ => rfl⟩

set_option maxHeartbeats 400000 in
theorem dU32 (rb n cap pl : Nat) (ao : Option Addr) (code M : Int) (bs : List Int) (w : World) (hR : RdD w rb ao n cap pl code bs) (hp : pl ≤ n) (hn : n ≤ 200000000000000) (hby : ∀ x ∈ bs, 0 ≤ x ∧ x ≤ 255) (hM1 : M ≤ 9223372036854775807) :
    Calls Tryz.prog 64 #[.pointer (some ⟨rb, 0, none⟩), .int .i64 M] w fun e w' => e = .returned (.int .i64 (rdNum 4 n bs pl code M).1) ∧ WentD w w' rb ao n cap (rdNum 4 n bs pl code M).2.1 (rdNum 4 n bs pl code M).2.2 bs := by
  have hb := dbounded_any rb n cap pl 4 ao code M bs w hR hp (by omega) (by omega) hn hby hM1
  generalize rdNum 4 n bs pl code M = q at *
  go_enter Tryz.func64, Tryz.ntmps64
  go_wp2_with (go_at_call 110; refine hb.mono ?_; rintro e w1 ⟨rfl, hw1⟩)
  go_ret
  exact ⟨rfl, hw1⟩
set_option maxHeartbeats 400000 in
theorem dU64 (rb n cap pl : Nat) (ao : Option Addr) (code M : Int) (bs : List Int) (w : World) (hR : RdD w rb ao n cap pl code bs) (hp : pl ≤ n) (hn : n ≤ 200000000000000) (hby : ∀ x ∈ bs, 0 ≤ x ∧ x ≤ 255) (hM1 : M ≤ 9223372036854775807) :
    Calls Tryz.prog 65 #[.pointer (some ⟨rb, 0, none⟩), .int .i64 M] w fun e w' => e = .returned (.int .i64 (rdNum 8 n bs pl code M).1) ∧ WentD w w' rb ao n cap (rdNum 8 n bs pl code M).2.1 (rdNum 8 n bs pl code M).2.2 bs := by
  have hb := dbounded_any rb n cap pl 8 ao code M bs w hR hp (by omega) (by omega) hn hby hM1
  generalize rdNum 8 n bs pl code M = q at *
  go_enter Tryz.func65, Tryz.ntmps65
  go_wp2_with (go_at_call 110; refine hb.mono ?_; rintro e w1 ⟨rfl, hw1⟩)
  go_ret
  exact ⟨rfl, hw1⟩

set_option maxHeartbeats 800000 in
theorem dSum (rb n cap pl : Nat) (ao : Option Addr) (code : Int) (bs : List Int) (w : World) (hR : RdD w rb ao n cap pl code bs) (hp : pl ≤ n) (hn : n ≤ 200000000000000) (hby : ∀ x ∈ bs, 0 ≤ x ∧ x ≤ 255) :
    Calls Tryz.prog 109 #[.pointer (some ⟨rb, 0, none⟩)] w fun e w' => e = .returned (.int .u64 (rdSum n bs pl code).1) ∧ WentD w w' rb ao n cap (rdSum n bs pl code).2.1 (rdSum n bs pl code).2.2 bs := by
  unfold rdSum
  by_cases hc : code ≠ 0
  · simp only [if_pos hc]
    have hb := dnumber_held rb n cap 8 ao pl code bs w hR (by simpa using hc)
    go_enter Tryz.func109, Tryz.ntmps109
    go_wp2_with (go_at_call 111; refine hb.mono ?_; rintro e w1 ⟨rfl, hw1⟩; subst w1)
    go_ret
    exact ⟨rfl, hR, grown_same _ _⟩
  · obtain rfl : code = 0 := by omega
    simp only [if_neg hc]
    by_cases hk : n < pl + 8
    · simp only [if_pos hk]
      have hb := dnumber_short rb n cap pl 8 ao bs w hR hp hk hn (by omega)
      go_enter Tryz.func109, Tryz.ntmps109
      go_wp2_with (go_at_call 111; refine hb.mono ?_; rintro e w1 ⟨rfl, hw1⟩)
      go_ret
      exact ⟨rfl, hw1⟩
    · simp only [if_neg hk]
      have hb := dnumber_ok rb n cap pl 8 ao bs w hR (by omega) (by omega) (by omega) hn hby
      have f1 := hR.f 1
      have c1 := hR.c1
      have hpk : (pl : Int) + 8 ≤ 200000000000000 := by omega
      have HSET : Hid (∀ m, RdD ((w.drewN m).setCell ⟨rb, 1, none⟩ (.int .i64 ((pl : Int) + 8))) rb ao n cap ((pl : Int) + 8) 0 bs) := fun m => (hR.drewN m).set1 ((pl : Int) + 8)
      generalize val ((bs.drop pl).take 8) = V at *
      go_enter Tryz.func109, Tryz.ntmps109
      go_wp2_with (go_at_call 111; refine hb.mono ?_; rintro e w1 ⟨rfl, m, hw1⟩; subst w1)
      go_ret
      refine ⟨rfl, ?_, grown_trans (grown_drewN _ _ _) (grown_setCell _ _ _ _)⟩
      have := HSET.out m
      rwa [show ((pl + 8 : Nat) : Int) = (pl : Int) + 8 by omega]

set_option maxHeartbeats 800000 in
theorem dFlag (rb n cap pl : Nat) (ao : Option Addr) (code : Int) (bs : List Int) (w : World) (hR : RdD w rb ao n cap pl code bs) (hp : pl ≤ n) (hn : n ≤ 200000000000000) (hby : ∀ x ∈ bs, 0 ≤ x ∧ x ≤ 255) :
    Calls Tryz.prog 74 #[.pointer (some ⟨rb, 0, none⟩)] w fun e w' => e = .returned (.bool (rdFlag n bs pl code).1) ∧ WentD w w' rb ao n cap (rdFlag n bs pl code).2.1 (rdFlag n bs pl code).2.2 bs := by
  unfold rdFlag
  by_cases hc : code ≠ 0
  · simp only [if_pos hc]
    have hb := dnumber_held rb n cap 4 ao pl code bs w hR (by simpa using hc)
    go_enter Tryz.func74, Tryz.ntmps74
    go_wp2_with (go_at_call 111; refine hb.mono ?_; rintro e w1 ⟨rfl, hw1⟩; subst w1)
    go_ret
    exact ⟨rfl, hR, grown_same _ _⟩
  · obtain rfl : code = 0 := by omega
    simp only [if_neg hc]
    by_cases hk : n < pl + 4
    · simp only [if_pos hk]
      have hb := dnumber_short rb n cap pl 4 ao bs w hR hp hk hn (by omega)
      go_enter Tryz.func74, Tryz.ntmps74
      go_wp2_with (go_at_call 111; refine hb.mono ?_; rintro e w1 ⟨rfl, hw1⟩)
      go_ret
      exact ⟨rfl, hw1⟩
    · simp only [if_neg hk]
      have hb := dnumber_ok rb n cap pl 4 ao bs w hR (by omega) (by omega) (by omega) hn hby
      have f1 := hR.f 1
      have c1 := hR.c1
      have f2 := hR.f 2
      have c2 := hR.c2
      have hpk : (pl : Int) + 4 ≤ 200000000000000 := by omega
      have hV0 := (val_take_bd bs pl 4 hby).1
      have HSET : Hid (∀ m, RdD ((w.drewN m).setCell ⟨rb, 1, none⟩ (.int .i64 ((pl : Int) + 4))) rb ao n cap ((pl : Int) + 4) 0 bs) := fun m => (hR.drewN m).set1 ((pl : Int) + 4)
      generalize val ((bs.drop pl).take 4) = V at *
      by_cases hv : 1 < V
      · simp only [if_pos hv]
        go_enter Tryz.func74, Tryz.ntmps74
        go_wp2_with (go_at_call 111; refine hb.mono ?_; rintro e w1 ⟨rfl, m, hw1⟩; subst w1)
        go_ret
        exact ⟨rfl, (hR.drewN m).set2 13, grown_trans (grown_drewN _ _ _) (grown_setCell _ _ _ _)⟩
      · simp only [if_neg hv]
        have h01 : V = 0 ∨ V = 1 := by omega
        clear hv hV0
        rcases h01 with rfl | rfl
        all_goals
          go_enter Tryz.func74, Tryz.ntmps74
          go_wp2_with (go_at_call 111; refine hb.mono ?_; rintro e w1 ⟨rfl, m, hw1⟩; subst w1)
          go_ret
          refine ⟨rfl, ?_, grown_trans (grown_drewN _ _ _) (grown_setCell _ _ _ _)⟩
          have hfin := HSET.out m
          rwa [show ((pl + 4 : Nat) : Int) = (pl : Int) + 4 by omega]

set_option maxHeartbeats 400000 in
theorem dErr (rb n cap : Nat) (ao : Option Addr) (pl code : Int) (bs : List Int) (w : World) (hR : RdD w rb ao n cap pl code bs) :
    Calls Tryz.prog 66 #[.pointer (some ⟨rb, 0, none⟩)] w fun e w' => e = .returned (.tuple #[.int .i64 code, .int .i64 pl]) ∧ ∃ m, w' = w.drewN m := by
  have c1 := hR.c1
  have c2 := hR.c2
  go_enter Tryz.func66, Tryz.ntmps66
  go_wp2
  go_quiet (fail)
  go_wp2
  go_ret2
  exact ⟨rfl, _, rfl⟩

set_option maxHeartbeats 800000 in
theorem dClose (rb n cap pl : Nat) (ao : Option Addr) (code : Int) (bs : List Int) (w : World) (hR : RdD w rb ao n cap pl code bs) :
    Calls Tryz.prog 71 #[.pointer (some ⟨rb, 0, none⟩)] w fun e w' => e = .returned (.int .i64 (rdClose n pl code)) ∧ WentD w w' rb ao n cap pl (rdClose n pl code) bs := by
  have c0 := hR.c0
  have c1 := hR.c1
  have c2 := hR.c2
  have f2 := hR.f 2
  unfold rdClose
  by_cases hc : code = 0
  · subst hc
    by_cases hp : pl < n
    · rw [if_pos ⟨rfl, hp⟩]
      have hpi : decide ((pl : Int) < (n : Int)) = true := by simpa using hp
      go_enter Tryz.func71, Tryz.ntmps71
      go_wp2
      go_quiet (fail)
      go_wp2
      go_ret
      exact ⟨rfl, (hR.drewN _).set2 16, grown_trans (grown_drewN _ _ _) (grown_setCell _ _ _ _)⟩
    · rw [if_neg (fun h => hp h.2)]
      have hpi : decide ((pl : Int) < (n : Int)) = false := by simp; omega
      go_enter Tryz.func71, Tryz.ntmps71
      go_wp2
      go_quiet (fail)
      go_wp2
      go_ret
      exact ⟨rfl, hR.drewN _, grown_drewN _ _ _⟩
  · rw [if_neg (fun h => hc h.1)]
    have hci : (code == 0) = false := by simpa using hc
    go_enter Tryz.func71, Tryz.ntmps71
    go_wp2
    go_quiet (fail)
    go_wp2
    go_ret
    exact ⟨rfl, hR.drewN _, grown_drewN _ _ _⟩
end Go.Proofs.YtdkcplndplhblaaGreatDoor

/- annexref.AllZero by its contract; bits.Reader.Err; annexref1.NewReader. -/
namespace Go.Proofs.YtdkcplndplhblaaGreatDoor
open Go.RowKit
set_option maxRecDepth 100000

set_option maxHeartbeats 400000 in
theorem zero_pos (b o c n : Nat) (xs : List Int) (w : World) (hn : n ≤ 200000000000000) (hl : xs.length = n)
    (ha : ∀ t, t < n → w.cell? ⟨b, o + t, none⟩ = some (.int .u8 (xs.getD t 0))) :
    Calls Tryz.prog 112 #[.slice (some ⟨b, o, none⟩) n c] w fun e w' => e = .returned (.bool (decide (∀ t, t < n → xs.getD t 0 = 0))) ∧ w' = w := by
  have hni : (n : Int) ≤ 200000000000000 := by omega
  go_enter Tryz.func112, Tryz.ntmps112
  go_wp2
  go_loopw [3] (fun i wr => ∃ k : Nat, k ≤ n ∧ i = .int .i64 k ∧ wr = w ∧ (∀ t, t < k → xs.getD t 0 = 0)) (fun i _ => n - (intOf i).toNat)
  case atStart => exact ⟨0, Nat.zero_le _, rfl, rfl, fun t ht => by omega⟩
  case round =>
    obtain ⟨k, hk, rfl, hwr, hz⟩ := hrel
    subst wr
    have HZ : Hid (∀ t, t < k → xs.getD t 0 = 0) := hz
    clear hz
    by_cases hlt : k < n
    · have ga := ha k hlt
      have hki : (k : Int) < n := by omega
      clear ha
      by_cases hx : xs.getD k 0 = 0
      · have hxb : (xs.getD k 0 != 0) = false := by simpa using hx
        have HX : Hid (xs.getD k 0 = 0) := hx
        clear hx
        generalize hC : xs.getD k 0 = C at ga hxb
        clear hC
        go_wp2
        go_roundw
        case rel =>
          refine ⟨k + 1, by omega, by go_num, by trivial, fun t ht => ?_⟩
          by_cases h : t < k
          · exact HZ.out t h
          · obtain rfl : t = k := by omega
            exact HX.out
        case measure => simp [intOf]; omega
      · have hxb : (xs.getD k 0 != 0) = true := by simpa using hx
        have HX : Hid (¬ xs.getD k 0 = 0) := hx
        clear hx
        generalize hC : xs.getD k 0 = C at ga hxb
        clear hC
        go_wp2
        go_ret
        refine ⟨?_, rfl⟩
        rw [decide_eq_false (fun h => HX.out (h k hlt))]
        rfl
    · have hki : (n : Int) ≤ k := by omega
      clear ha
      go_wp2
      go_ret
      refine ⟨?_, rfl⟩
      rw [decide_eq_true (fun t ht => HZ.out t (by omega))]
      rfl

set_option maxHeartbeats 400000 in
theorem zero_nil (ao : Option Addr) (c : Nat) (w : World) :
    Calls Tryz.prog 112 #[.slice ao 0 c] w fun e w' => e = .returned (.bool true) ∧ w' = w := by
  go_enter Tryz.func112, Tryz.ntmps112
  go_wp2
  refine wp_loop_rounds 1 ?_
  rw [rounds_succ]
  go_wp2
  go_ret
  exact ⟨rfl, rfl⟩

/-- AllZero, of any list. -/
theorem zero_any (ao : Option Addr) (n c : Nat) (xs : List Int) (w : World) (hn : n ≤ 200000000000000) (hL : Lies w ao n c xs) :
    Calls Tryz.prog 112 #[.slice ao n c] w fun e w' => e = .returned (.bool (decide (∀ t, t < n → xs.getD t 0 = 0))) ∧ w' = w := by
  by_cases h0 : 0 < n
  · obtain ⟨b, o, rfl, hc⟩ := hL.at h0
    exact zero_pos b o c n xs w hn hL.hlen hc
  · obtain rfl : n = 0 := by omega
    refine (zero_nil ao c w).mono ?_
    rintro e w' ⟨rfl, rfl⟩
    exact ⟨by simp, rfl⟩

set_option maxHeartbeats 400000 in
theorem errD_any (rb g n cap : Nat) (pl code : Int) (bs : List Int) (w : World) (hR : Rdr w rb g n cap pl code bs) :
    Calls Tryz.prog 128 #[.pointer (some ⟨rb, 0, none⟩)] w fun e w' => e = .returned (.tuple #[.int .i64 code, .int .i64 pl]) ∧ ∃ m, w' = w.drewN m := by
  have c1 := hR.c1
  have c2 := hR.c2
  go_enter Tryz.func128, Tryz.ntmps128
  go_wp2
  go_quiet (fail)
  go_wp2
  go_ret2
  exact ⟨rfl, _, rfl⟩

set_option maxHeartbeats 400000 in
theorem dNew (ao : Option Addr) (n cap : Nat) (bs : List Int) (w : World) (hn : n ≤ 140737488355328) (hL : Lies w ao n cap bs) :
    Calls Tryz.prog 108 #[.slice ao n cap] w fun e w' => ∃ rb a' c', e = .returned (.pointer (some ⟨rb, 0, none⟩)) ∧ RdD w' rb a' n c' 0 0 bs ∧ w.heap.size ≤ rb ∧ (∀ ad, a' = some ad → w.heap.size ≤ ad.block) ∧ Below w.heap.size w w' := by
  go_enter Tryz.func108, Tryz.ntmps108
  go_wp2_with (go_at_call 35; refine (bytes29_any ao n cap bs _ hn hL).mono ?_; rintro e w1 ⟨a1, c1, rfl, hown, hb⟩)
  go_ret
  have hlo : ∀ ad, a1 = some ad → w.heap.size ≤ ad.block ∧ ad.block < w1.heap.size := fun ad had => by
    subst had
    rcases hown.2 with ⟨hv, _⟩ | ⟨g, cap', cur, hv, hg, hh, _⟩
    · cases hv
    · cases hv
      exact ⟨hg, lt_of_block hh⟩
  refine ⟨w1.heap.size, a1, c1, rfl, ⟨heap_alloc_new _ _, (Lies.owned hown).boxed _, fun ad had e => ?_⟩, hb.size, fun ad had => (hlo ad had).1, hb.alloc hb.size _⟩
  have := (hlo ad had).2
  omega
end Go.Proofs.YtdkcplndplhblaaGreatDoor

/- annexref1.Reader.Bytes by its contract. -/
namespace Go.Proofs.YtdkcplndplhblaaGreatDoor
open Go.RowKit
set_option maxRecDepth 100000

/-- What the document's Bytes hands out. -/
def HandD (e : Ending) (w' : World) (l : List Int) : Prop := ∃ ao c, e = .returned (.slice ao l.length c) ∧ Lies w' ao l.length c l
theorem handD_nil (w' : World) : HandD (.returned (.slice none 0 0)) w' [] := ⟨none, 0, rfl, Lies.nil _⟩

set_option maxHeartbeats 400000 in
theorem dBytes_held (rb n cap : Nat) (ao : Option Addr) (pl code M : Int) (bs : List Int) (w : World) (hR : RdD w rb ao n cap pl code bs) (hc : (code != 0) = true) :
    Calls Tryz.prog 70 #[.pointer (some ⟨rb, 0, none⟩), .int .i64 M] w fun e w' => HandD e w' [] ∧ WentD w w' rb ao n cap pl code bs := by
  have hb := dnumber_held rb n cap 4 ao pl code bs w hR hc
  go_enter Tryz.func70, Tryz.ntmps70
  go_wp2_with (go_at_call 111; refine hb.mono ?_; rintro e w1 ⟨rfl, hw1⟩; subst w1)
  go_ret
  exact ⟨handD_nil _, hR, grown_same _ _⟩
set_option maxHeartbeats 400000 in
theorem dBytes_short (rb n cap pl : Nat) (ao : Option Addr) (M : Int) (bs : List Int) (w : World) (hR : RdD w rb ao n cap pl 0 bs) (hp : pl ≤ n) (hk : n < pl + 4) (hn : n ≤ 200000000000000) :
    Calls Tryz.prog 70 #[.pointer (some ⟨rb, 0, none⟩), .int .i64 M] w fun e w' => HandD e w' [] ∧ WentD w w' rb ao n cap pl 11 bs := by
  have hb := dnumber_short rb n cap pl 4 ao bs w hR hp hk hn (by omega)
  go_enter Tryz.func70, Tryz.ntmps70
  go_wp2_with (go_at_call 111; refine hb.mono ?_; rintro e w1 ⟨rfl, hw1⟩)
  go_ret
  exact ⟨handD_nil _, hw1⟩
set_option maxHeartbeats 400000 in
theorem dBytes_long (rb n cap pl : Nat) (ao : Option Addr) (M : Int) (bs : List Int) (w : World) (hR : RdD w rb ao n cap pl 0 bs) (hk : pl + 4 ≤ n) (hn : n ≤ 200000000000000) (hby : ∀ x ∈ bs, 0 ≤ x ∧ x ≤ 255) (hM1 : M ≤ 9223372036854775807) (hv : M < 0 ∨ M < val ((bs.drop pl).take 4)) :
    Calls Tryz.prog 70 #[.pointer (some ⟨rb, 0, none⟩), .int .i64 M] w fun e w' => HandD e w' [] ∧ WentD w w' rb ao n cap pl 14 bs := by
  have hb := dnumber_ok rb n cap pl 4 ao bs w hR hk (by omega) (by omega) hn hby
  have f2 := hR.f 2
  have c2 := hR.c2
  generalize val ((bs.drop pl).take 4) = V at *
  by_cases hM : M < 0
  · clear hv
    go_enter Tryz.func70, Tryz.ntmps70
    go_wp2_with (go_at_call 111; refine hb.mono ?_; rintro e w1 ⟨rfl, m, hw1⟩; subst w1)
    go_ret
    exact ⟨handD_nil _, (hR.drewN m).set2 14, grown_trans (grown_drewN _ _ _) (grown_setCell _ _ _ _)⟩
  · have hv2 : M < V := by omega
    have hM0 : 0 ≤ M := by omega
    have hMw : IntKind.u64.wrap M = M := Go.IntWalk.u64_in M ⟨hM0, by omega⟩
    clear hv hM
    go_enter Tryz.func70, Tryz.ntmps70
    go_wp2_with (go_at_call 111; refine hb.mono ?_; rintro e w1 ⟨rfl, m, hw1⟩; subst w1)
    go_ret
    exact ⟨handD_nil _, (hR.drewN m).set2 14, grown_trans (grown_drewN _ _ _) (grown_setCell _ _ _ _)⟩
set_option maxHeartbeats 800000 in
theorem dBytes_short2 (rb n cap pl k : Nat) (ao : Option Addr) (M : Int) (bs : List Int) (w : World) (hR : RdD w rb ao n cap pl 0 bs) (hk : pl + 4 ≤ n) (hn : n ≤ 200000000000000) (hby : ∀ x ∈ bs, 0 ≤ x ∧ x ≤ 255) (hM0 : 0 ≤ M) (hM1 : M ≤ 9223372036854775807) (hv : val ((bs.drop pl).take 4) = k) (hkM : (k : Int) ≤ M) (hk32 : k < 4294967296) (hs : n < pl + (4 + k + padN k)) :
    Calls Tryz.prog 70 #[.pointer (some ⟨rb, 0, none⟩), .int .i64 M] w fun e w' => HandD e w' [] ∧ WentD w w' rb ao n cap pl 11 bs := by
  have hb := dnumber_ok rb n cap pl 4 ao bs w hR hk (by omega) (by omega) hn hby
  rw [hv] at hb
  have c0 := hR.c0
  have c1 := hR.c1
  have f2 := hR.f 2
  have c2 := hR.c2
  have hMw : IntKind.u64.wrap M = M := Go.IntWalk.u64_in M ⟨hM0, by omega⟩
  have hpad : ((4 : Int) - (k : Int) % 4) % 4 = (padN k : Int) := by unfold padN; omega
  have hlt : (n : Int) - pl < 4 + k + padN k := by omega
  have hpd : (padN k : Int) ≤ 3 := by unfold padN; omega
  have hni : (n : Int) ≤ 200000000000000 := by omega
  have hki : (k : Int) < 4294967296 := by omega
  have hpl : (pl : Int) ≤ 200000000000000 := by omega
  have hk0 : (0 : Int) ≤ k := by omega
  clear hv hs hk32
  have hp0 : (0 : Int) ≤ padN k := by omega
  generalize (padN k : Int) = p at *
  generalize (k : Int) = V at *
  have hw1 : IntKind.i64.wrap (4 + V) = 4 + V := by rw [IntKind.wrap_i64]; omega
  have hw2 : IntKind.i64.wrap (4 + V + p) = 4 + V + p := by rw [IntKind.wrap_i64]; omega
  have hw3 : IntKind.i64.wrap ((n : Int) - pl) = (n : Int) - pl := by rw [IntKind.wrap_i64]; omega
  go_enter Tryz.func70, Tryz.ntmps70
  go_wp2_with (go_at_call 111; refine hb.mono ?_; rintro e w1 ⟨rfl, m, hw1⟩; subst w1)
  rw [hpad]
  go_quiet (fail)
  go_wp2
  go_ret
  exact ⟨handD_nil _, (hR.drewN (m + nq)).set2 11, grown_trans (grown_drewN _ _ _) (grown_setCell _ _ _ _)⟩
end Go.Proofs.YtdkcplndplhblaaGreatDoor

/- append onto a slice that the call owns: in its own row, or in a new block, and then the old row is as it was. -/
namespace Go.Proofs.YtdkcplndplhblaaGreatDoor
open Go.RowKit

section
variable {P : Program} (w : World)

/-- Where the new slice lies. -/
def Laid (w w' : World) (v v' : Value) (n k : Nat) : Prop :=
  (∃ g cap, v = .slice (some ⟨g, 0, none⟩) n cap ∧ v' = .slice (some ⟨g, 0, none⟩) k cap ∧ w.grownBy w' (some g)) ∨ (∃ cap', v' = .slice (some ⟨w.heap.size, 0, none⟩) k cap' ∧ w.grownBy w' none)

theorem run_append_own_split (base : Nat) (t ty e : TypeId) (i : TypeInfo) (z : Value) (size bytes : Nat) (ht : P.underlying t = some (.slice e)) (hi : P.info? e = some i) (hz : i.zero = some z)
    (hsize : i.size = size) (hby : i.bytes = bytes) (hzs : z.cells.size = size) (hsz : 0 < size)
    (v : Value) (n : Nat) (xs : List Value) (hown : w.ownsRow base e size v n xs)
    (a : Addr) (m c : Nat) (news : List Value) (hm : 0 < m) (hl : news.length = m * size) (hnews : ∀ j u, news[j]? = some u → w.cell? (a.add j) = some u) (h1 : ∀ u ∈ news, u.oneCell' = true)
    (h63 : n + m ≤ maxLen) (hbytes : (n + m) * bytes ≤ 140737488355328) (hbase : base ≤ w.heap.size) :
    ∃ v' w', (Builtin.append_ #[t, t] ty #[v, .slice (some a) m c]).run P w = .ok v' w' ∧ w'.ownsRow base e size v' (n + m) (xs ++ news) ∧ Laid w w' v v' n (n + m) := by
  obtain ⟨v', w', hr, h2, h3, _, _⟩ := run_append_own_at (P := P) w base t ty e i z size bytes ht hi hz hsize hby hzs hsz v n xs hown a m c news hl hnews h1 h63 hbytes hbase
  refine ⟨v', w', hr, h2, ?_⟩
  subst hsize
  subst hby
  have hsmall : n + m ≤ 9223372036854775807 := by simp only [maxLen] at h63; omega
  rcases hown.2 with ⟨rfl, rfl⟩ | ⟨g, cap, cur, rfl, hbg, hg, hnc, hcm, hcs, htake⟩
  · have hr2 := run_append_nil (P := P) w t ty e i z ht hi hz a m c news hl hnews (by omega) (by omega) (by have hb := hbytes; simp only [Nat.zero_add] at hb; omega)
    rw [hr2] at hr
    cases hr
    right
    exact ⟨_, by rw [Nat.zero_add], ⟨rfl, rfl, rfl, by simp, fun k hk _ => Below.heap_alloc w.drew _ k hk⟩⟩
  · by_cases hroom : n + m ≤ cap
    · have hfit : n * i.size + news.length ≤ cur.size := by rw [hl, hcs, ← Nat.add_mul]; exact Nat.mul_le_mul_right _ hroom
      have hr2 := run_append_room (P := P) w t ty e i ht hi g n cap cur hg a m c news hl hnews h1 hroom hfit
      rw [hr2] at hr
      cases hr
      left
      exact ⟨g, cap, rfl, rfl, h3⟩
    · have holds : ∀ j u, xs[j]? = some u → w.cell? ((⟨g, 0, none⟩ : Addr).add j) = some u := hown.cells (g := g) rfl
      have hr2 := run_append_grow (P := P) w t ty e i z ht hi hz ⟨g, 0, none⟩ n cap xs hown.1 holds a m c news hl hnews (by omega) (by omega) (growslice_fits (by omega) hbytes)
      rw [hr2] at hr
      cases hr
      right
      exact ⟨_, rfl, ⟨rfl, rfl, rfl, by simp, fun k hk _ => Below.heap_alloc w.drew _ k hk⟩⟩

theorem wpList_append_own_split {ops : Array Oper} {rest : List Oper} {o : Oper} {a : Act} {Q : Exit → Act → World → Prop} (hgd : o.guard = none) (s x : Operand) (t : TypeId)
    (ho : o.op = .call { callee := .builtin .append, args := #[s, x], argTypes := #[t, t] })
    (base : Nat) (e : TypeId) (i : TypeInfo) (z : Value) (size bytes : Nat) (ht : P.underlying t = some (.slice e)) (hi : P.info? e = some i) (hz : i.zero = some z)
    (hsize : i.size = size) (hby : i.bytes = bytes) (hzs : z.cells.size = size) (hsz : 0 < size)
    (v : Value) (n : Nat) (xs : List Value) (hs : a.eval s = v) (hown : w.ownsRow base e size v n xs)
    (ad : Addr) (m c : Nat) (news : List Value) (hm : 0 < m) (hx : a.eval x = .slice (some ad) m c) (hl : news.length = m * size) (hnews : ∀ j u, news[j]? = some u → w.cell? (ad.add j) = some u) (h1 : ∀ u ∈ news, u.oneCell' = true)
    (h63 : n + m ≤ maxLen) (hbytes : (n + m) * bytes ≤ 140737488355328) (hbase : base ≤ w.heap.size)
    (h : ∀ v' w', w'.ownsRow base e size v' (n + m) (xs ++ news) → Laid w w' v v' n (n + m) → wpList P ops Q rest (a.put o.dst v') w') :
    wpList P ops Q (o :: rest) a w := by
  refine wpList_plain hgd fun K hK => ?_
  obtain ⟨v', w', hr, h2, h3⟩ := run_append_own_split (P := P) w base t o.type e i z size bytes ht hi hz hsize hby hzs hsz v n xs hown ad m c news hm hl hnews h1 h63 hbytes hbase
  unfold Oper.wp execOp
  simp only [ho, resolve, invoke, builtin, Sem.run_bind, Sem.run_pure, Result.andThen_ok, List.map_toArray, List.map_cons, List.map_nil, hs, hx, hr]
  exact hK _ _ (h v' w' h2 h3)
end
end Go.Proofs.YtdkcplndplhblaaGreatDoor

/- annexref1.Reader.Bytes, where the bytes are there. -/
namespace Go.Proofs.YtdkcplndplhblaaGreatDoor
open Go.RowKit
set_option maxRecDepth 100000

theorem own_at {w : World} {base n c : Nat} {ao : Option Addr} {xs : List Value} (h : w.ownsRow base 5 1 (.slice ao n c) n xs) (ad : Addr) (had : ao = some ad) : (Value.slice ao n c).ownBlock = some ad.block ∧ base ≤ ad.block ∧ ∃ cs, w.heap[ad.block]? = some (.cells cs 5) := by
  subst had
  rcases h.2 with ⟨h, _⟩ | ⟨g, cap, cur, h, hb, hh, _⟩
  · cases h
  · cases h
    exact ⟨rfl, hb, cur, hh⟩
theorem Lies.part {w : World} {g o n cap : Nat} {bs : List Int} (h : Lies w (some ⟨g, o, none⟩) n cap bs) (p k : Nat) (hk : p + k ≤ n) : Lies w (some ⟨g, o + p, none⟩) k (cap - p) ((bs.drop p).take k) := by
  have h1 := h.hlen
  have h2 := h.hle
  refine ⟨by simp; omega, by omega, (fun h => by cases h), fun ad had t u hu => ?_⟩
  obtain rfl := Option.some.inj had
  have ht : t < k := by
    have := (List.getElem?_eq_some_iff.1 hu).1
    simp at this; omega
  have := h.hcells ⟨g, o, none⟩ rfl (p + t) u (by
    rw [List.getElem?_map] at hu ⊢
    rw [List.getElem?_take, if_pos ht, List.getElem?_drop] at hu
    exact hu)
  rw [Addr.add_lit] at this ⊢
  rw [Nat.add_assoc]
  exact this
theorem RdD.below {w w' : World} {rb n cap : Nat} {ao : Option Addr} {pl code : Int} {bs : List Int} (h : RdD w rb ao n cap pl code bs) (hb : Below w.heap.size w w') : RdD w' rb ao n cap pl code bs :=
  ⟨(hb.block rb (lt_of_block h.blk)).trans h.blk, h.lies.below hb (Nat.le_refl _), h.apart⟩
theorem below_grown {w w' : World} (h : Below w.heap.size w w') (row : Option Nat) : w.grownBy w' row := ⟨h.os, h.tape, h.output, h.size, fun i hi _ => h.block i hi⟩

/-- A piece of a slice, where the language begins it. -/
theorem lies_cut {w : World} {g o n cap : Nat} {bs : List Int} (h : Lies w (some ⟨g, o, none⟩) n cap bs) (i j : Int) (p k : Nat) (hi : i = p) (hj : j = p + k) (hk : p + k ≤ n) :
    Lies w (if cap = i.toNat then some ⟨g, o, none⟩ else some ⟨g, o + i.toNat, none⟩) (j.toNat - i.toNat) (cap - i.toNat) ((bs.drop p).take k) := by
  have e1 : i.toNat = p := by omega
  have e2 : j.toNat - i.toNat = k := by omega
  rw [e2, e1]
  have hle := h.hle
  have hlen := h.hlen
  by_cases hc : cap = p
  · have hk0 : k = 0 := by omega
    subst hk0
    rw [if_pos hc]
    exact ⟨by simp, by omega, (fun h => by cases h), fun ad _ t u hu => by simp at hu⟩
  · rw [if_neg hc]
    exact h.part p k hk

set_option maxHeartbeats 1000000 in
theorem dBytes_done (rb g o n cap pl k : Nat) (M : Int) (bs : List Int) (w : World) (hR : RdD w rb (some ⟨g, o, none⟩) n cap pl 0 bs) (hn : n ≤ 200000000000000) (hby : ∀ x ∈ bs, 0 ≤ x ∧ x ≤ 255) (hM0 : 0 ≤ M) (hM1 : M ≤ 9223372036854775807) (hv : val ((bs.drop pl).take 4) = k) (hkM : (k : Int) ≤ M) (hs : pl + (4 + k + padN k) ≤ n)  (hkb : k ≤ 140737488355328) (hzero : Hid (∀ t, t < padN k → ((bs.drop (pl + 4 + k)).take (padN k)).getD t 0 = 0)) :
    Calls Tryz.prog 70 #[.pointer (some ⟨rb, 0, none⟩), .int .i64 M] w fun e w' => HandD e w' ((bs.drop (pl + 4)).take k) ∧ WentD w w' rb (some ⟨g, o, none⟩) n cap ((pl + (4 + k + padN k) : Nat) : Int) 0 bs := by
  have hb := dnumber_ok rb n cap pl 4 (some ⟨g, o, none⟩) bs w hR (by omega) (by omega) (by omega) hn hby
  rw [hv] at hb
  have c0 := hR.c0
  have c1 := hR.c1
  have c2 := hR.c2
  have f1 := hR.f 1
  have f2 := hR.f 2
  have hMw : IntKind.u64.wrap M = M := Go.IntWalk.u64_in M ⟨hM0, by omega⟩
  have hpad : ((4 : Int) - (k : Int) % 4) % 4 = (padN k : Int) := by unfold padN; omega
  have hpd : (padN k : Int) ≤ 3 := by unfold padN; omega
  have hp0 : (0 : Int) ≤ padN k := by omega
  have hni : (n : Int) ≤ 200000000000000 := by omega
  have hk0 : (0 : Int) ≤ k := by omega
  have hge : ((n : Int) - pl < 4 + k + padN k) = False := by simp; omega
  have hcap : n ≤ cap := hR.lies.hle
  have hcapi : (n : Int) ≤ cap := by omega
  have hsum : (pl : Int) + 4 + k + padN k ≤ n := by omega
  have hw1 : IntKind.i64.wrap (4 + (k : Int)) = 4 + k := by rw [IntKind.wrap_i64]; omega
  have hw2 : IntKind.i64.wrap (4 + (k : Int) + padN k) = 4 + k + padN k := by rw [IntKind.wrap_i64]; omega
  have hw3 : IntKind.i64.wrap ((n : Int) - pl) = (n : Int) - pl := by rw [IntKind.wrap_i64]; omega
  have hw4 : IntKind.i64.wrap ((pl : Int) + 4) = (pl : Int) + 4 := by rw [IntKind.wrap_i64]; omega
  have hw5 : IntKind.i64.wrap ((pl : Int) + 4 + k) = (pl : Int) + 4 + k := by rw [IntKind.wrap_i64]; omega
  have hw6 : IntKind.i64.wrap ((pl : Int) + 4 + k + padN k) = (pl : Int) + 4 + k + padN k := by rw [IntKind.wrap_i64]; omega
  have hz1 : (0 : Int) ≤ (pl : Int) + 4 := by omega
  have hz2 : (pl : Int) + 4 ≤ (pl : Int) + 4 + k := by omega
  have hz3 : (pl : Int) + 4 + k ≤ cap := by omega
  have hz4 : (pl : Int) + 4 + k ≤ (pl : Int) + 4 + k + padN k := by omega
  have hz5 : (pl : Int) + 4 + k + padN k ≤ cap := by omega
  have hz6 : (0 : Int) ≤ (pl : Int) + 4 + k := by omega
  have hRh : Hid (RdD w rb (some ⟨g, o, none⟩) n cap pl 0 bs) := hR
  clear hv hby hR
  generalize hV : (k : Int) = V at *
  go_enter Tryz.func70, Tryz.ntmps70
  go_wp2_with (go_at_call 111; refine hb.mono ?_; rintro e w1 ⟨rfl, m, hw1⟩; subst w1)
  rw [hpad]
  go_quiet (fail)
  go_wp2
  subst hV
  have hR12 := hRh.out.drewN (m + nq + 1)
  have HR12 : Hid (RdD (w.drewN (m + nq + 1)) rb (some ⟨g, o, none⟩) n cap pl 0 bs) := hR12
  have HL12 : Hid (∀ A0, (if cap = ((pl : Int) + 4).toNat then (some ⟨g, o, none⟩ : Option Addr) else some ⟨g, o + ((pl : Int) + 4).toNat, none⟩) = A0 → Lies (w.drewN (m + nq + 1)) A0 (((pl : Int) + 4 + k).toNat - ((pl : Int) + 4).toNat) (cap - ((pl : Int) + 4).toNat) ((bs.drop (pl + 4)).take k)) := fun A0 h => h ▸ lies_cut hR12.lies ((pl : Int) + 4) ((pl : Int) + 4 + k) (pl + 4) k (by omega) (by omega) (by omega)
  have hlk : ((pl : Int) + 4 + k).toNat - ((pl : Int) + 4).toNat = k := by omega
  have HLK : Hid (((pl : Int) + 4 + k).toNat - ((pl : Int) + 4).toNat = k) := hlk
  have hkb2 : ((pl : Int) + 4 + k).toNat - ((pl : Int) + 4).toNat ≤ 140737488355328 := by omega
  have HK2 : Hid (((pl : Int) + 4 + k).toNat - ((pl : Int) + 4).toNat ≤ 140737488355328) := hkb2
  clear hR12 hRh hb hpad hMw hge hw1 hw2 hw3 hlk hkb2
  have d0 : (w.drewN (m + nq)).cell? ⟨rb, 0, none⟩ = some (.slice (some ⟨g, o, none⟩) n cap) := c0
  have d1 : (w.drewN (m + nq)).cell? ⟨rb, 1, none⟩ = some (.int .i64 pl) := c1
  go_region_held3 (fun w' => w'.cell? ⟨rb, 0, none⟩ = some (.slice (some ⟨g, o, none⟩) n cap) ∧ w'.cell? ⟨rb, 1, none⟩ = some (.int .i64 pl))
    (first | exact ⟨c0, c1⟩ | exact ⟨d0, d1⟩ | exact ⟨e0, e1⟩)
    (first | (go_at_call 35; generalize hA0 : (if cap = ((pl : Int) + 4).toNat then (some ⟨g, o, none⟩ : Option Addr) else some ⟨g, o + ((pl : Int) + 4).toNat, none⟩) = A0; refine (bytes29_any A0 _ _ ((bs.drop (pl + 4)).take k) _ HK2.out (HL12.out A0 hA0)).mono ?_; clear hA0; rintro e w2 ⟨a2, c2, rfl, ho2, hb2⟩; have hR2 := HR12.out.below hb2; have e0 := hR2.c0; have e1 := hR2.c1))
  have HZ : Hid (∀ t, Calls Tryz.prog 112 #[.slice (if cap = pl + 4 + k then (some ⟨g, o, none⟩ : Option Addr) else some ⟨g, o + (pl + 4 + k), none⟩) (padN k) (cap - (pl + 4 + k))] (w2.drewN t) fun e w' => e = .returned (.bool true) ∧ w' = w2.drewN t) := fun t => by
    have hl := lies_cut (hR2.drewN t).lies ((pl + 4 + k : Nat) : Int) ((pl + 4 + k + padN k : Nat) : Int) (pl + 4 + k) (padN k) rfl (by omega) (by omega)
    simp only [Int.toNat_natCast, Nat.add_sub_cancel_left] at hl
    have := zero_any _ _ _ _ _ (by omega) hl
    rwa [decide_eq_true hzero.out] at this
  have HR2 : Hid (RdD w2 rb (some ⟨g, o, none⟩) n cap pl 0 bs) := hR2
  have HO2 : Hid _ := ho2
  have q1 := hR2.f 1
  have q2 := hR2.f 2
  have q3 := hR2.c2
  clear hR2 ho2
  go_wp2
  go_quiet ((go_at_call 112; exact Calls.quiet_of_same (HZ.out _)))
  go_wp2
  all_goals
    go_ret
    have ho := HO2.out
    rw [HLK.out] at ho ⊢
    have hlt := lt_of_block HR12.out.blk
    have hlen : ((bs.drop (pl + 4)).take k).length = k := by simpa using ho.1
    have hl2 := Lies.owned ho
    have hl3 : Lies (w2.drewN nq) a2 k c2 ((bs.drop (pl + 4)).take k) := hl2.grown (grown_drewN w2 nq none) (fun _ _ => by simp)
    refine ⟨⟨a2, c2, by rw [hlen]; rfl, ?_⟩, ?_, ?_⟩
    · rw [hlen]
      refine hl3.grown (grown_setCell _ _ _ _) (fun ad had => ?_)
      have := (own_at ho ad had).2.1
      intro e
      cases e
      omega
    · have h := (HR2.out.drewN nq).set1 ((pl : Int) + 4 + k + padN k)
      have e5 : ((pl : Int) + 4 + k + padN k) = (pl : Int) + (4 + k + padN k) := by omega
      rw [e5] at h ⊢
      first | exact h | (have hc : cap = pl + 4 + k := by assumption
                         rw [← hc]; exact h)
    · exact grown_trans (grown_drewN _ _ _) (grown_trans (below_grown hb2 _) (grown_trans (grown_drewN _ _ _) (grown_setCell _ _ _ _)))

set_option maxHeartbeats 1000000 in
theorem dBytes_pad (rb g o n cap pl k : Nat) (M : Int) (bs : List Int) (w : World) (hR : RdD w rb (some ⟨g, o, none⟩) n cap pl 0 bs) (hn : n ≤ 200000000000000) (hby : ∀ x ∈ bs, 0 ≤ x ∧ x ≤ 255) (hM0 : 0 ≤ M) (hM1 : M ≤ 9223372036854775807) (hv : val ((bs.drop pl).take 4) = k) (hkM : (k : Int) ≤ M) (hs : pl + (4 + k + padN k) ≤ n)  (hkb : k ≤ 140737488355328) (hzero : Hid (¬ ∀ t, t < padN k → ((bs.drop (pl + 4 + k)).take (padN k)).getD t 0 = 0)) :
    Calls Tryz.prog 70 #[.pointer (some ⟨rb, 0, none⟩), .int .i64 M] w fun e w' => HandD e w' [] ∧ WentD w w' rb (some ⟨g, o, none⟩) n cap (pl : Int) 15 bs := by
  have hb := dnumber_ok rb n cap pl 4 (some ⟨g, o, none⟩) bs w hR (by omega) (by omega) (by omega) hn hby
  rw [hv] at hb
  have c0 := hR.c0
  have c1 := hR.c1
  have c2 := hR.c2
  have f1 := hR.f 1
  have f2 := hR.f 2
  have hMw : IntKind.u64.wrap M = M := Go.IntWalk.u64_in M ⟨hM0, by omega⟩
  have hpad : ((4 : Int) - (k : Int) % 4) % 4 = (padN k : Int) := by unfold padN; omega
  have hpd : (padN k : Int) ≤ 3 := by unfold padN; omega
  have hp0 : (0 : Int) ≤ padN k := by omega
  have hni : (n : Int) ≤ 200000000000000 := by omega
  have hk0 : (0 : Int) ≤ k := by omega
  have hge : ((n : Int) - pl < 4 + k + padN k) = False := by simp; omega
  have hcap : n ≤ cap := hR.lies.hle
  have hcapi : (n : Int) ≤ cap := by omega
  have hsum : (pl : Int) + 4 + k + padN k ≤ n := by omega
  have hw1 : IntKind.i64.wrap (4 + (k : Int)) = 4 + k := by rw [IntKind.wrap_i64]; omega
  have hw2 : IntKind.i64.wrap (4 + (k : Int) + padN k) = 4 + k + padN k := by rw [IntKind.wrap_i64]; omega
  have hw3 : IntKind.i64.wrap ((n : Int) - pl) = (n : Int) - pl := by rw [IntKind.wrap_i64]; omega
  have hw4 : IntKind.i64.wrap ((pl : Int) + 4) = (pl : Int) + 4 := by rw [IntKind.wrap_i64]; omega
  have hw5 : IntKind.i64.wrap ((pl : Int) + 4 + k) = (pl : Int) + 4 + k := by rw [IntKind.wrap_i64]; omega
  have hw6 : IntKind.i64.wrap ((pl : Int) + 4 + k + padN k) = (pl : Int) + 4 + k + padN k := by rw [IntKind.wrap_i64]; omega
  have hz1 : (0 : Int) ≤ (pl : Int) + 4 := by omega
  have hz2 : (pl : Int) + 4 ≤ (pl : Int) + 4 + k := by omega
  have hz3 : (pl : Int) + 4 + k ≤ cap := by omega
  have hz4 : (pl : Int) + 4 + k ≤ (pl : Int) + 4 + k + padN k := by omega
  have hz5 : (pl : Int) + 4 + k + padN k ≤ cap := by omega
  have hz6 : (0 : Int) ≤ (pl : Int) + 4 + k := by omega
  have hRh : Hid (RdD w rb (some ⟨g, o, none⟩) n cap pl 0 bs) := hR
  clear hv hby hR
  generalize hV : (k : Int) = V at *
  go_enter Tryz.func70, Tryz.ntmps70
  go_wp2_with (go_at_call 111; refine hb.mono ?_; rintro e w1 ⟨rfl, m, hw1⟩; subst w1)
  rw [hpad]
  go_quiet (fail)
  go_wp2
  subst hV
  have hR12 := hRh.out.drewN (m + nq + 1)
  have HR12 : Hid (RdD (w.drewN (m + nq + 1)) rb (some ⟨g, o, none⟩) n cap pl 0 bs) := hR12
  have HL12 : Hid (∀ A0, (if cap = ((pl : Int) + 4).toNat then (some ⟨g, o, none⟩ : Option Addr) else some ⟨g, o + ((pl : Int) + 4).toNat, none⟩) = A0 → Lies (w.drewN (m + nq + 1)) A0 (((pl : Int) + 4 + k).toNat - ((pl : Int) + 4).toNat) (cap - ((pl : Int) + 4).toNat) ((bs.drop (pl + 4)).take k)) := fun A0 h => h ▸ lies_cut hR12.lies ((pl : Int) + 4) ((pl : Int) + 4 + k) (pl + 4) k (by omega) (by omega) (by omega)
  have hlk : ((pl : Int) + 4 + k).toNat - ((pl : Int) + 4).toNat = k := by omega
  have HLK : Hid (((pl : Int) + 4 + k).toNat - ((pl : Int) + 4).toNat = k) := hlk
  have hkb2 : ((pl : Int) + 4 + k).toNat - ((pl : Int) + 4).toNat ≤ 140737488355328 := by omega
  have HK2 : Hid (((pl : Int) + 4 + k).toNat - ((pl : Int) + 4).toNat ≤ 140737488355328) := hkb2
  clear hR12 hRh hb hpad hMw hge hw1 hw2 hw3 hlk hkb2
  have d0 : (w.drewN (m + nq)).cell? ⟨rb, 0, none⟩ = some (.slice (some ⟨g, o, none⟩) n cap) := c0
  have d1 : (w.drewN (m + nq)).cell? ⟨rb, 1, none⟩ = some (.int .i64 pl) := c1
  go_region_held3 (fun w' => w'.cell? ⟨rb, 0, none⟩ = some (.slice (some ⟨g, o, none⟩) n cap) ∧ w'.cell? ⟨rb, 1, none⟩ = some (.int .i64 pl))
    (first | exact ⟨c0, c1⟩ | exact ⟨d0, d1⟩ | exact ⟨e0, e1⟩)
    (first | (go_at_call 35; generalize hA0 : (if cap = ((pl : Int) + 4).toNat then (some ⟨g, o, none⟩ : Option Addr) else some ⟨g, o + ((pl : Int) + 4).toNat, none⟩) = A0; refine (bytes29_any A0 _ _ ((bs.drop (pl + 4)).take k) _ HK2.out (HL12.out A0 hA0)).mono ?_; clear hA0; rintro e w2 ⟨a2, c2, rfl, ho2, hb2⟩; have hR2 := HR12.out.below hb2; have e0 := hR2.c0; have e1 := hR2.c1))
  have HZ : Hid (∀ t, Calls Tryz.prog 112 #[.slice (if cap = pl + 4 + k then (some ⟨g, o, none⟩ : Option Addr) else some ⟨g, o + (pl + 4 + k), none⟩) (padN k) (cap - (pl + 4 + k))] (w2.drewN t) fun e w' => e = .returned (.bool false) ∧ w' = w2.drewN t) := fun t => by
    have hl := lies_cut (hR2.drewN t).lies ((pl + 4 + k : Nat) : Int) ((pl + 4 + k + padN k : Nat) : Int) (pl + 4 + k) (padN k) rfl (by omega) (by omega)
    simp only [Int.toNat_natCast, Nat.add_sub_cancel_left] at hl
    have := zero_any _ _ _ _ _ (by omega) hl
    rwa [decide_eq_false hzero.out] at this
  have HR2 : Hid (RdD w2 rb (some ⟨g, o, none⟩) n cap pl 0 bs) := hR2
  have HO2 : Hid _ := ho2
  have q1 := hR2.f 1
  have q2 := hR2.f 2
  have q3 := hR2.c2
  clear hR2 ho2
  go_wp2
  go_quiet ((go_at_call 112; exact Calls.quiet_of_same (HZ.out _)))
  go_wp2
  all_goals
    go_ret
    refine ⟨handD_nil _, ?_, ?_⟩
    · have h := (HR2.out.drewN nq).set2 15
      first | exact h | (have hc : cap = pl + 4 + k := by assumption
                         rw [← hc]; exact h)
    · exact grown_trans (grown_drewN _ _ _) (grown_trans (below_grown hb2 _) (grown_trans (grown_drewN _ _ _) (grown_setCell _ _ _ _)))
end Go.Proofs.YtdkcplndplhblaaGreatDoor

/- annexref1.Reader.Bytes and Text: what rdText says. -/
namespace Go.Proofs.YtdkcplndplhblaaGreatDoor
open Go.RowKit
set_option maxRecDepth 100000

theorem pad_getD (bs : List Int) (q p t : Nat) (ht : t < p) : ((bs.drop q).take p).getD t 0 = bs.getD (q + t) 0 := by
  simp only [List.getD]
  rw [List.getElem?_take, if_pos ht, List.getElem?_drop]

theorem dBytes_any (rb n cap pl : Nat) (ao : Option Addr) (code M : Int) (bs : List Int) (w : World) (hR : RdD w rb ao n cap pl code bs) (hp : pl ≤ n) (hn : n ≤ 200000000000000) (hby : ∀ x ∈ bs, 0 ≤ x ∧ x ≤ 255) (hM1 : M ≤ 9223372036854775807) :
    Calls Tryz.prog 70 #[.pointer (some ⟨rb, 0, none⟩), .int .i64 M] w fun e w' => HandD e w' (rdText n bs pl code M).1 ∧ WentD w w' rb ao n cap (rdText n bs pl code M).2.1 (rdText n bs pl code M).2.2 bs := by
  unfold rdText
  by_cases hc : code ≠ 0
  · rw [if_pos hc]
    exact dBytes_held rb n cap ao pl code M bs w hR (by simpa using hc)
  · obtain rfl : code = 0 := by simpa using hc
    rw [if_neg hc]
    by_cases h1 : n < pl + 4
    · rw [if_pos h1]
      exact dBytes_short rb n cap pl ao M bs w hR hp h1 hn
    · rw [if_neg h1]
      by_cases h2 : M < 0 ∨ M < val ((bs.drop pl).take 4)
      · rw [if_pos h2]
        exact dBytes_long rb n cap pl ao M bs w hR (by omega) hn hby hM1 h2
      · rw [if_neg h2]
        have hv4 := val4_lt bs pl hby
        obtain ⟨k, hk⟩ : ∃ k : Nat, val ((bs.drop pl).take 4) = k := ⟨(val ((bs.drop pl).take 4)).toNat, by omega⟩
        rw [hk] at h2 hv4 ⊢
        simp only [Int.toNat_natCast]
        by_cases h3 : n < pl + (4 + k + padN k)
        · rw [if_pos h3]
          exact dBytes_short2 rb n cap pl k ao M bs w hR (by omega) hn hby (by omega) hM1 hk (by omega) (by omega) h3
        · rw [if_neg h3]
          obtain ⟨g, o, rfl, _⟩ := hR.lies.at (by omega)
          have hz : (∀ t, t < padN k → ((bs.drop (pl + 4 + k)).take (padN k)).getD t 0 = 0) ↔ ∀ t, t < padN k → bs.getD (pl + (4 + k) + t) 0 = 0 :=
            ⟨fun h t ht => by have := h t ht; rw [pad_getD _ _ _ _ ht] at this; rwa [show pl + (4 + k) + t = pl + 4 + k + t by omega],
             fun h t ht => by rw [pad_getD _ _ _ _ ht]; have := h t ht; rwa [show pl + (4 + k) + t = pl + 4 + k + t by omega] at this⟩
          by_cases h4 : ∀ t, t < padN k → bs.getD (pl + (4 + k) + t) 0 = 0
          · rw [if_neg (fun h => h h4)]
            exact dBytes_done rb g o n cap pl k M bs w hR hn hby (by omega) hM1 hk (by omega) (by omega) (by omega) (hz.2 h4)
          · rw [if_pos h4]
            exact dBytes_pad rb g o n cap pl k M bs w hR hn hby (by omega) hM1 hk (by omega) (by omega) (by omega) (fun h => h4 (hz.1 h))

set_option maxHeartbeats 400000 in
theorem dText_any (rb n cap pl : Nat) (ao : Option Addr) (code M : Int) (bs : List Int) (w : World) (hR : RdD w rb ao n cap pl code bs) (hp : pl ≤ n) (hn : n ≤ 200000000000000) (hby : ∀ x ∈ bs, 0 ≤ x ∧ x ≤ 255) (hM1 : M ≤ 9223372036854775807) :
    Calls Tryz.prog 69 #[.pointer (some ⟨rb, 0, none⟩), .int .i64 M] w fun e w' => e = .returned (.string (txt (rdText n bs pl code M).1)) ∧ WentD w w' rb ao n cap (rdText n bs pl code M).2.1 (rdText n bs pl code M).2.2 bs := by
  have hB := dBytes_any rb n cap pl ao code M bs w hR hp hn hby hM1
  generalize rdText n bs pl code M = z at hB
  go_enter Tryz.func69, Tryz.ntmps69
  go_wp2_with fail
  refine hB.mono ?_
  rintro e w1 ⟨⟨a1, c1, rfl, hl⟩, hw⟩
  have hs := run_string_any w1 a1 z.1.length c1 z.1 hl
  clear hB hR
  go_wp2
  go_ret
  exact ⟨rfl, hw⟩
end Go.Proofs.YtdkcplndplhblaaGreatDoor
