/- The document's own reader (annexref1.Reader) in memory; number and bounded by their contracts. -/
import Derived.Test.YtjpaooejkbkliabDoorFaces2
namespace Go.Proofs.YtjpaooejkbkliabDoor
open Go.RowKit
set_option maxRecDepth 100000

/-- Block rb is an annexref1.Reader: its bytes bs, its place, its error. -/
structure RdD (w : World) (rb : Nat) (ao : Option Addr) (n cap : Nat) (pl code : Int) (bs : List Int) : Prop where
  blk : w.heap[rb]? = some (.cells #[.slice ao n cap, .int .i64 pl, .int .i64 code] 50 (0, 0))
  lies : Lies w ao n cap bs
  apart : ∀ ad, ao = some ad → ad.block ≠ rb
theorem RdD.c0 {w : World} {rb n cap : Nat} {ao : Option Addr} {pl code : Int} {bs : List Int} (h : RdD w rb ao n cap pl code bs) : w.cell? ⟨rb, 0, none⟩ = some (.slice ao n cap) := by simp [World.cell?, h.blk]
theorem RdD.c1 {w : World} {rb n cap : Nat} {ao : Option Addr} {pl code : Int} {bs : List Int} (h : RdD w rb ao n cap pl code bs) : w.cell? ⟨rb, 1, none⟩ = some (.int .i64 pl) := by simp [World.cell?, h.blk]
theorem RdD.c2 {w : World} {rb n cap : Nat} {ao : Option Addr} {pl code : Int} {bs : List Int} (h : RdD w rb ao n cap pl code bs) : w.cell? ⟨rb, 2, none⟩ = some (.int .i64 code) := by simp [World.cell?, h.blk]
theorem RdD.f {w : World} {rb n cap : Nat} {ao : Option Addr} {pl code : Int} {bs : List Int} (h : RdD w rb ao n cap pl code bs) (o : Nat) : w.frozen? ⟨rb, o, none⟩ = false := by simp [World.frozen?, h.blk]
theorem RdD.drewN {w : World} {rb n cap : Nat} {ao : Option Addr} {pl code : Int} {bs : List Int} (h : RdD w rb ao n cap pl code bs) (m : Nat) : RdD (w.drewN m) rb ao n cap pl code bs :=
  ⟨h.blk, ⟨h.lies.hlen, h.lies.hle, h.lies.hnone, h.lies.hcells⟩, h.apart⟩
theorem RdD.set1 {w : World} {rb n cap : Nat} {ao : Option Addr} {pl code : Int} {bs : List Int} (h : RdD w rb ao n cap pl code bs) (q : Int) : RdD (w.setCell ⟨rb, 1, none⟩ (.int .i64 q)) rb ao n cap q code bs :=
  ⟨heap_setCell_same w rb 1 _ 50 _ h.blk, h.lies.grown (grown_setCell w rb 1 _) (fun ad had => by simpa using h.apart ad had), h.apart⟩
theorem RdD.set2 {w : World} {rb n cap : Nat} {ao : Option Addr} {pl code : Int} {bs : List Int} (h : RdD w rb ao n cap pl code bs) (q : Int) : RdD (w.setCell ⟨rb, 2, none⟩ (.int .i64 q)) rb ao n cap pl q bs :=
  ⟨heap_setCell_same w rb 2 _ 50 _ h.blk, h.lies.grown (grown_setCell w rb 2 _) (fun ad had => by simpa using h.apart ad had), h.apart⟩
/-- The reader has gone on; nothing else old has turned. -/
def WentD (w w' : World) (rb : Nat) (ao : Option Addr) (n cap : Nat) (pl code : Int) (bs : List Int) : Prop := RdD w' rb ao n cap pl code bs ∧ w.grownBy w' (some rb)

set_option maxHeartbeats 400000 in
theorem dnumber_held (rb n cap k : Nat) (ao : Option Addr) (pl code : Int) (bs : List Int) (w : World) (hR : RdD w rb ao n cap pl code bs) (hc : (code != 0) = true) :
    Calls Tryd.prog 43 #[.pointer (some ⟨rb, 0, none⟩), .int .i64 k] w fun e w' => e = .returned (.tuple #[.int .u64 0, .bool false]) ∧ w' = w := by
  have c2 := hR.c2
  go_enter Tryd.func43, Tryd.ntmps43
  go_wp2
  go_ret2
  exact ⟨rfl, rfl⟩

set_option maxHeartbeats 400000 in
theorem dnumber_short (rb n cap pl k : Nat) (ao : Option Addr) (bs : List Int) (w : World) (hR : RdD w rb ao n cap pl 0 bs) (hp : pl ≤ n) (hk : n < pl + k) (hn : n ≤ 200000000000000) (hk8 : k ≤ 8) :
    Calls Tryd.prog 43 #[.pointer (some ⟨rb, 0, none⟩), .int .i64 k] w fun e w' => e = .returned (.tuple #[.int .u64 0, .bool false]) ∧ WentD w w' rb ao n cap pl 11 bs := by
  have c0 := hR.c0
  have c1 := hR.c1
  have c2 := hR.c2
  have f2 := hR.f 2
  have hlt : (n : Int) - pl < k := by omega
  have hni : (n : Int) ≤ 200000000000000 := by omega
  have hpi : (pl : Int) ≤ n := by omega
  go_enter Tryd.func43, Tryd.ntmps43
  go_wp2
  go_quiet (fail)
  go_wp2
  go_ret2
  exact ⟨rfl, (hR.drewN _).set2 11, grown_trans (grown_drewN _ _ _) (grown_setCell _ _ _ _)⟩

theorem val_take_succ (bs : List Int) (pl i : Nat) (h : pl + i < bs.length) : val ((bs.drop pl).take (i + 1)) = val ((bs.drop pl).take i) * 256 + bs.getD (pl + i) 0 := by
  have : (bs.drop pl).take (i + 1) = (bs.drop pl).take i ++ [bs.getD (pl + i) 0] := by
    rw [List.take_succ_eq_append_getElem (by simp; omega)]
    simp [List.getD, h]
  rw [this, val_snoc]
theorem pow256 {a b : Nat} (h : a ≤ b) : (256 : Int) ^ a ≤ 256 ^ b := by
  have := Nat.pow_le_pow_right (n := 256) (by decide) h
  exact_mod_cast this
theorem val_take_bd (bs : List Int) (pl i : Nat) (hby : ∀ x ∈ bs, 0 ≤ x ∧ x ≤ 255) : 0 ≤ val ((bs.drop pl).take i) ∧ val ((bs.drop pl).take i) < 256 ^ i := by
  have h := val_bd ((bs.drop pl).take i) (fun x hx => hby x (List.mem_of_mem_drop (List.mem_of_mem_take hx)))
  refine ⟨h.1, Int.lt_of_lt_of_le h.2 ?_⟩
  exact pow256 (by simp; omega)

set_option maxHeartbeats 800000 in
theorem dnumber_ok (rb n cap pl k : Nat) (ao : Option Addr) (bs : List Int) (w : World) (hR : RdD w rb ao n cap pl 0 bs) (hk : pl + k ≤ n) (hk0 : 0 < k) (hk8 : k ≤ 8) (hn : n ≤ 200000000000000) (hby : ∀ x ∈ bs, 0 ≤ x ∧ x ≤ 255) :
    Calls Tryd.prog 43 #[.pointer (some ⟨rb, 0, none⟩), .int .i64 k] w fun e w' => e = .returned (.tuple #[.int .u64 (val ((bs.drop pl).take k)), .bool true]) ∧ ∃ m, w' = w.drewN m := by
  have c0 := hR.c0
  have c1 := hR.c1
  have c2 := hR.c2
  obtain ⟨b, o, rfl, hcs⟩ := hR.lies.at (by omega)
  have hlen := hR.lies.hlen
  have hge : ((n : Int) - pl < k) = False := by simp; omega
  have hni : (n : Int) ≤ 200000000000000 := by omega
  have hki : (k : Int) ≤ 8 := by omega
  have hpi : (pl : Int) + k ≤ n := by omega
  go_enter Tryd.func43, Tryd.ntmps43
  go_wp2
  go_quiet (fail)
  go_wp2
  go_loopw [6, 7] (fun x i wr => ∃ j m : Nat, j ≤ k ∧ i = .int .i64 j ∧ x = .int .u64 (val ((bs.drop pl).take j)) ∧ wr = w.drewN m) (fun _ i _ => k - (intOf i).toNat)
  case atStart => exact ⟨0, _, Nat.zero_le _, rfl, by simp [val], rfl⟩
  case round =>
    obtain ⟨j, m, hj, rfl, rfl, hwr⟩ := hrel
    subst wr
    by_cases hlt : j < k
    · have hji : (j : Int) < k := by omega
      have hcell := hcs (pl + j) (by omega)
      have hv := val_take_succ bs pl j (by omega)
      have hbd := val_take_bd bs pl j hby
      have hx : 0 ≤ bs.getD (pl + j) 0 ∧ bs.getD (pl + j) 0 ≤ 255 := by
        have h1 : pl + j < bs.length := by omega
        have : bs.getD (pl + j) 0 = bs[pl + j] := by simp [List.getD, h1]
        rw [this]; exact hby _ (List.getElem_mem h1)
      have hp8 : (256 : Int) ^ j ≤ 72057594037927936 := by
        have : (256 : Int) ^ j ≤ 256 ^ 7 := pow256 (by omega)
        simpa using this
      have hb2 : val ((bs.drop pl).take j) < 72057594037927936 := Int.lt_of_lt_of_le hbd.2 hp8
      have hb1 := hbd.1
      have hx1 := hx.1
      have hx2 := hx.2
      have HV : Hid _ := hv
      have hw1 : IntKind.i64.wrap ((pl : Int) + j) = (pl : Int) + j := by rw [IntKind.wrap_i64]; omega
      clear hcs hv hbd hx hp8 hby
      generalize val ((bs.drop pl).take j) = V at *
      generalize bs.getD (pl + j) 0 = C at *
      go_wp2
      go_quiet (fail)
      go_wp2
      go_roundw
      case rel => exact ⟨j + 1, m + nq, by omega, by go_num, by first | (rw [HV.out]; done) | (rw [HV.out]; go_num), by first | rfl | exact World.drewN_drewN _ _ _ | simp⟩
      case measure => simp [intOf]; omega
    · have hji : (k : Int) ≤ j := by omega
      obtain rfl : j = k := by omega
      clear hcs
      go_wp2
      go_ret2
      exact ⟨rfl, m, rfl⟩

set_option maxHeartbeats 400000 in
theorem dbounded_held (rb n cap k : Nat) (ao : Option Addr) (pl code M : Int) (bs : List Int) (w : World) (hR : RdD w rb ao n cap pl code bs) (hc : (code != 0) = true) :
    Calls Tryd.prog 39 #[.pointer (some ⟨rb, 0, none⟩), .int .i64 k, .int .i64 M] w fun e w' => e = .returned (.int .i64 0) ∧ WentD w w' rb ao n cap pl code bs := by
  go_enter Tryd.func39, Tryd.ntmps39
  go_wp2_with (go_at_call 43; refine (dnumber_held rb n cap k ao pl code bs _ hR hc).mono ?_; rintro e w1 ⟨rfl, hw1⟩; subst w1)
  go_ret
  exact ⟨rfl, hR, ⟨rfl, rfl, rfl, Nat.le_refl _, fun _ _ _ => rfl⟩⟩

set_option maxHeartbeats 400000 in
theorem dbounded_short (rb n cap pl k : Nat) (ao : Option Addr) (M : Int) (bs : List Int) (w : World) (hR : RdD w rb ao n cap pl 0 bs) (hp : pl ≤ n) (hk : n < pl + k) (hn : n ≤ 200000000000000) (hk8 : k ≤ 8) :
    Calls Tryd.prog 39 #[.pointer (some ⟨rb, 0, none⟩), .int .i64 k, .int .i64 M] w fun e w' => e = .returned (.int .i64 0) ∧ WentD w w' rb ao n cap pl 11 bs := by
  go_enter Tryd.func39, Tryd.ntmps39
  go_wp2_with (go_at_call 43; refine (dnumber_short rb n cap pl k ao bs _ hR hp hk hn hk8).mono ?_; rintro e w1 ⟨rfl, hw1⟩)
  go_ret
  exact ⟨rfl, hw1⟩

set_option maxHeartbeats 400000 in
theorem dbounded_neg (rb n cap pl k : Nat) (ao : Option Addr) (M : Int) (bs : List Int) (w : World) (hR : RdD w rb ao n cap pl 0 bs) (hk : pl + k ≤ n) (hk0 : 0 < k) (hk8 : k ≤ 8) (hn : n ≤ 200000000000000) (hby : ∀ x ∈ bs, 0 ≤ x ∧ x ≤ 255) (hM : M < 0) :
    Calls Tryd.prog 39 #[.pointer (some ⟨rb, 0, none⟩), .int .i64 k, .int .i64 M] w fun e w' => e = .returned (.int .i64 0) ∧ WentD w w' rb ao n cap pl 12 bs := by
  have hnum := dnumber_ok rb n cap pl k ao bs w hR hk hk0 hk8 hn hby
  have f2 := hR.f 2
  have c2 := hR.c2
  generalize val ((bs.drop pl).take k) = V at *
  go_enter Tryd.func39, Tryd.ntmps39
  go_wp2_with (go_at_call 43; refine hnum.mono ?_; rintro e w1 ⟨rfl, m, hw1⟩; subst w1)
  go_ret
  exact ⟨rfl, (hR.drewN m).set2 12, grown_trans (grown_drewN _ _ _) (grown_setCell _ _ _ _)⟩

set_option maxHeartbeats 400000 in
theorem dbounded_wide (rb n cap pl k : Nat) (ao : Option Addr) (M : Int) (bs : List Int) (w : World) (hR : RdD w rb ao n cap pl 0 bs) (hk : pl + k ≤ n) (hk0 : 0 < k) (hk8 : k ≤ 8) (hn : n ≤ 200000000000000) (hby : ∀ x ∈ bs, 0 ≤ x ∧ x ≤ 255) (hM : 0 ≤ M) (hM1 : M ≤ 9223372036854775807) (hV : M < val ((bs.drop pl).take k)) :
    Calls Tryd.prog 39 #[.pointer (some ⟨rb, 0, none⟩), .int .i64 k, .int .i64 M] w fun e w' => e = .returned (.int .i64 0) ∧ WentD w w' rb ao n cap pl 12 bs := by
  have hnum := dnumber_ok rb n cap pl k ao bs w hR hk hk0 hk8 hn hby
  have f2 := hR.f 2
  have c2 := hR.c2
  have hMw : IntKind.u64.wrap M = M := Go.IntWalk.u64_in M ⟨hM, by omega⟩
  generalize val ((bs.drop pl).take k) = V at *
  go_enter Tryd.func39, Tryd.ntmps39
  go_wp2_with (go_at_call 43; refine hnum.mono ?_; rintro e w1 ⟨rfl, m, hw1⟩; subst w1)
  go_ret
  exact ⟨rfl, (hR.drewN m).set2 12, grown_trans (grown_drewN _ _ _) (grown_setCell _ _ _ _)⟩

set_option maxHeartbeats 400000 in
theorem dbounded_ok (rb n cap pl k : Nat) (ao : Option Addr) (M : Int) (bs : List Int) (w : World) (hR : RdD w rb ao n cap pl 0 bs) (hk : pl + k ≤ n) (hk0 : 0 < k) (hk8 : k ≤ 8) (hn : n ≤ 200000000000000) (hby : ∀ x ∈ bs, 0 ≤ x ∧ x ≤ 255) (hM : 0 ≤ M) (hM1 : M ≤ 9223372036854775807) (hV : val ((bs.drop pl).take k) ≤ M) :
    Calls Tryd.prog 39 #[.pointer (some ⟨rb, 0, none⟩), .int .i64 k, .int .i64 M] w fun e w' => e = .returned (.int .i64 (val ((bs.drop pl).take k))) ∧ WentD w w' rb ao n cap ((pl + k : Nat) : Int) 0 bs := by
  have hnum := dnumber_ok rb n cap pl k ao bs w hR hk hk0 hk8 hn hby
  have hV0 := (val_take_bd bs pl k hby).1
  have f1 := hR.f 1
  have c1 := hR.c1
  have hMw : IntKind.u64.wrap M = M := Go.IntWalk.u64_in M ⟨hM, by omega⟩
  have hpk : (pl : Int) + k ≤ 200000000000000 := by omega
  have hset := (fun m => (hR.drewN m).set1 ((pl : Int) + k))
  have HSET : Hid _ := hset
  clear hset
  generalize val ((bs.drop pl).take k) = V at *
  go_enter Tryd.func39, Tryd.ntmps39
  go_wp2_with (go_at_call 43; refine hnum.mono ?_; rintro e w1 ⟨rfl, m, hw1⟩; subst w1)
  go_ret
  refine ⟨by first | rfl | go_num, ?_, grown_trans (grown_drewN _ _ _) (grown_setCell _ _ _ _)⟩
  have := HSET.out m
  rwa [show ((pl + k : Nat) : Int) = (pl : Int) + k by omega]

/-- What U32 and U64 answer, the document's. -/
theorem dbounded_any (rb n cap pl k : Nat) (ao : Option Addr) (code M : Int) (bs : List Int) (w : World) (hR : RdD w rb ao n cap pl code bs) (hp : pl ≤ n) (hk0 : 0 < k) (hk8 : k ≤ 8) (hn : n ≤ 200000000000000) (hby : ∀ x ∈ bs, 0 ≤ x ∧ x ≤ 255) (hM1 : M ≤ 9223372036854775807) :
    Calls Tryd.prog 39 #[.pointer (some ⟨rb, 0, none⟩), .int .i64 k, .int .i64 M] w fun e w' => e = .returned (.int .i64 (rdNum k n bs pl code M).1) ∧ WentD w w' rb ao n cap (rdNum k n bs pl code M).2.1 (rdNum k n bs pl code M).2.2 bs := by
  unfold rdNum
  by_cases hc : code ≠ 0
  · simp only [if_pos hc]
    exact dbounded_held rb n cap k ao pl code M bs w hR (by simpa using hc)
  · have hc0 : code = 0 := by omega
    subst hc0
    simp only [if_neg hc]
    by_cases hk : n < pl + k
    · simp only [if_pos hk]
      exact dbounded_short rb n cap pl k ao M bs w hR hp hk hn hk8
    · simp only [if_neg hk]
      by_cases hM : M < 0
      · simp only [hM, true_or, if_true]
        exact dbounded_neg rb n cap pl k ao M bs w hR (by omega) hk0 hk8 hn hby hM
      · by_cases hv : M < val ((bs.drop pl).take k)
        · simp only [hv, or_true, if_true]
          exact dbounded_wide rb n cap pl k ao M bs w hR (by omega) hk0 hk8 hn hby (by omega) hM1 hv
        · simp only [hM, hv, or_self, if_false]
          exact dbounded_ok rb n cap pl k ao M bs w hR (by omega) hk0 hk8 hn hby (by omega) hM1 (by omega)
end Go.Proofs.YtjpaooejkbkliabDoor
