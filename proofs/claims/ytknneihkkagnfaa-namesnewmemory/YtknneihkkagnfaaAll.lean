/- names.checkAll: the first name that is none tells its error. -/
import Derived.Test.YtknneihkkagnfaaBase
import Derived.Test.YtknneihkkagnfaaCheck
namespace Go.Proofs.Ytknneihkkagnfaa
open Go.RowKit
set_option maxRecDepth 100000

/-- checkAll's answer. -/
def allN (l : List ByteArray) : Int := if l.all (fun s => okName (bs s)) = true then 0 else 31

theorem checkN_ok {l : List UInt8} : checkN l = 0 ↔ okName l = true := by
  unfold checkN; split
  · simp [*]
  · simp [*]
theorem all_step {xs : List ByteArray} {k : Nat} (h : (xs.take k).all (fun s => okName (bs s)) = true) (hk : k < xs.length) (h1 : checkN (bs xs[k]) = 0) : (xs.take (k + 1)).all (fun s => okName (bs s)) = true := by
  rw [List.take_succ_eq_append_getElem hk, List.all_append, h]
  simp [checkN_ok.1 h1]
theorem all_bad {xs : List ByteArray} {k : Nat} (hk : k < xs.length) (h1 : checkN (bs xs[k]) = 31) : allN xs = 31 := by
  unfold allN
  rw [if_neg]
  intro h
  rw [List.all_eq_true] at h
  have := checkN_ok.2 (h _ (List.getElem_mem hk))
  omega

set_option maxHeartbeats 1000000 in
theorem checkAll_pos (b o c n : Nat) (xs : List ByteArray) (w : World) (hn : n ≤ 200000000000000) (hla : xs.length = n) (_hc : n ≤ c) (hbw : b < w.heap.size)
    (ha : ∀ t (ht : t < xs.length), w.cell? ⟨b, o + t, none⟩ = some (.string xs[t])) :
    Calls Try.prog 22 #[.slice (some ⟨b, o, none⟩) n c] w fun e w' => e = .returned (.int .i64 (allN xs)) ∧ Below w.heap.size w w' := by
  have hni : (n : Int) ≤ 200000000000000 := by omega
  go_enter Try.func22, Try.ntmps22
  go_wp2
  go_loopw [8] (fun i wr => ∃ k : Nat, k ≤ n ∧ i = .int .i64 k ∧ Below w.heap.size w wr ∧ (xs.take k).all (fun s => okName (bs s)) = true) (fun i _ => n - (intOf i).toNat)
  case atStart => exact ⟨0, Nat.zero_le _, rfl, Below.refl _ _, by simp⟩
  case round =>
    obtain ⟨k, hk, rfl, hbl, htk⟩ := hrel
    have HT : Hid ((xs.take k).all (fun s => okName (bs s)) = true) := ⟨htk⟩
    clear htk
    by_cases hlt : k < n
    · have hk' : k < xs.length := by omega
      have ga := (hbl.cell (p := ⟨b, o + k, none⟩) hbw).trans (ha k hk')
      clear ha
      have hok : checkN (bs xs[k]) = 0 ∨ checkN (bs xs[k]) = 31 := by unfold checkN; split <;> simp
      go_wp2_with fail
      refine (check_any _ _).mono ?_
      rintro e w2 ⟨rfl, hb2⟩
      have hb3 := hbl.trans (hb2.mono hbl.size)
      rcases hok with hok | hok
      · rw [hok]
        go_wp2
        go_roundw
        case rel => exact ⟨k + 1, by omega, by go_num, hb3, all_step HT.out hk' hok⟩
        case measure => simp [intOf]; omega
      · rw [hok]
        go_wp2
        go_ret
        exact ⟨by rw [all_bad hk' hok]; rfl, hb3⟩
    · clear ha
      go_wp2
      go_ret
      refine ⟨?_, hbl⟩
      have := HT.out
      rw [List.take_of_length_le (by omega)] at this
      simp [allN, this]

set_option maxHeartbeats 400000 in
theorem checkAll_zero (ao : Option Addr) (c : Nat) (w : World) :
    Calls Try.prog 22 #[.slice ao 0 c] w fun e w' => e = .returned (.int .i64 0) ∧ w' = w := by
  go_enter Try.func22, Try.ntmps22
  go_wp2
  refine wp_loop_rounds 1 ?_
  rw [rounds_succ]
  go_wp2
  go_ret
  exact ⟨rfl, rfl⟩

theorem checkAll_any (ao : Option Addr) (n c : Nat) (xs : List ByteArray) (w : World) (hn : n ≤ 200000000000000) (hA : Lies w ao n c xs) :
    Calls Try.prog 22 #[.slice ao n c] w fun e w' => e = .returned (.int .i64 (allN xs)) ∧ Below w.heap.size w w' := by
  by_cases h0 : 0 < n
  · obtain ⟨b, o, rfl, hbw, ha⟩ := hA.at h0
    exact checkAll_pos b o c n xs w hn hA.hlen hA.hle hbw ha
  · obtain rfl : n = 0 := by omega
    refine (checkAll_zero ao c w).mono ?_
    rintro e w' ⟨rfl, rfl⟩
    have e1 : xs = [] := List.eq_nil_of_length_eq_zero hA.hlen
    subst e1
    exact ⟨by simp [allN], Below.refl _ _⟩
end Go.Proofs.Ytknneihkkagnfaa
