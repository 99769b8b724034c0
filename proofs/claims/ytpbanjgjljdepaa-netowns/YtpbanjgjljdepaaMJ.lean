/- annexref.Bytes and annexref.Join by their contracts (as of layer 1). -/
import Derived.Test.YtpbanjgjljdepaaTurns
import Derived.Test.YtpbanjgjljdepaaSame
import Derived.Deep.DeepAppendWide
namespace Go.Proofs.Ytpbanjgjljdepaa
open Go.RowKit
set_option maxRecDepth 100000

/-- A new list of bytes: nil, or a row of its own; nothing old has turned. -/
def Fresh (w : World) (e : Ending) (w' : World) (n : Nat) (bs : List Int) : Prop :=
  ∃ ao c, e = .returned (.slice ao n c) ∧ w'.ownsRow w.heap.size 5 1 (.slice ao n c) n (bs.map (Value.int .u8)) ∧ Below w.heap.size w w'
theorem Lies.owned {w : World} {base n cap : Nat} {ao : Option Addr} {bs : List Int} (h : w.ownsRow base 5 1 (.slice ao n cap) n (bs.map (Value.int .u8))) : Lies w ao n cap bs := by
  rcases h.2 with ⟨hv, hn⟩ | ⟨g', cap', cur, hv, _⟩
  · cases hv
    have hl : bs.length = 0 := by simpa using h.1
    obtain rfl := List.eq_nil_of_length_eq_zero hl
    exact Lies.nil w
  · cases hv
    exact Lies.own h
theorem own_len {w : World} {base n : Nat} {v : Value} {bs : List Int} (h : w.ownsRow base 5 1 v n (bs.map (Value.int .u8))) : ∃ ao c, v = .slice ao n c := by
  rcases h.2 with ⟨hv, rfl⟩ | ⟨g', cap', cur, hv, _⟩
  · exact ⟨none, 0, hv⟩
  · exact ⟨_, _, hv⟩

set_option maxHeartbeats 400000 in
theorem bytes29_pos (b o cap n : Nat) (bs : List Int) (w : World) (hn : n ≤ 140737488355328) (hl : bs.length = n)
    (hc : ∀ t, t < n → w.cell? ⟨b, o + t, none⟩ = some (.int .u8 (bs.getD t 0))) :
    Calls Try.prog 19 #[.slice (some ⟨b, o, none⟩) n cap] w fun e w' => ∃ v, e = .returned v ∧ w'.ownsRow w.heap.size 5 1 v n (bs.map (Value.int .u8)) ∧ Below w.heap.size w w' := by
  obtain ⟨i0, hi, hz0, hz1, hz2⟩ := info_parts Try.info5
  have hni : (n : Int) ≤ 140737488355328 := by omega
  go_enter Try.func19, Try.ntmps19
  go_wp2
  go_loopw [3, 4] (fun v i wr => ∃ k : Nat, k ≤ n ∧ i = .int .i64 k ∧ wr.ownsRow w.heap.size 5 1 v k ((bs.take k).map (Value.int .u8)) ∧ Below w.heap.size w wr) (fun _ i _ => n - (intOf i).toNat)
  case atStart => exact ⟨0, Nat.zero_le _, rfl, World.ownsRow_nil _ _ _ _, Below.refl _ _⟩
  case round =>
    obtain ⟨k, hk, rfl, hown, hb⟩ := hrel
    by_cases hlt : k < n
    · have hck := cell_later hb (hc k hlt)
      have hst : bs.take (k + 1) = bs.take k ++ [bs.getD k 0] := by
        rw [List.take_succ_eq_append_getElem (by omega)]
        simp [List.getD, show k < bs.length by omega]
      have HS : Hid (bs.take (k + 1) = bs.take k ++ [bs.getD k 0]) := hst
      clear hst hc
      generalize bs.getD k 0 = C at *
      go_wp2_with (at_builtin; refine wpList_append_own _ rfl (.tmp 11) (.tmp 16) 22 rfl w.heap.size 5 i0 (.int .u8 0) 1 1 Try.underlying22 hi hz0 hz1 hz2 rfl (by decide) _ _ _ rfl (hown.alloc _) ⟨wr.heap.size, 0, none⟩ 1 1 [.int .u8 C] rfl rfl (cell_one_new _ _ _) (by intro u hu; simp at hu; subst hu; rfl) (by unfold maxLen; omega) (by omega) (by have := hb.size; simp; omega) ?_; intro v' w1 hown1 hgrow1 hnil1)
      go_roundw
      case rel =>
        refine ⟨k + 1, by omega, by go_num, ?_, ?_⟩
        · rw [HS.out]; simpa using hown1
        · exact (hb.alloc hb.size _).grown hgrow1 (by simp; have := hb.size; omega) (fun k hk => (hown.lt k hk).1)
      case measure => simp [intOf]; omega
    · clear hc
      go_wp2
      go_ret
      obtain rfl : k = n := by omega
      refine ⟨_, rfl, ?_, hb⟩
      rw [List.take_of_length_le (by omega)] at hown
      exact hown

set_option maxHeartbeats 400000 in
theorem bytes29_zero (ao : Option Addr) (cap : Nat) (w : World) :
    Calls Try.prog 19 #[.slice ao 0 cap] w fun e w' => e = .returned (.slice none 0 0) ∧ w' = w := by
  go_enter Try.func19, Try.ntmps19
  go_wp2
  refine wp_loop_rounds 1 ?_
  rw [rounds_succ]
  go_wp2
  go_ret
  exact ⟨rfl, rfl⟩

theorem bytes29_any (ao : Option Addr) (n cap : Nat) (bs : List Int) (w : World) (hn : n ≤ 140737488355328) (hL : Lies w ao n cap bs) :
    Calls Try.prog 19 #[.slice ao n cap] w fun e w' => Fresh w e w' n bs := by
  by_cases h0 : 0 < n
  · obtain ⟨b, o, rfl, hc⟩ := hL.at h0
    refine (bytes29_pos b o cap n bs w hn hL.hlen hc).mono ?_
    rintro e w' ⟨v, rfl, hown, hb⟩
    obtain ⟨ao, c, rfl⟩ := own_len hown
    exact ⟨ao, c, rfl, hown, hb⟩
  · obtain rfl : n = 0 := by omega
    obtain rfl := List.eq_nil_of_length_eq_zero hL.hlen
    refine (bytes29_zero ao cap w).mono ?_
    rintro e w' ⟨rfl, rfl⟩
    exact ⟨none, 0, rfl, World.ownsRow_nil _ _ _ _, Below.refl _ _⟩
end Go.Proofs.Ytpbanjgjljdepaa
