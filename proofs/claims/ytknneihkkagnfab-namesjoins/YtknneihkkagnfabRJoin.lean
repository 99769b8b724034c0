/- annexref3.Join: as names.Join answers. -/
import Derived.Test.YtknneihkkagnfabRSplit
namespace Go.Proofs.Ytknneihkkagnfab
open Go.RowKit
set_option maxRecDepth 100000

/-- A slash and the text, for each text. -/
def catT (l : List ByteArray) : List UInt8 := l.flatMap fun x => 47 :: bs x
theorem catT_path {l : List ByteArray} (h : l ≠ []) : catT l = pathT (l.map bs) := by
  induction l with
  | nil => exact absurd rfl h
  | cons x r ih =>
    cases r with
    | nil => simp [catT, pathT, Lib.join_one]
    | cons y r =>
      have := ih (by simp)
      unfold catT at this ⊢
      rw [List.flatMap_cons, this]
      simp [pathT, join_cons2]
theorem cat_bs (S x : ByteArray) : bs (S ++ slash ++ x) = bs S ++ 47 :: bs x := by
  simp [bs]
theorem catT_step {xs : List ByteArray} {k : Nat} (hk : k < xs.length) : catT (xs.take (k + 1)) = catT (xs.take k) ++ 47 :: bs xs[k] := by
  unfold catT
  rw [List.take_succ_eq_append_getElem hk, List.flatMap_append]
  simp

set_option maxHeartbeats 1000000 in
theorem rjoin_any (ao : Option Addr) (n c : Nat) (xs : List ByteArray) (w : World) (hn : n ≤ 200000000000000) (hA : Lies w ao n c xs) :
    Calls Try.prog 13 #[.slice ao n c] w fun e w' => e = .returned (.tuple #[.string (tx (joinT (xs.map bs))), .int .i64 (judge (xs.map bs))]) ∧ ∃ m, w' = w.drewN m := by
  have hni : (n : Int) ≤ 200000000000000 := by omega
  have hjt : Hid (joinT (xs.map bs) = if judge (xs.map bs) = 0 then pathT (xs.map bs) else []) := ⟨rfl⟩
  have hsm : Hid (judge (xs.map bs) = 0 → xs.length ≤ 16 ∧ ∀ x, x ∈ xs → x.size ≤ 23) := ⟨judge_small⟩
  generalize joinT (xs.map bs) = T at hjt
  generalize hJd : judge (xs.map bs) = J at hjt hsm
  have hlen := hA.hlen
  go_enter Try.func13, Try.ntmps13
  go_wp2_with fail
  refine (rjudge_any _ _ _ _ _ hn hA).mono ?_
  rintro e w2 ⟨rfl, rfl⟩
  rw [hJd]
  clear hJd
  by_cases hJ : J = 0
  · subst hJ
    obtain ⟨h16, h23⟩ := hsm.out rfl
    have hT := hjt.out
    rw [if_pos rfl] at hT
    have HT : Hid (T = pathT (xs.map bs)) := ⟨hT⟩
    have H23 : Hid (∀ x, x ∈ xs → x.size ≤ 23) := ⟨h23⟩
    clear hT hjt hsm h23
    by_cases h0 : n = 0
    · subst h0
      have e0 : xs = [] := List.eq_nil_of_length_eq_zero hlen
      have hT := HT.out
      rw [e0] at hT
      have hT' : tx T = slash := by rw [hT]; rfl
      go_wp2
      go_ret2
      exact ⟨by rw [hT']; rfl, 0, rfl⟩
    · have h0i : ((n : Int) == 0) = false := by simp; omega
      go_wp2
      go_loopw [5, 6] (fun s i wr => ∃ (k m : Nat) (S : ByteArray), k ≤ n ∧ s = .string S ∧ i = .int .i64 k ∧ wr = w2.drewN m ∧ bs S = catT (xs.take k) ∧ S.size ≤ 24 * k) (fun _ i _ => n - (intOf i).toNat)
      case atStart => exact ⟨0, 0, ⟨#[]⟩, Nat.zero_le _, rfl, rfl, rfl, rfl, by decide⟩
      case round =>
        obtain ⟨k, m, S, hk, rfl, rfl, rfl, hS, hSz⟩ := hrel
        have HS : Hid (bs S = catT (xs.take k)) := ⟨hS⟩
        clear hS
        by_cases hlt : k < n
        · have hk' : k < xs.length := by omega
          obtain ⟨b, o, rfl, hbw, hcell⟩ := (hA.below ((Below.refl w2.heap.size w2).drewN m) (Nat.le_refl _)).at (by omega)
          have ga := hcell k hk'
          have hxs := H23.out _ (List.getElem_mem hk')
          have hst := catT_step hk'
          clear hcell
          generalize xs[k] = x at ga hxs hst
          have HST : Hid (catT (xs.take (k + 1)) = catT (xs.take k) ++ 47 :: bs x) := ⟨hst⟩
          clear hst
          have hz1 : ¬ 9223372036854775807 < S.size + 1 := by omega
          have hz2 : ¬ 9223372036854775807 < S.size + 1 + x.size := by omega
          go_wp2
          go_roundw
          case rel => exact ⟨k + 1, m, S ++ slash ++ x, by omega, rfl, by go_num, rfl, by rw [cat_bs, HST.out, HS.out], by rw [size_bs, cat_bs, List.length_append, List.length_cons, ← size_bs, ← size_bs]; omega⟩
          case measure => simp [intOf]; omega
        · have hTS : tx T = S := by
            rw [HT.out, ← catT_path (by intro e; rw [e] at hlen; simp at hlen; omega), ← tx_bs S, HS.out, List.take_of_length_le (by omega)]
          go_wp2
          go_ret2
          exact ⟨by rw [hTS]; rfl, m, rfl⟩
  · have hJ' : (J == 0) = false := by simpa using hJ
    have hT := hjt.out
    rw [if_neg hJ] at hT
    subst hT
    go_wp2
    go_ret2
    exact ⟨rfl, 0, rfl⟩
end Go.Proofs.Ytknneihkkagnfab
