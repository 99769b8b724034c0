/- annexref3.Under: as names.Under answers. -/
import Derived.Test.YtknneihkkagnfabRJoin
namespace Go.Proofs.Ytknneihkkagnfab
open Go.RowKit
set_option maxRecDepth 100000

set_option maxHeartbeats 1000000 in
theorem runder_any (p t : ByteArray) (w : World) (hs : p.size ≤ 1048576) (ht : t.size ≤ 1048576) :
    Calls Try.prog 19 #[.string p, .string t] w fun e w' => e = .returned (.bool (underB (bs p) (bs t))) ∧ Below w.heap.size w w' := by
  have hU : Hid (underB (bs p) (bs t) = (decide (splitE (bs p) = 0) && decide (splitE (bs t) = 0) && decide ((splitL (bs p)).take (splitL (bs t)).length = splitL (bs t)))) := ⟨rfl⟩
  have hl1 := splitL_len (bs p)
  have hl2 := splitL_len (bs t)
  generalize underB (bs p) (bs t) = U at hU
  go_enter Try.func19, Try.ntmps19
  go_wp2_with fail
  refine (rsplit_any _ _ hs).mono ?_
  rintro e w2 ⟨ao, n, c, rfl, hown, hb2⟩
  have hn : n = (splitL (bs p)).length := by have := hown.1; simp at this; omega
  generalize splitL (bs p) = L at hown hU hl1 hn
  generalize splitE (bs p) = S at hU
  subst hn
  go_wp2_with fail
  refine (rsplit_any _ _ ht).mono ?_
  rintro e w3 ⟨ao3, n3, c3, rfl, hown3, hb3⟩
  have hn : n3 = (splitL (bs t)).length := by have := hown3.1; simp at this; omega
  generalize splitL (bs t) = M at hown3 hU hl2 hn
  generalize splitE (bs t) = R at hU
  subst hn
  have hb23 := hb2.trans (hb3.mono hb2.size)
  have hA := Lies.owned (own_below hown hb3 (Nat.le_refl _))
  have hB := Lies.owned hown3
  clear hown hown3
  by_cases hS : S = 0
  · subst hS
    by_cases hR : R = 0
    · subst hR
      by_cases hlen : L.length < M.length
      · have hlen' : (L.length : Int) < M.length := by omega
        have e1 : U = false := by
          rw [hU.out]; simp
          intro e
          have := congrArg List.length e
          simp at this; omega
        subst e1
        go_wp2
        go_ret
        exact ⟨rfl, hb23⟩
      · have hlen' : ¬ (L.length : Int) < M.length := by omega
        have hU1 := hU.out
        simp only [decide_true, Bool.true_and] at hU1
        have HU : Hid (U = decide (L.take M.length = M)) := ⟨hU1⟩
        clear hU hU1
        go_wp2
        go_loopw [9] (fun i wr => ∃ k m : Nat, k ≤ M.length ∧ i = .int .i64 k ∧ wr = w3.drewN m ∧ L.take k = M.take k) (fun i _ => M.length - (intOf i).toNat)
        case atStart => exact ⟨0, 0, Nat.zero_le _, rfl, rfl, by simp⟩
        case round =>
          obtain ⟨k, m, hk, rfl, rfl, htk⟩ := hrel
          have HT : Hid (L.take k = M.take k) := ⟨htk⟩
          clear htk
          by_cases hlt : k < M.length
          · have hkL : k < L.length := by omega
            obtain ⟨b1, o1, rfl, hbw1, hcell1⟩ := hA.at (by omega)
            obtain ⟨b2, o2, rfl, hbw2, hcell2⟩ := hB.at (by omega)
            have ga := hcell1 k (by simpa using hkL)
            have gb := hcell2 k (by simpa using hlt)
            rw [List.getElem_map] at ga gb
            have hne : Hid (¬ L[k] = M[k] → U = false) := ⟨fun h => by
              rw [HU.out]
              apply decide_eq_false
              intro e
              apply h
              have h2 : (L.take M.length)[k]'(by rw [List.length_take]; omega) = M[k] := by simp [e]
              rw [List.getElem_take] at h2
              exact h2⟩
            have heqs : Hid (L[k] = M[k] → L.take (k + 1) = M.take (k + 1)) := ⟨fun h => by
              rw [List.take_succ_eq_append_getElem hkL, List.take_succ_eq_append_getElem hlt, HT.out, h]⟩
            clear hcell1 hcell2 hA hB
            generalize L[k] = x at ga hne heqs
            generalize M[k] = y at gb hne heqs
            by_cases hxy : x = y
            · subst hxy
              go_wp2
              go_quiet (fail)
              go_wp2
              go_roundw
              case rel => exact ⟨k + 1, m + nq, by omega, by go_num, by first | rfl | simp, heqs.out trivial⟩
              case measure => simp [intOf]; omega
            · have hU := hne.out hxy
              subst hU
              have hxy' : (x == y) = false := by simpa using hxy
              go_wp2
              go_quiet (fail)
              go_wp2
              go_ret
              exact ⟨rfl, (hb23.drewN m).drewN nq⟩
          · clear hA hB
            go_wp2
            go_ret
            refine ⟨?_, hb23.drewN m⟩
            have h1 := HT.out
            obtain rfl : k = M.length := by omega
            rw [List.take_length] at h1
            rw [HU.out, decide_eq_true h1]
            rfl
    · have hR' : (R == 0) = false := by simpa using hR
      have e1 : U = false := by rw [hU.out]; simp [hR]
      subst e1
      go_wp2
      go_ret
      exact ⟨rfl, hb23⟩
  · have hS' : (S == 0) = false := by simpa using hS
    have e1 : U = false := by rw [hU.out]; simp [hS]
    subst e1
    go_wp2
    go_ret
    exact ⟨rfl, hb23⟩
end Go.Proofs.Ytknneihkkagnfab
