/- annexref3.Add: as names.Add answers. -/
import Derived.Test.YtknneihkkagnfabRJoin
namespace Go.Proofs.Ytknneihkkagnfab
open Go.RowKit
set_option maxRecDepth 100000

set_option maxHeartbeats 1000000 in
theorem radd_any (p nm : ByteArray) (w : World) (hs : p.size ≤ 1048576) :
    Calls Try.prog 17 #[.string p, .string nm] w fun e w' => e = .returned (.tuple #[.string (tx (addT (bs p) (bs nm))), .int .i64 (addE (bs p) (bs nm))]) ∧ Below w.heap.size w w' := by
  obtain ⟨i0, hi, hz0, hz1, hz2⟩ := info_parts Try.info9
  have hE : Hid (addE (bs p) (bs nm) = if splitE (bs p) = 0 then (if okName (bs nm) = true then judge (splitL (bs p) ++ [bs nm]) else 31) else splitE (bs p)) := ⟨rfl⟩
  have hT : Hid (addT (bs p) (bs nm) = if addE (bs p) (bs nm) = 0 then pathT (splitL (bs p) ++ [bs nm]) else []) := ⟨rfl⟩
  have hlen := splitL_len (bs p)
  generalize addT (bs p) (bs nm) = T at hT
  generalize addE (bs p) (bs nm) = E at hT hE
  go_enter Try.func17, Try.ntmps17
  go_wp2_with fail
  refine (rsplit_any _ _ hs).mono ?_
  rintro e w2 ⟨ao, n, c, rfl, hown, hb2⟩
  have hn : n = (splitL (bs p)).length := by have := hown.1; simp at this; omega
  generalize splitL (bs p) = L at hown hE hT hlen hn
  generalize splitE (bs p) = S at hE
  subst hn
  by_cases hS : S = 0
  · subst hS
    have hE1 := hE.out
    rw [if_pos rfl] at hE1
    have hck : checkN (bs nm) = if okName (bs nm) = true then 0 else 31 := rfl
    generalize hc0 : checkN (bs nm) = C at hck
    go_wp2_with fail
    refine (rcheck_any _ _).mono ?_
    rintro e w3 ⟨rfl, rfl⟩
    have hb3 := Below.refl w3.heap.size w3
    rw [hc0]
    by_cases hC : okName (bs nm) = true
    · rw [if_pos hC] at hck hE1
      subst hck
      have hj : judge (L ++ [bs nm]) = judge ((L.map tx ++ [nm]).map bs) := by rw [List.map_append, map_tx_bs]; rfl
      have hp : pathT (L ++ [bs nm]) = pathT ((L.map tx ++ [nm]).map bs) := by rw [List.map_append, map_tx_bs]; rfl
      have hown3 := own_below hown hb3 (Nat.le_refl _)
      have hb23 := hb2.trans (hb3.mono hb2.size)
      have hT1 := hT.out
      rw [hE1] at hT1
      rw [hp, hj] at hT1
      rw [hj] at hE1
      clear hT hE hj hp
      have HE : Hid (E = judge ((L.map tx ++ [nm]).map bs)) := ⟨hE1⟩
      have HT : Hid (T = joinT ((L.map tx ++ [nm]).map bs)) := ⟨hT1⟩
      clear hE1 hT1 hC
      go_wp2_with (at_builtin; refine wpList_append_own _ rfl (.tmp 21) (.tmp 23) 22 rfl w.heap.size 9 i0 (.string ⟨#[]⟩) 1 16 Try.underlying22 hi hz0 hz1 hz2 rfl (by decide) _ _ _ rfl (hown3.alloc _) ⟨w3.heap.size, 0, none⟩ 1 1 [.string nm] rfl rfl (cell_one_new _ _ _) (by intro u hu; simp at hu; subst hu; rfl) (by unfold maxLen; omega) (by omega) (by have := hb23.size; simp; omega) ?_; intro v' w4 hown4 hgrow4 _)
      obtain ⟨ao4, c4, rfl⟩ := own_len (xs := L.map tx ++ [nm]) (by simpa using hown4)
      have hb4 : Below w.heap.size w w4 := (hb23.alloc hb23.size _).grown hgrow4 (by have := hb23.size; simp; omega) (own_block hown)
      have hl4 := Lies.owned (xs := L.map tx ++ [nm]) (by simpa using hown4)
      go_wp2_with fail
      refine (rjoin_any _ _ _ _ _ (by omega) hl4).mono ?_
      rintro e w5 ⟨rfl, q, rfl⟩
      rw [← HE.out, ← HT.out]
      go_wp2
      go_ret2
      exact ⟨rfl, hb4.drewN q⟩
    · rw [if_neg hC] at hck hE1
      subst hck
      subst hE1
      have hT1 := hT.out
      rw [if_neg (by decide)] at hT1
      subst hT1
      go_wp2
      go_ret2
      exact ⟨rfl, hb2.trans (hb3.mono hb2.size)⟩
  · have hE1 := hE.out
    rw [if_neg hS] at hE1
    subst hE1
    have hT1 := hT.out
    rw [if_neg hS] at hT1
    subst hT1
    have hS' : (E == 0) = false := by simpa using hS
    go_wp2
    go_ret2
    exact ⟨rfl, hb2⟩
end Go.Proofs.Ytknneihkkagnfab
