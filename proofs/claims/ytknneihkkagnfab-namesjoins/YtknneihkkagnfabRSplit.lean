/- annexref3.Split and annexref3.Join: as names.Split and names.Join answer. -/
import Derived.Test.YtknneihkkagnfabRParts
namespace Go.Proofs.Ytknneihkkagnfab
open Go.RowKit
set_option maxRecDepth 100000

theorem tx_bs_map (xs : List ByteArray) : (xs.map bs).map tx = xs := by
  rw [List.map_map]
  conv => rhs; rw [← List.map_id xs]
  exact List.map_congr_left fun x _ => tx_bs x

theorem cuts_len (l : List UInt8) : (cuts l).length ≤ l.length + 1 := by
  induction l with
  | nil => simp [cuts]
  | cons b r ih =>
    unfold cuts
    split
    · simp; omega
    · split
      · simp
      · rename_i h; rw [h] at ih; simp at ih ⊢; omega

set_option maxHeartbeats 1000000 in
theorem rsplit_any (p : ByteArray) (w : World) (hs : p.size ≤ 1048576) :
    Calls Try.prog 8 #[.string p] w fun e w' => SplitR w p e w' := by
  have hempty : w.ownsRow w.heap.size 9 1 (.slice none 0 0) 0 ((([] : List (List UInt8)).map tx).map Value.string) := ⟨rfl, Or.inl ⟨rfl, rfl⟩⟩
  go_enter Try.func8, Try.ntmps8
  by_cases h0 : p.toList = []
  · have hz : bs p = [] := by rw [ByteArray.toList_eq] at h0; exact h0
    have hE : splitE (bs p) = 32 := by rw [hz]; decide
    have hL := splitL_err (p := bs p) (by rw [hE]; decide)
    go_wp2
    go_ret2
    refine ⟨none, 0, 0, by rw [hE]; rfl, ?_, Below.refl _ _⟩
    rw [hL]
    exact hempty
  have hz : ¬ bs p = [] := by rw [ByteArray.toList_eq] at h0; exact h0
  have hpos : 0 < p.size := by rw [size_bs]; exact List.length_pos_iff.2 hz
  have hi0 : p.toList.isEmpty = false := by cases h : p.toList with | nil => exact absurd h h0 | cons => rfl
  have hhead : (bs p).head? = some (p[0]'hpos) := by
    have hl : 0 < (bs p).length := by rw [← size_bs]; exact hpos
    rw [List.head?_eq_getElem?, List.getElem?_eq_getElem hl]
    simp [ByteArray.getElem_eq_getElem_data]
  by_cases h47 : (p[0]'hpos).toNat = 47
  · have hh : (bs p).head? = some 47 := by rw [hhead, UInt8.toNat_inj.1 (show (p[0]'hpos).toNat = (47 : UInt8).toNat from h47)]
    by_cases hr : p.toList = [47]
    · have hr' : bs p = [47] := by rw [ByteArray.toList_eq] at hr; exact hr
      have hE : splitE (bs p) = 0 := by rw [hr']; decide
      have hL : splitL (bs p) = [] := by rw [hr']; decide
      go_wp2
      go_ret2
      refine ⟨none, 0, 0, by rw [hE]; rfl, ?_, Below.refl _ _⟩
      rw [hL]
      exact hempty
    · have hr' : ¬ bs p = [47] := by rw [ByteArray.toList_eq] at hr; exact hr
      have hri : (p.toList == [47]) = false := by simpa using hr
      have hE : splitE (bs p) = judge (cuts (bs p).tail) := by unfold splitE; rw [if_pos hh, if_neg hr']
      have hL : Hid (splitE (bs p) = 0 → splitL (bs p) = cuts (bs p).tail) := ⟨fun h => by unfold splitL; rw [if_pos ⟨h, hr'⟩]⟩
      have hLe : Hid (splitE (bs p) ≠ 0 → splitL (bs p) = []) := ⟨fun h => splitL_err h⟩
      have hcl : (cuts (bs p).tail).length ≤ 1048576 + 1 := by
        have := cuts_len (bs p).tail
        have h2 : (bs p).tail.length ≤ p.size := by rw [List.length_tail, ← size_bs]; omega
        omega
      go_wp2_with fail
      refine (rparts_any _ _ hs hpos).mono ?_
      rintro e w2 ⟨ao, n, c, rfl, hown, hb2⟩
      have hn : n ≤ 1048577 := by have := hown.1; simp [cutsB] at this; omega
      go_wp2_with fail
      refine (rjudge_any _ _ _ _ _ (by omega) (Lies.owned hown)).mono ?_
      rintro e w3 ⟨rfl, rfl⟩
      have hj : judge ((cutsB (bs p).tail).map bs) = splitE (bs p) := by unfold cutsB; rw [map_tx_bs, hE]
      rw [hj]
      by_cases hS : splitE (bs p) = 0
      · have hL1 := hL.out hS
        rw [hS]
        go_wp2
        go_ret2
        refine ⟨ao, n, c, by rw [hS]; rfl, ?_, hb2⟩
        rw [hL1]
        exact hown
      · have hL1 := hLe.out hS
        have hS' : (splitE (bs p) == 0) = false := by simpa using hS
        go_wp2
        go_ret2
        refine ⟨none, 0, 0, by rw [hE]; rfl, ?_, hb2⟩
        rw [hL1]
        exact ⟨rfl, Or.inl ⟨rfl, rfl⟩⟩
  · have hh : ¬ (bs p).head? = some 47 := by
      rw [hhead]; intro e
      exact h47 (by rw [Option.some.inj e]; rfl)
    have h47i : (((p[0]'hpos).toNat : Int) == 47) = false := by simp; omega
    have hE : splitE (bs p) = 32 := by unfold splitE; rw [if_neg hh]
    have hL := splitL_err (p := bs p) (by rw [hE]; decide)
    go_wp2
    go_ret2
    refine ⟨none, 0, 0, by rw [hE]; rfl, ?_, Below.refl _ _⟩
    rw [hL]
    exact hempty
end Go.Proofs.Ytknneihkkagnfab
