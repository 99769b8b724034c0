/- names.Add. -/
import Derived.Test.YtknneihkkagnfaaJoin
import Derived.Laws.AppendOwn
namespace Go.Proofs.Ytknneihkkagnfaa
open Go.RowKit
set_option maxRecDepth 100000

/-- Add's error, and its text. -/
def addE (p nm : List UInt8) : Int := if splitE p = 0 then (if okName nm = true then judge (splitL p ++ [nm]) else 31) else splitE p
def addT (p nm : List UInt8) : List UInt8 := if addE p nm = 0 then pathT (splitL p ++ [nm]) else []

/-- A row of the call's own behind what leaves it alone. -/
theorem own_below {w w' : World} {base n c B : Nat} {ao : Option Addr} {xs : List Value} (h : w.ownsRow base 9 1 (.slice ao n c) n xs) (hb : Below B w w') (hB : w.heap.size ≤ B) : w'.ownsRow base 9 1 (.slice ao n c) n xs := by
  rcases h with ⟨h0, h1 | ⟨g', cap, cur, h2, h3, h4, h5⟩⟩
  · exact ⟨h0, Or.inl h1⟩
  · have := (Array.getElem?_eq_some_iff.1 h4).1
    exact ⟨h0, Or.inr ⟨g', cap, cur, h2, h3, (hb.block _ (by omega)).trans h4, h5⟩⟩
theorem own_block {w : World} {base n c : Nat} {ao : Option Addr} {xs : List Value} (h : w.ownsRow base 9 1 (.slice ao n c) n xs) : ∀ k, (Value.slice ao n c).ownBlock = some k → base ≤ k := by
  intro k hk
  rcases h with ⟨h0, ⟨h1, _⟩ | ⟨g', cap, cur, h2, h3, h4, h5⟩⟩
  · cases h1; simp [Value.ownBlock] at hk
  · cases h2; simp [Value.ownBlock] at hk; omega
theorem map_tx_bs (l : List (List UInt8)) : (l.map tx).map bs = l := by
  rw [List.map_map]
  have : bs ∘ tx = id := by funext x; simp
  rw [this]; simp
theorem splitL_len (p : List UInt8) : (splitL p).length ≤ 16 := by
  by_cases h : splitE p = 0
  · exact (judge_zero.1 (path_split h).1).1
  · rw [splitL_err h]; simp

set_option maxHeartbeats 1000000 in
theorem add_any (p nm : ByteArray) (w : World) (hs : p.size ≤ 281474976710656) :
    Calls Try.prog 18 #[.string p, .string nm] w fun e w' => e = .returned (.tuple #[.string (tx (addT (bs p) (bs nm))), .int .i64 (addE (bs p) (bs nm))]) ∧ Below w.heap.size w w' := by
  obtain ⟨i0, hi, hz0, hz1, hz2⟩ := info_parts Try.info9
  have hE : Hid (addE (bs p) (bs nm) = if splitE (bs p) = 0 then (if okName (bs nm) = true then judge (splitL (bs p) ++ [bs nm]) else 31) else splitE (bs p)) := ⟨rfl⟩
  have hT : Hid (addT (bs p) (bs nm) = if addE (bs p) (bs nm) = 0 then pathT (splitL (bs p) ++ [bs nm]) else []) := ⟨rfl⟩
  have hlen := splitL_len (bs p)
  generalize addT (bs p) (bs nm) = T at hT
  generalize addE (bs p) (bs nm) = E at hT hE
  go_enter Try.func18, Try.ntmps18
  go_wp2_with fail
  refine (split_any _ _ hs).mono ?_
  rintro e w2 ⟨ao, n, c, rfl, hown, hb2⟩
  have hn : n = (splitL (bs p)).length := by have := hown.1; simp at this; omega
  generalize splitL (bs p) = L at hown hE hT hlen hn
  generalize splitE (bs p) = S at hE
  subst hn
  by_cases hS : S = 0
  · subst hS
    have hE1 := hE.out
    rw [if_pos rfl] at hE1
    have hck : checkN (bs nm) = if okName (bs nm) = true then 0 else 31 := rfl
    generalize hc0 : checkN (bs nm) = C at hck
    go_wp2_with fail
    refine (check_any _ _).mono ?_
    rintro e w3 ⟨rfl, hb3⟩
    rw [hc0]
    by_cases hC : okName (bs nm) = true
    · rw [if_pos hC] at hck hE1
      subst hck
      have hj : judge (L ++ [bs nm]) = judge ((L.map tx ++ [nm]).map bs) := by rw [List.map_append, map_tx_bs]; rfl
      have hp : pathT (L ++ [bs nm]) = pathT ((L.map tx ++ [nm]).map bs) := by rw [List.map_append, map_tx_bs]; rfl
      have hown3 := own_below hown hb3 (Nat.le_refl _)
      have hb23 := hb2.trans (hb3.mono hb2.size)
      have hT1 := hT.out
      rw [hE1] at hT1
      rw [hp, hj] at hT1
      rw [hj] at hE1
      clear hT hE hj hp
      have HE : Hid (E = judge ((L.map tx ++ [nm]).map bs)) := ⟨hE1⟩
      have HT : Hid (T = joinT ((L.map tx ++ [nm]).map bs)) := ⟨hT1⟩
      clear hE1 hT1 hC
      go_wp2_with (at_builtin; refine wpList_append_own _ rfl (.tmp 22) (.tmp 24) 22 rfl w.heap.size 9 i0 (.string ⟨#[]⟩) 1 16 Try.underlying22 hi hz0 hz1 hz2 rfl (by decide) _ _ _ rfl (hown3.alloc _) ⟨w3.heap.size, 0, none⟩ 1 1 [.string nm] rfl rfl (cell_one_new _ _ _) (by intro u hu; simp at hu; subst hu; rfl) (by unfold maxLen; omega) (by omega) (by have := hb23.size; simp; omega) ?_; intro v' w4 hown4 hgrow4 _)
      obtain ⟨ao4, c4, rfl⟩ := own_len (xs := L.map tx ++ [nm]) (by simpa using hown4)
      have hb4 : Below w.heap.size w w4 := (hb23.alloc hb23.size _).grown hgrow4 (by have := hb23.size; simp; omega) (own_block hown)
      have hl4 := Lies.owned (xs := L.map tx ++ [nm]) (by simpa using hown4)
      go_wp2_with fail
      refine (join_any _ _ _ _ _ (by omega) hl4).mono ?_
      rintro e w5 ⟨rfl, hb5⟩
      rw [← HE.out, ← HT.out]
      go_wp2
      go_ret2
      exact ⟨rfl, hb4.trans (hb5.mono hb4.size)⟩
    · rw [if_neg hC] at hck hE1
      subst hck
      subst hE1
      have hT1 := hT.out
      rw [if_neg (by decide)] at hT1
      subst hT1
      go_wp2
      go_ret2
      exact ⟨rfl, hb2.trans (hb3.mono hb2.size)⟩
  · have hE1 := hE.out
    rw [if_neg hS] at hE1
    subst hE1
    have hT1 := hT.out
    rw [if_neg hS] at hT1
    subst hT1
    have hS' : (E == 0) = false := by simpa using hS
    go_wp2
    go_ret2
    exact ⟨rfl, hb2⟩
end Go.Proofs.Ytknneihkkagnfaa
