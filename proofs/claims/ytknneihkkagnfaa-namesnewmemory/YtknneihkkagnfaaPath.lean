/- names.pathOf, names.ownTexts, slices.Equal. -/
import Derived.Test.YtknneihkkagnfaaCut
import Derived.Test.YtknneihkkagnfaaAll
namespace Go.Proofs.Ytknneihkkagnfaa
open Go.RowKit
set_option maxRecDepth 100000

theorem slash_app (l : List UInt8) : slash ++ tx l = tx (47 :: l) := by
  apply bs_inj
  simp [bs, tx]

set_option maxHeartbeats 1000000 in
theorem pathOf_any (ao : Option Addr) (n c : Nat) (xs : List ByteArray) (w : World) (hn : n ≤ 16) (hA : Lies w ao n c xs) (hx : ∀ x, x ∈ xs → x.size ≤ 23) :
    Calls Try.prog 23 #[.slice ao n c] w fun e w' => e = .returned (.string (tx (pathT (xs.map bs)))) ∧ Below w.heap.size w w' := by
  obtain rfl := hA.hlen
  have hj : Calls Try.prog 28 #[.slice ao xs.length c, .string slash] w fun e w' => e = .returned (.string (tx (Lib.join (xs.map bs) [47]))) ∧ Below w.heap.size w w' := by
    by_cases h0 : 0 < xs.length
    · obtain ⟨b, o, rfl, hbw, ha⟩ := hA.at h0
      have hl := join_len (l := xs.map bs) (by intro e; simp at e; rw [e] at h0; simp at h0) (fun x hx' => by
        obtain ⟨y, hy, rfl⟩ := List.mem_map.1 hx'
        rw [← size_bs]; exact hx y hy)
      refine Try.strings_Join b o c xs slash w (fun j x hjx => ?_) hbw (by omega) hA.hle ?_
      · obtain ⟨hj, rfl⟩ := List.getElem?_eq_some_iff.1 hjx
        exact ha j hj
      · simp only [List.length_map] at hl
        show (Lib.join (xs.map bs) [47]).length ≤ _
        omega
    · have e0 : xs = [] := List.eq_nil_of_length_eq_zero (by omega)
      subst e0
      refine (Try.strings_Join_none ao c slash w).mono ?_
      rintro e w' ⟨rfl, rfl⟩
      exact ⟨rfl, Below.refl _ _⟩
  have hl : (Lib.join (xs.map bs) [47]).length ≤ 384 := by
    by_cases h0 : xs = []
    · subst h0; simp [Lib.join_nil]
    · have hl := join_len (l := xs.map bs) (by simpa using h0) (fun x hx' => by
        obtain ⟨y, hy, rfl⟩ := List.mem_map.1 hx'
        rw [← size_bs]; exact hx y hy)
      simp only [List.length_map] at hl
      omega
  have hsz : (tx (Lib.join (xs.map bs) [47])).size ≤ 384 := by rw [size_bs, bs_tx]; exact hl
  generalize hT : Lib.join (xs.map bs) [47] = T at hj hsz
  have hp : pathT (xs.map bs) = 47 :: T := by unfold pathT; rw [hT]
  rw [hp]
  clear hp hl hT
  go_enter Try.func23, Try.ntmps23
  go_wp2_with fail
  refine hj.mono ?_
  rintro e w2 ⟨rfl, hb⟩
  clear hj
  rw [size_bs, bs_tx] at hsz
  have hs1 : ¬ 9223372036854775807 < 1 + T.length := by omega
  go_wp2
  go_ret
  exact ⟨by rw [← slash_app]; rfl, hb⟩

theorem set_same (c : Array Value) (i : Nat) (v : Value) (h : c[i]? = some v) : c.setIfInBounds i v = c := by
  obtain ⟨hlt, rfl⟩ := Array.getElem?_eq_some_iff.1 h
  apply Array.ext
  · simp
  · intro j h1 h2
    rw [Array.getElem_setIfInBounds]
    split
    · rename_i e; subst e; rfl
    · rfl
theorem setCell_id {w : World} {a : Addr} {v : Value} (h : w.cell? a = some v) : w.setCell a v = w := by
  have hheap : (w.setCell a v).heap = w.heap := by
    unfold World.cell? at h
    apply Array.ext
    · simp [World.setCell]
    · intro i h1 h2
      simp only [World.setCell, Array.getElem_modify]
      split
      · rename_i e
        subst e
        have hb : w.heap[a.block]? = some w.heap[a.block] := by simp [h2]
        rw [hb] at h
        cases ho : w.heap[a.block] with
        | cells c e f =>
          rw [ho] at h
          simp only at h ⊢
          by_cases hs : a.spot.isSome = true
          · rw [if_pos hs]
          · rw [if_neg hs] at h ⊢
            rw [set_same c _ v h]
        | _ => rfl
      · rfl
  have : w.setCell a v = { w with heap := (w.setCell a v).heap } := rfl
  rw [this, hheap]

set_option maxHeartbeats 1000000 in
/-- ownTexts of a list of the call's own: the same texts; nothing has turned. -/
theorem ownTexts_pos (base g c : Nat) (n : Nat) (xs : List ByteArray) (w : World) (hn : n ≤ 16) (hx : ∀ x, x ∈ xs → x.size ≤ 23) (hg : g < w.heap.size)
    (hA : w.ownsRow base 9 1 (.slice (some ⟨g, 0, none⟩) n c) n (xs.map Value.string)) :
    Calls Try.prog 26 #[.slice (some ⟨g, 0, none⟩) n c] w fun e w' => e = .returned (.slice (some ⟨g, 0, none⟩) n c) ∧ Below w.heap.size w w' := by
  have hl : xs.length = n := by simpa using hA.1
  have hnc : n ≤ c := by
    rcases hA.2 with ⟨hv, _⟩ | ⟨g', cap', cur, hv, _, _, hnc, _⟩
    · cases hv
    · cases hv; exact hnc
  go_enter Try.func26, Try.ntmps26
  go_wp2
  go_loopw [7] (fun i wr => ∃ k : Nat, k ≤ n ∧ i = .int .i64 k ∧ Below w.heap.size w wr) (fun i _ => n - (intOf i).toNat)
  case atStart => exact ⟨0, Nat.zero_le _, rfl, Below.refl _ _⟩
  case round =>
    obtain ⟨k, hk, rfl, hbl⟩ := hrel
    by_cases hlt : k < n
    · have hk' : k < xs.length := by omega
      have hc0 : w.cell? ⟨g, k, none⟩ = some (.string xs[k]) := by
        rw [hA.cellAt k (by omega)]; simp [hk']
      have hc := (hbl.cell (p := ⟨g, k, none⟩) hg).trans hc0
      have hs := hx _ (List.getElem_mem hk')
      have hf := (hbl.frozen (p := ⟨g, k, none⟩) hg).trans (hA.frozenAt k)
      go_wp2_with fail
      refine (clone_any _ _ (by omega)).mono ?_
      rintro e w2 ⟨rfl, hb2⟩
      have hgr : g < wr.heap.size := Nat.lt_of_lt_of_le hg hbl.size
      have hc2 := (hb2.cell (p := ⟨g, k, none⟩) hgr).trans hc
      have hf2 := (hb2.frozen (p := ⟨g, k, none⟩) hgr).trans hf
      have hb3 := hbl.trans (hb2.mono hbl.size)
      clear hc hf
      go_wp2
      rw [setCell_id hc2]
      go_roundw
      case rel => exact ⟨k + 1, by omega, by go_num, hb3⟩
      case measure => simp [intOf]; omega
    · go_wp2
      go_ret
      exact ⟨rfl, hbl⟩
end Go.Proofs.Ytknneihkkagnfaa
