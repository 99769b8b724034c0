/- annexref3.Parent: as names.Parent answers. -/
import Derived.Test.YtknneihkkagnfabRJoin
namespace Go.Proofs.Ytknneihkkagnfab
open Go.RowKit
set_option maxRecDepth 100000

theorem judge_sub {L M : List (List UInt8)} (h : judge L = 0) (hl : M.length ≤ L.length) (hm : ∀ x, x ∈ M → x ∈ L) : judge M = 0 := by
  obtain ⟨h1, h2⟩ := judge_zero.1 h
  exact judge_zero.2 ⟨by omega, fun x hx => h2 x (hm x hx)⟩

set_option maxHeartbeats 1000000 in
theorem rparent_any (p : ByteArray) (w : World) (hs : p.size ≤ 1048576) :
    Calls Try.prog 15 #[.string p] w fun e w' => e = .returned (.tuple #[.string (tx (parentT (bs p))), .string (tx (parentN (bs p))), .int .i64 (parentE (bs p))]) ∧ Below w.heap.size w w' := by
  have hE : Hid (parentE (bs p) = if splitE (bs p) = 0 then (if splitL (bs p) = [] then 34 else 0) else splitE (bs p)) := ⟨rfl⟩
  have hT : Hid (parentT (bs p) = if parentE (bs p) = 0 then pathT (splitL (bs p)).dropLast else []) := ⟨rfl⟩
  have hN : Hid (parentN (bs p) = if parentE (bs p) = 0 then (splitL (bs p)).getLastD [] else []) := ⟨rfl⟩
  have hlen := splitL_len (bs p)
  have hdl : Hid (splitE (bs p) = 0 → judge (splitL (bs p)).dropLast = 0) := ⟨fun h => judge_sub (path_split h).1 (by rw [List.length_dropLast]; omega) (fun _ hx => List.dropLast_subset _ hx)⟩
  generalize parentT (bs p) = T at hT
  generalize parentN (bs p) = N at hN
  generalize parentE (bs p) = E at hT hE hN
  go_enter Try.func15, Try.ntmps15
  go_wp2_with fail
  refine (rsplit_any _ _ hs).mono ?_
  rintro e w2 ⟨ao, n, c, rfl, hown, hb2⟩
  have hn : n = (splitL (bs p)).length := by have := hown.1; simp at this; omega
  generalize splitL (bs p) = L at hown hE hT hN hlen hn hdl
  generalize splitE (bs p) = S at hE hdl
  subst hn
  by_cases hS : S = 0
  · subst hS
    have hE1 := hE.out
    rw [if_pos rfl] at hE1
    by_cases hL : L = []
    · subst hL
      rw [if_pos rfl] at hE1
      subst hE1
      have hT1 := hT.out
      have hN1 := hN.out
      rw [if_neg (by decide)] at hT1 hN1
      subst hT1; subst hN1
      go_wp2
      go_ret3
      exact ⟨rfl, hb2⟩
    · rw [if_neg hL] at hE1
      subst hE1
      have hT1 := hT.out
      have hN1 := hN.out
      rw [if_pos rfl] at hT1 hN1
      have hp : 0 < L.length := List.length_pos_iff.2 hL
      have hl := Lies.owned hown
      have hpre := hl.pre (k := L.length - 1) (by omega)
      have h0' : ((L.length : Int) == 0) = false := by simp; exact hL
      obtain ⟨b, o, rfl, hbw, hcell⟩ := hl.at hp
      have hc := hcell (L.length - 1) (by simp; omega)
      have e1 : (L.map tx).take (L.length - 1) = L.dropLast.map tx := by rw [← List.map_take, List.dropLast_eq_take]
      rw [e1] at hpre
      have e2 : (L.map tx)[L.length - 1]'(by simp; omega) = tx (L.getLastD []) := by
        rw [List.getElem_map]
        congr 1
        rw [List.getLastD_eq_getLast?, List.getLast?_eq_getElem?, List.getElem?_eq_getElem (by omega)]
        rfl
      rw [e2, ← hN1] at hc
      have e3 : joinT ((L.dropLast.map tx).map bs) = T := by rw [map_tx_bs, hT1]; unfold joinT; rw [if_pos (hdl.out rfl)]
      obtain ⟨K, hK⟩ : ∃ K, L.length = K + 1 := ⟨L.length - 1, by omega⟩
      rw [hK] at hpre hc h0' hp
      simp only [Nat.add_sub_cancel] at hpre hc
      rw [hK]
      have hcap := hl.hle
      rw [hK] at hcap
      have hK16 : K ≤ 15 := by omega
      clear hT hN hE hT1 hN1 hown hl hcell hdl e1 e2 h0' hL
      have hw1 : IntKind.i64.wrap ((K : Int) + 1 - 1) = K := by rw [IntKind.wrap_i64]; omega
      have c1 : (0 : Int) ≤ K := by omega
      have c2 : (K : Int) ≤ c := by omega
      have hz0 : ¬ ((K : Int) + 1) = 0 := by omega
      have c3 : (K : Int) < (K : Int) + 1 := by omega
      go_wp2_with fail
      refine (rjoin_any _ _ _ _ _ (by omega) hpre).mono ?_
      rintro e w3 ⟨rfl, q, rfl⟩
      rw [e3]
      generalize judge ((L.dropLast.map tx).map bs) = J
      go_wp2
      go_quiet (fail)
      go_wp2
      go_ret3
      exact ⟨rfl, (hb2.drewN q).drewN nq⟩
  · have hS' : (S == 0) = false := by simpa using hS
    have hE1 := hE.out
    rw [if_neg hS] at hE1
    subst hE1
    have hT1 := hT.out
    have hN1 := hN.out
    rw [if_neg hS] at hT1 hN1
    subst hT1; subst hN1
    go_wp2
    go_ret3
    exact ⟨rfl, hb2⟩
end Go.Proofs.Ytknneihkkagnfab
