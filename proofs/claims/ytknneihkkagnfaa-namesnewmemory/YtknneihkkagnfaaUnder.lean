/- slices.Equal of texts, names.Under, names.Parent. -/
import Derived.Test.YtknneihkkagnfaaAdds
import Derived.Deep.RegionHeld3
namespace Go.Proofs.Ytknneihkkagnfaa
open Go.RowKit
set_option maxRecDepth 100000

set_option maxHeartbeats 400000 in
theorem equal_pos (b1 o1 c1 b2 o2 c2 n : Nat) (xs ys : List ByteArray) (w : World) (hn : n ≤ 200000000000000) (hla : xs.length = n) (hlb : ys.length = n) (_hc1 : n ≤ c1) (_hc2 : n ≤ c2)
    (ha : ∀ t (ht : t < xs.length), w.cell? ⟨b1, o1 + t, none⟩ = some (.string xs[t])) (hb : ∀ t (ht : t < ys.length), w.cell? ⟨b2, o2 + t, none⟩ = some (.string ys[t])) :
    Calls Try.prog 27 #[.slice (some ⟨b1, o1, none⟩) n c1, .slice (some ⟨b2, o2, none⟩) n c2] w fun e w' => e = .returned (.bool (decide (xs = ys))) ∧ ∃ m, w' = w.drewN m := by
  have hni : (n : Int) ≤ 200000000000000 := by omega
  go_enter Try.func27, Try.ntmps27
  go_wp2
  go_loopw [13] (fun i wr => ∃ k m : Nat, k ≤ n ∧ i = .int .i64 k ∧ wr = w.drewN m ∧ xs.take k = ys.take k) (fun i _ => n - (intOf i).toNat)
  case atStart => exact ⟨0, 0, Nat.zero_le _, rfl, rfl, by simp⟩
  case round =>
    obtain ⟨k, m, hk, rfl, rfl, htk⟩ := hrel
    have HT : Hid (xs.take k = ys.take k) := ⟨htk⟩
    clear htk
    by_cases hlt : k < n
    · have ga := ha k (by omega)
      have gb := hb k (by omega)
      clear ha hb
      go_wp2
      go_quiet (fail)
      go_wp2
      · go_ret
        exact ⟨by rw [decide_eq_false (ne_at (by simpa using ‹(!xs[k].toList == ys[k].toList) = true›))]; rfl, m + nq, World.drewN_drewN _ _ _⟩
      · go_roundw
        case rel => exact ⟨k + 1, m + nq, by omega, by go_num, by first | rfl | simp, take_both HT.out _ _ (by simpa using ‹(!xs[k].toList == ys[k].toList) = false›)⟩
        case measure => simp [intOf]; omega
    · clear ha hb
      go_wp2
      go_ret
      refine ⟨?_, m, rfl⟩
      have : xs = ys := by
        have := HT.out
        rwa [List.take_of_length_le (by omega), List.take_of_length_le (by omega)] at this
      simp [this]

set_option maxHeartbeats 400000 in
theorem equal_len (ao bo : Option Addr) (n m c1 c2 : Nat) (w : World) (hne : ¬ n = m) :
    Calls Try.prog 27 #[.slice ao n c1, .slice bo m c2] w fun e w' => e = .returned (.bool false) ∧ w' = w := by
  have h : ((n : Int) != (m : Int)) = true := by simp; omega
  go_enter Try.func27, Try.ntmps27
  go_wp2
  go_ret
  exact ⟨rfl, rfl⟩

set_option maxHeartbeats 400000 in
theorem equal_zero (ao bo : Option Addr) (c1 c2 : Nat) (w : World) :
    Calls Try.prog 27 #[.slice ao 0 c1, .slice bo 0 c2] w fun e w' => e = .returned (.bool true) ∧ w' = w := by
  go_enter Try.func27, Try.ntmps27
  go_wp2
  refine wp_loop_rounds 1 ?_
  rw [rounds_succ]
  go_wp2
  go_ret
  exact ⟨rfl, rfl⟩

/-- slices.Equal, of any two lists of texts. -/
theorem equal_any (ao bo : Option Addr) (n m c1 c2 : Nat) (xs ys : List ByteArray) (w : World) (hn : n ≤ 200000000000000) (hA : Lies w ao n c1 xs) (hB : Lies w bo m c2 ys) :
    Calls Try.prog 27 #[.slice ao n c1, .slice bo m c2] w fun e w' => e = .returned (.bool (decide (xs = ys))) ∧ ∃ m, w' = w.drewN m := by
  by_cases hnm : n = m
  · subst hnm
    by_cases h0 : 0 < n
    · obtain ⟨b1, o1, rfl, _, ha⟩ := hA.at h0
      obtain ⟨b2, o2, rfl, _, hb⟩ := hB.at h0
      exact equal_pos b1 o1 c1 b2 o2 c2 n xs ys w hn hA.hlen hB.hlen hA.hle hB.hle ha hb
    · obtain rfl : n = 0 := by omega
      refine (equal_zero ao bo c1 c2 w).mono ?_
      rintro e w' ⟨rfl, rfl⟩
      have e1 : xs = [] := List.eq_nil_of_length_eq_zero hA.hlen
      have e2 : ys = [] := List.eq_nil_of_length_eq_zero hB.hlen
      subst e1; subst e2
      exact ⟨by simp, 0, rfl⟩
  · refine (equal_len ao bo n m c1 c2 w hnm).mono ?_
    rintro e w' ⟨rfl, rfl⟩
    refine ⟨?_, 0, rfl⟩
    rw [decide_eq_false]
    rintro rfl
    exact hnm (hA.hlen.symm.trans hB.hlen)

theorem _root_.Go.RowKit.Below.drewN {B : Nat} {w w' : World} (h : Below B w w') (m : Nat) : Below B w (w'.drewN m) := ⟨h.os, h.tape, h.output, h.size, h.block⟩

theorem _root_.Go.RowKit.Below.drew_trans {B : Nat} {w w' : World} (h : Below B w.drew w') : Below B w w' := ⟨h.os, h.tape, h.output, h.size, h.block⟩

/-- Under's answer. -/
def underB (p t : List UInt8) : Bool := decide (splitE p = 0) && decide (splitE t = 0) && decide ((splitL p).take (splitL t).length = splitL t)
theorem map_tx_inj {a b : List (List UInt8)} (h : a.map tx = b.map tx) : a = b := by
  have := congrArg (List.map bs) h
  rwa [map_tx_bs, map_tx_bs] at this

theorem Lies.pre {w : World} {ao : Option Addr} {n c : Nat} {xs : List ByteArray} (h : Lies w ao n c xs) {k : Nat} (hk : k ≤ n) : Lies w ao k c (xs.take k) := by
  refine ⟨by rw [List.length_take, h.hlen]; omega, Nat.le_trans hk h.hle, fun e => ?_, fun ad had t u hu => h.hcells ad had t u ?_⟩
  · have := h.hnone e; omega
  · rw [List.map_take, List.getElem?_take] at hu
    split at hu
    · exact hu
    · cases hu

set_option maxHeartbeats 1000000 in
theorem under_any (p t : ByteArray) (w : World) (hs : p.size ≤ 281474976710656) (ht : t.size ≤ 281474976710656) :
    Calls Try.prog 21 #[.string p, .string t] w fun e w' => e = .returned (.bool (underB (bs p) (bs t))) ∧ Below w.heap.size w w' := by
  have hU : Hid (underB (bs p) (bs t) = (decide (splitE (bs p) = 0) && decide (splitE (bs t) = 0) && decide ((splitL (bs p)).take (splitL (bs t)).length = splitL (bs t)))) := ⟨rfl⟩
  have hl1 := splitL_len (bs p)
  have hl2 := splitL_len (bs t)
  generalize underB (bs p) (bs t) = U at hU
  go_enter Try.func21, Try.ntmps21
  go_wp2_with fail
  refine (split_any _ _ hs).mono ?_
  rintro e w2 ⟨ao, n, c, rfl, hown, hb2⟩
  have hn : n = (splitL (bs p)).length := by have := hown.1; simp at this; omega
  generalize splitL (bs p) = L at hown hU hl1 hn
  generalize splitE (bs p) = S at hU
  subst hn
  by_cases hS : S = 0
  · subst hS
    go_wp2_with fail
    refine (split_any _ _ ht).mono ?_
    rintro e w3 ⟨ao3, n3, c3, rfl, hown3, hb3⟩
    have hn : n3 = (splitL (bs t)).length := by have := hown3.1; simp at this; omega
    generalize splitL (bs t) = M at hown3 hU hl2 hn
    generalize splitE (bs t) = R at hU
    subst hn
    have hb23 := hb2.trans (hb3.mono hb2.size)
    by_cases hR : R = 0
    · subst hR
      by_cases hlen : L.length < M.length
      · have hlen' : (L.length : Int) < M.length := by omega
        have e1 : U = false := by
          rw [hU.out]; simp
          intro e
          have := congrArg List.length e
          simp at this; omega
        subst e1
        go_wp2
        go_ret
        exact ⟨rfl, hb23⟩
      · have hlen' : ¬ (L.length : Int) < M.length := by omega
        have hA := (Lies.owned (own_below hown hb3 (Nat.le_refl _))).pre (k := M.length) (by omega)
        have hB := Lies.owned hown3
        have c1 : (0 : Int) ≤ M.length := by omega
        have c2 : (M.length : Int) ≤ c := by have := (Lies.owned hown).hle; omega
        go_wp2_with fail
        refine (equal_any _ _ _ _ _ _ _ _ _ (by omega) hA hB).mono ?_
        rintro e w4 ⟨rfl, m, rfl⟩
        have e1 : U = decide ((L.map tx).take M.length = M.map tx) := by
          rw [hU.out]
          simp only [decide_true, Bool.true_and]
          rw [← List.map_take]
          exact decide_eq_decide.2 ⟨fun e => by rw [e], fun e => map_tx_inj e⟩
        rw [← e1]
        clear e1
        go_wp2
        go_ret
        exact ⟨rfl, hb23.drewN m⟩
    · have hR' : (R == 0) = false := by simpa using hR
      have e1 : U = false := by rw [hU.out]; simp [hR]
      subst e1
      go_wp2
      go_ret
      exact ⟨rfl, hb23⟩
  · have hS' : (S == 0) = false := by simpa using hS
    have e1 : U = false := by rw [hU.out]; simp [hS]
    subst e1
    go_wp2
    go_ret
    exact ⟨rfl, hb2⟩

/-- Parent's error, its path and its name. -/
def parentE (p : List UInt8) : Int := if splitE p = 0 then (if splitL p = [] then 34 else 0) else splitE p
def parentT (p : List UInt8) : List UInt8 := if parentE p = 0 then pathT (splitL p).dropLast else []
def parentN (p : List UInt8) : List UInt8 := if parentE p = 0 then (splitL p).getLastD [] else []

theorem split_small {p : List UInt8} (x : ByteArray) (hx : x ∈ (splitL p).map tx) : x.size ≤ 23 := by
  obtain ⟨y, hy, rfl⟩ := List.mem_map.1 hx
  rw [size_bs, bs_tx]
  by_cases h : splitE p = 0
  · exact (okName_len ((judge_zero.1 (path_split h).1).2 y hy)).2
  · rw [splitL_err h] at hy; cases hy

set_option maxHeartbeats 1000000 in
theorem parent_any (p : ByteArray) (w : World) (hs : p.size ≤ 281474976710656) :
    Calls Try.prog 20 #[.string p] w fun e w' => e = .returned (.tuple #[.string (tx (parentT (bs p))), .string (tx (parentN (bs p))), .int .i64 (parentE (bs p))]) ∧ Below w.heap.size w w' := by
  have hE : Hid (parentE (bs p) = if splitE (bs p) = 0 then (if splitL (bs p) = [] then 34 else 0) else splitE (bs p)) := ⟨rfl⟩
  have hT : Hid (parentT (bs p) = if parentE (bs p) = 0 then pathT (splitL (bs p)).dropLast else []) := ⟨rfl⟩
  have hN : Hid (parentN (bs p) = if parentE (bs p) = 0 then (splitL (bs p)).getLastD [] else []) := ⟨rfl⟩
  have hlen := splitL_len (bs p)
  have hsm : Hid (∀ x, x ∈ (splitL (bs p)).map tx → x.size ≤ 23) := ⟨fun x hx => split_small x hx⟩
  generalize parentT (bs p) = T at hT
  generalize parentN (bs p) = N at hN
  generalize parentE (bs p) = E at hT hE hN
  go_enter Try.func20, Try.ntmps20
  go_wp2_with fail
  refine (split_any _ _ hs).mono ?_
  rintro e w2 ⟨ao, n, c, rfl, hown, hb2⟩
  have hn : n = (splitL (bs p)).length := by have := hown.1; simp at this; omega
  generalize splitL (bs p) = L at hown hE hT hN hlen hn hsm
  generalize splitE (bs p) = S at hE
  subst hn
  by_cases hS : S = 0
  · subst hS
    have hE1 := hE.out
    rw [if_pos rfl] at hE1
    by_cases hL : L = []
    · subst hL
      rw [if_pos rfl] at hE1
      subst hE1
      have hT1 := hT.out
      have hN1 := hN.out
      rw [if_neg (by decide)] at hT1 hN1
      subst hT1; subst hN1
      go_wp2
      go_ret3
      exact ⟨rfl, hb2⟩
    · rw [if_neg hL] at hE1
      subst hE1
      have hT1 := hT.out
      have hN1 := hN.out
      rw [if_pos rfl] at hT1 hN1
      have hp : 0 < L.length := List.length_pos_iff.2 hL
      have hl := Lies.owned hown
      have hpre := hl.pre (k := L.length - 1) (by omega)
      have h0' : ((L.length : Int) == 0) = false := by simp; exact hL
      obtain ⟨b, o, rfl, hbw, hcell⟩ := hl.at hp
      have hc := hcell (L.length - 1) (by simp; omega)
      have e1 : (L.map tx).take (L.length - 1) = L.dropLast.map tx := by rw [← List.map_take, List.dropLast_eq_take]
      rw [e1] at hpre
      have e2 : (L.map tx)[L.length - 1]'(by simp; omega) = tx (L.getLastD []) := by
        rw [List.getElem_map]
        congr 1
        rw [List.getLastD_eq_getLast?, List.getLast?_eq_getElem?, List.getElem?_eq_getElem (by omega)]
        rfl
      rw [e2, ← hN1] at hc
      have hsm' : ∀ x, x ∈ L.dropLast.map tx → x.size ≤ 23 := fun x hx => hsm.out x (by
        obtain ⟨y, hy, rfl⟩ := List.mem_map.1 hx
        exact List.mem_map_of_mem (List.dropLast_subset _ hy))
      have e3 : pathT ((L.dropLast.map tx).map bs) = T := by rw [map_tx_bs, hT1]
      obtain ⟨K, hK⟩ : ∃ K, L.length = K + 1 := ⟨L.length - 1, by omega⟩
      rw [hK] at hpre hc h0' hp
      simp only [Nat.add_sub_cancel] at hpre hc
      rw [hK]
      have hcap := hl.hle
      rw [hK] at hcap
      have hK16 : K ≤ 15 := by omega
      clear hT hN hE hT1 hN1 hown hl hcell hsm e1 e2 h0' hL
      have hw1 : IntKind.i64.wrap ((K : Int) + 1 - 1) = K := by rw [IntKind.wrap_i64]; omega
      have c1 : (0 : Int) ≤ K := by omega
      have c2 : (K : Int) ≤ c := by omega
      have hz0 : ¬ ((K : Int) + 1) = 0 := by omega
      go_wp2_with fail
      have hpd : Lies w2.drew (some ⟨b, o, none⟩) K c (L.dropLast.map tx) := hpre.below ((Below.refl w2.heap.size w2).drew) (Nat.le_refl _)
      have hcd : w2.drew.cell? ⟨b, o + K, none⟩ = some (.string (tx N)) := hc
      have c3 : (K : Int) < (K : Int) + 1 := by omega
      go_region_held3 (fun w' => w'.cell? ⟨b, o + K, none⟩ = some (.string (tx N)))
        (first | exact hcd | exact hc3)
        (first | (go_at_call 23; refine (pathOf_any _ _ _ _ _ (by omega) hpd hsm').mono ?_; rintro e w3 ⟨rfl, hb3⟩; have hc3 : w3.cell? ⟨b, o + K, none⟩ = some (.string (tx N)) := (hb3.cell (p := ⟨b, o + K, none⟩) hbw).trans hcd; rw [e3]))
      go_wp2
      go_ret3
      exact ⟨rfl, hb2.trans ((Below.drew_trans hb3).mono hb2.size)⟩
  · have hS' : (S == 0) = false := by simpa using hS
    have hE1 := hE.out
    rw [if_neg hS] at hE1
    subst hE1
    have hT1 := hT.out
    have hN1 := hN.out
    rw [if_neg hS] at hT1 hN1
    subst hT1; subst hN1
    go_wp2
    go_ret3
    exact ⟨rfl, hb2⟩
end Go.Proofs.Ytknneihkkagnfaa
