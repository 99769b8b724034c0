/- annexlaw2.SumMended by its walk. -/
import Derived.Test.YtnnebmgiifnckaaMend
import Derived.Test.YtnnebmgiifnckaaKnown
import Derived.Test.YtnnebmgiifnckaaBytes
namespace Go.Proofs.Ytnnebmgiifnckaa
open Go.RowKit
set_option maxRecDepth 100000

/-- '(at%n + n) % n' is a place of a list of n. -/
theorem place_of (x : Int) (n : Nat) (h0 : 0 < n) (hn : n ≤ 140737488351232) : ∃ a : Nat, (wrap64 (x.tmod n + n)).tmod n = (a : Int) ∧ a < n := by
  have h1 : (x.tmod n).natAbs < n := by
    rw [Int.natAbs_tmod]
    exact Nat.mod_lt _ h0
  have h2 : wrap64 (x.tmod n + n) = x.tmod n + n := by
    unfold wrap64
    omega
  rw [h2, Int.tmod_eq_emod_of_nonneg (by omega)]
  have h3 := Int.emod_nonneg (x.tmod n + n) (show (n : Int) ≠ 0 by omega)
  have h4 := Int.emod_lt_of_pos (x.tmod n + n) (show (0 : Int) < n by omega)
  exact ⟨((x.tmod n + n) % n).toNat, by omega, by omega⟩

theorem below_grown {w w' : World} (h : Below w.heap.size w w') : w.grownBy w' none := ⟨h.os, h.tape, h.output, h.size, fun i hi _ => h.block i hi⟩
theorem own_below {w w' : World} {base n : Nat} {v : Value} {xs : List Value} {e size : Nat} (h : w.ownsRow base e size v n xs) (hb : Below w.heap.size w w') : w'.ownsRow base e size v n xs := by
  refine h.kept (below_grown hb) ?_
  cases hv : v.ownBlock
  · exact Or.inl rfl
  · exact Or.inr (by simp)

theorem set_by {bs : List Int} {k : Nat} {y : Int} (hby : ∀ x ∈ bs, By x) (hy : By y) : ∀ x ∈ bs.set k y, By x := fun x hx => by
  rcases List.mem_or_eq_of_mem_set hx with h | rfl
  · exact hby x h
  · exact hy

theorem set_back {bs : List Int} {a : Nat} {y : Int} (ha : a < bs.length) : (bs.set a y).set a (bs.getD a 0) = bs := by
  rw [List.set_set]
  have : bs.getD a 0 = bs[a] := by simp [List.getD, ha]
  rw [this, List.set_getElem_self]

/-- One changed byte is found. -/
theorem mended_found {bs : List Int} {a : Nat} {v i y : Int} {r : Bool} (hby : ∀ x ∈ bs, By x) (hv : By v) (ha : a < bs.length) (hne : ¬ v = bs.getD a 0) (h : Mended (bs.set a v) (fwd 14695981039346656037 bs) i y r) :
    ∃ k : Nat, k ≤ a ∧ i = k ∧ r = true ∧ By y ∧ fwd 14695981039346656037 ((bs.set a v).set k y) = fwd 14695981039346656037 bs := by
  have hcs := set_by (k := a) hby hv
  have hz := U.fwd bs start_u
  have hac : a < (bs.set a v).length := by simpa using ha
  have hb := by_getD hby ha
  have hca := (set_sum hcs hz hb hac).1 (by rw [set_back ha])
  have hyb := h.byte
  rcases h with ⟨h1, _⟩ | ⟨_, k, hk, h2, h3, rfl, rfl, rfl⟩ | ⟨_, h2, _⟩
  · exfalso
    apply hne
    have e : (bs.set a v).set a v = bs.set a v := by rw [List.set_set]
    have := (set_sum hcs hz hv hac).1 (by rw [e]; exact h1)
    rw [this, hca]
  · refine ⟨k, ?_, rfl, rfl, hyb, (set_sum hcs hz hyb hk).2 rfl⟩
    refine Nat.le_of_not_lt fun hlt => ?_
    have := h2 a hlt
    rw [← hca] at this
    have := hb.2
    omega
  · exfalso
    have := h2 a hac
    rw [← hca] at this
    have := hb.2
    omega

theorem xor8_ne {a x : Int} (ha : By a) (hx : By x) (h0 : ¬ x = 0) : ¬ bits .xor .u8 a x = a := by
  rw [xor8N ha hx]
  have h1 := ha.1; have h3 := hx.1
  intro h
  have h' : a.toNat ^^^ x.toNat = a.toNat := by omega
  have e := congrArg (fun t => a.toNat ^^^ t) h'
  simp only [← Nat.xor_assoc, Nat.xor_self, Nat.zero_xor] at e
  omega

set_option maxHeartbeats 400000 in
theorem mended_zero (ao : Option Addr) (c : Nat) (at0 x : Int) (w : World) :
    Calls Try.prog 7 #[.slice ao 0 c, .int .i64 at0, .int .u8 x] w fun e w' => e = .returned (.bool true) ∧ Below w.heap.size w w' := by
  go_enter Try.func7, Try.ntmps7
  go_wp2_with fail
  refine (known_any _).mono ?_
  rintro e w1 ⟨rfl, hb⟩
  go_wp2_with fail
  go_ret
  exact ⟨rfl, hb⟩

set_option maxHeartbeats 400000 in
theorem mended_none (ao : Option Addr) (n c : Nat) (at0 : Int) (w : World) (h0 : 0 < n) :
    Calls Try.prog 7 #[.slice ao n c, .int .i64 at0, .int .u8 0] w fun e w' => e = .returned (.bool true) ∧ Below w.heap.size w w' := by
  have hnz : ((n : Int) == 0) = false := by simp; omega
  go_enter Try.func7, Try.ntmps7
  go_wp2_with fail
  refine (known_any _).mono ?_
  rintro e w1 ⟨rfl, hb⟩
  go_wp2_with fail
  go_ret
  exact ⟨rfl, hb⟩

set_option maxHeartbeats 800000 in
theorem mended_pos (ao : Option Addr) (n c : Nat) (bs : List Int) (at0 x : Int) (w : World) (hn : n ≤ 1048576) (h0 : 0 < n) (hL : Lies w ao n c bs) (hby : ∀ x ∈ bs, By x) (hx : By x) (hxz : ¬ x = 0) :
    Calls Try.prog 7 #[.slice ao n c, .int .i64 at0, .int .u8 x] w fun e w' => e = .returned (.bool true) ∧ Below w.heap.size w w' := by
  have hni : (n : Int) ≤ 1048576 := by omega
  have hn0 : (0 : Int) < n := by omega
  have hnz : ((n : Int) == 0) = false := by simp; omega
  have hxb : (x == 0) = false := by simpa using hxz
  have hlen := hL.hlen
  go_enter Try.func7, Try.ntmps7
  go_wp2_with fail
  refine (known_any _).mono ?_
  rintro e w1 ⟨rfl, hb1⟩
  have hL1 := hL.below hb1 (Nat.le_refl _)
  clear hL
  go_wp2_with fail
  obtain ⟨a, hae, han⟩ := place_of at0 n h0 (by omega)
  rw [hae]
  clear hae
  have hani : (a : Int) < n := by omega
  refine (bytes_any _ n c bs _ (by omega) hL1).mono ?_
  rintro e w2 ⟨co, cc, rfl, hown, hb2⟩
  obtain ⟨g, rfl⟩ : ∃ g, co = some ⟨g, 0, none⟩ := by
    rcases hown.2 with ⟨hv, hn0⟩ | ⟨g, cap, cur, hv, r⟩
    · omega
    · cases hv; exact ⟨g, rfl⟩
  have hcell : w2.cell? ⟨g, a, none⟩ = some (.int .u8 (bs.getD a 0)) := by
    rw [hown.cellAt a (by omega)]
    have : a < bs.length := by omega
    simp [List.getD, this]
  have hfz := hown.frozenAt a
  have hst := hown.stored a (.int .u8 (bits .xor .u8 (bs.getD a 0) x))
  rw [← List.map_set] at hst
  have hbya := by_getD hby (show a < bs.length by omega)
  have hne := xor8_ne hbya hx hxz
  have hvb : By (bits .xor .u8 (bs.getD a 0) x) := hbya.xor hx
  have hfound := fun i y r => mended_found (a := a) (i := i) (y := y) (r := r) hby hvb (by omega) hne
  have hcs := set_by (k := a) hby hvb
  have HF : Hid _ := hfound
  have HST : Hid _ := hst
  have HCS : Hid (∀ y ∈ bs.set a (bits .xor .u8 (bs.getD a 0) x), By y) := hcs
  clear hfound hst hne hvb hcs hbya
  generalize bs.getD a 0 = ba at *
  go_wp2_with fail
  have hown3 := HST.out.1
  have hb3 : Below w1.heap.size w1 (w2.setCell ⟨g, a, none⟩ (.int .u8 (bits .xor .u8 ba x))) := hb2.grown HST.out.2 hb2.size (fun k hk => by cases hk; exact (hown.lt g rfl).1)
  clear HST hown hb2 hcell hfz
  generalize w2.setCell ⟨g, a, none⟩ (.int .u8 (bits .xor .u8 ba x)) = w3 at *
  generalize bits .xor .u8 ba x = v at *
  have hL3 := hL1.below hb3 (Nat.le_refl _)
  refine (sum_any ao n c bs _ (by omega) hL3 hby).mono ?_
  rintro e w4 ⟨rfl, hw4⟩
  subst w4
  go_wp2_with fail
  refine (mend_any _ _ n cc (bs.set a v) _ hn (Lies.owned hown3) HCS.out).mono ?_
  rintro e w4 ⟨⟨i, y, r, rfl, hM⟩, hb4⟩
  obtain ⟨k, hka, rfl, rfl, hyb, hsum⟩ := HF.out i y r hM
  have hkai : (k : Int) ≤ a := by omega
  have hkn : (k : Int) < n := by omega
  have hkN : k < n := by omega
  have hown4 := own_below hown3 hb4
  have hcsl : (bs.set a v).length = n := by simp [hlen]
  have hcell4 : w4.cell? ⟨g, k, none⟩ = some (.int .u8 ((bs.set a v).getD k 0)) := by
    rw [hown4.cellAt k (by omega)]
    have : k < (bs.set a v).length := by omega
    simp only [List.getD, List.getElem?_map, List.getElem?_eq_getElem this, Option.map_some, Option.getD_some]
  have hfz4 := hown4.frozenAt k
  have hst4 := hown4.stored k (.int .u8 y)
  rw [← List.map_set] at hst4
  have HST4 : Hid _ := hst4
  have hb5 := hb3.trans (hb4.mono hb3.size)
  have hcs5 := set_by (k := k) HCS.out hyb
  have HS : Hid (fwd 14695981039346656037 ((bs.set a v).set k y) = fwd 14695981039346656037 bs) := hsum
  have HC5 : Hid (∀ x ∈ (bs.set a v).set k y, By x) := hcs5
  clear hst4 hM HF hL3 hown3 hb3 hb4 hsum hcs5 HCS
  generalize bs.set a v = cs at *
  generalize cs.getD k 0 = ck at *
  generalize fwd 14695981039346656037 bs = want at *
  go_wp2_with fail
  refine (sum_any _ n cc (cs.set k y) _ (by omega) (Lies.owned HST4.out.1) HC5.out).mono ?_
  rintro e w6 ⟨rfl, hw6⟩
  subst w6
  rw [HS.out]
  go_wp2_with fail
  go_ret
  refine ⟨rfl, hb1.trans (Below.mono ?_ hb1.size)⟩
  exact hb5.grown HST4.out.2 hb5.size (fun k hk => by cases hk; exact (hown4.lt g rfl).1)

theorem mended_any (ao : Option Addr) (n c : Nat) (bs : List Int) (at0 x : Int) (w : World) (hn : n ≤ 1048576) (hL : Lies w ao n c bs) (hby : ∀ x ∈ bs, By x) (_ha : -9223372036854775808 ≤ at0 ∧ at0 ≤ 9223372036854775807) (hx : By x) :
    Calls Try.prog 7 #[.slice ao n c, .int .i64 at0, .int .u8 x] w fun e w' => e = .returned (.bool true) ∧ Below w.heap.size w w' := by
  by_cases h0 : 0 < n
  · by_cases hxz : x = 0
    · subst hxz
      exact mended_none ao n c at0 w h0
    · exact mended_pos ao n c bs at0 x w hn h0 hL hby hx hxz
  · obtain rfl : n = 0 := by omega
    exact mended_zero ao c at0 x w
end Go.Proofs.Ytnnebmgiifnckaa
