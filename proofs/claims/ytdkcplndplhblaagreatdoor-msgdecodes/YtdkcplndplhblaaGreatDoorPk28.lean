/- annexref4.opened: as the program's open says. -/
import Derived.Test.YtdkcplndplhblaaGreatDoorPk12
import Derived.Test.YtdkcplndplhblaaGreatDoorPk27
import Derived.Test.YtdkcplndplhblaaGreatDoorPk11
import Derived.Test.YtdkcplndplhblaaGreatDoorPk16
import Derived.Test.YtdkcplndplhblaaGreatDoorPk20
import Derived.Test.YtdkcplndplhblaaGreatDoorPk23
import Derived.Test.YtdkcplndplhblaaGreatDoorPk18
import Derived.Test.YtdkcplndplhblaaGreatDoorPk19
namespace Go.Proofs.YtdkcplndplhblaaGreatDoor
open Go.RowKit
set_option maxRecDepth 100000

/-- What opened leaves. -/
def OpenD (w : World) (mg : List Int) (n : Nat) (bs : List Int) (e : Ending) (w' : World) : Prop :=
  (openE mg n bs ≠ 0 ∧ e = .returned (.tuple #[.pointer none, .int .i64 (openE mg n bs)]) ∧ Below w.heap.size w w') ∨
  (openE mg n bs = 0 ∧ ∃ rb a c, e = .returned (.tuple #[.pointer (some ⟨rb, 0, none⟩), .int .i64 0]) ∧ RdD w' rb a (n - 12) c 0 0 ((bs.drop 4).take (n - 12)) ∧ w.heap.size ≤ rb ∧ (∀ ad, a = some ad → w.heap.size ≤ ad.block) ∧ Below w.heap.size w w')
theorem getD_take {bs : List Int} {mg : List Int} {k : Nat} (h1 : k < bs.length) (h2 : k < mg.length) (ht : bs.take k = mg.take k) (he : bs.getD k 0 = mg[k]) : bs.take (k + 1) = mg.take (k + 1) := by
  rw [List.take_succ_eq_append_getElem h1, List.take_succ_eq_append_getElem h2, ht]
  have hx : bs.getD k 0 = bs[k] := by simp [List.getD, h1]
  rw [← he, hx]
theorem take_four {bs mg : List Int} {k : Nat} (hk : k < 4) (h1 : k < bs.length) (h2 : k < mg.length) (he : ¬ bs.getD k 0 = mg[k]) : ¬ bs.take 4 = mg := by
  intro h
  apply he
  have : (bs.take 4)[k]? = mg[k]? := by rw [h]
  rw [List.getElem?_take, if_pos hk, List.getElem?_eq_getElem h1, List.getElem?_eq_getElem h2] at this
  have hx : bs.getD k 0 = bs[k] := by simp [List.getD, h1]
  rw [hx]
  exact Option.some.inj this

set_option maxHeartbeats 4000000 in
theorem ropened_any (s : ByteArray) (ao : Option Addr) (n c : Nat) (bs : List Int) (w : World) (hs : s.size = 4) (hL : Lies w ao n c bs) (hn : n ≤ 200000000000000) (hby : Bys bs) :
    Calls Tryz.prog 63 #[.slice ao n c, .string s] w fun e w' => OpenD w (nums s) n bs e w' := by
  have hni : (n : Int) ≤ 200000000000000 := by omega
  have hmg : (nums s).length = 4 := by rw [nums_length, hs]
  have HMG : Hid ((nums s).length = 4) := hmg
  have HLE : Hid (bs.length = n) := hL.hlen
  have HS : Hid (s.size = 4) := hs
  clear hmg hs
  by_cases h1 : 1400 < n
  · have e1 : openE (nums s) n bs = 49 := by unfold openE; rw [if_pos h1]
    have hbig : decide ((1400 : Int) < (n : Int)) = true := by simp; omega
    go_enter Tryz.func63, Tryz.ntmps63
    go_wp2
    go_ret2
    exact .inl ⟨by rw [e1]; decide, by rw [e1]; rfl, Below.refl _ _⟩
  have hbig : decide ((1400 : Int) < (n : Int)) = false := by simp; omega
  go_enter Tryz.func63, Tryz.ntmps63
  go_wp2
  go_loopw [6] (fun i wr => ∃ k m : Nat, k ≤ 4 ∧ k ≤ n ∧ i = .int .i64 k ∧ wr = w.drewN m ∧ Hid (bs.take k = (nums s).take k)) (fun i _ => 4 - (intOf i).toNat)
  case atStart => exact ⟨0, 0, Nat.zero_le _, Nat.zero_le _, rfl, rfl, (by simp : bs.take 0 = (nums s).take 0)⟩
  case round =>
    obtain ⟨k, m0, hk4, hkn, rfl, rfl, HT⟩ := hrel
    by_cases hk : k < 4
    · have hki : decide ((k : Int) < 4) = true := by simp; omega
      by_cases hlt : k < n
      · have hli : decide ((n : Int) ≤ (k : Int)) = false := by simp; omega
        have hks : k < s.size := by rw [HS.out]; exact hk
        have hkm : k < (nums s).length := by rw [HMG.out]; exact hk
        have hkb : k < bs.length := by rw [HLE.out]; exact hlt
        have hg := nums_get s k hks
        rw [List.getElem?_eq_getElem hkm] at hg
        have hg := Option.some.inj hg
        obtain ⟨b, o, rfl, hc⟩ := hL.at (by omega)
        have ga := hc k hlt
        clear hc
        by_cases he : bs.getD k 0 = (((s[k]'hks).toNat : Nat) : Int)
        · have HN : Hid (bs.take (k + 1) = (nums s).take (k + 1)) := getD_take hkb hkm HT.out (by rw [hg]; exact he)
          have heb : (bs.getD k 0 != (((s[k]'hks).toNat : Nat) : Int)) = false := by simpa using he
          clear he hg
          generalize bs.getD k 0 = v at *
          go_wp2
          go_quiet (fail)
          go_wp2
          go_roundw
          case rel => exact ⟨k + 1, m0 + nq, by omega, by omega, by go_num, by first | rfl | simp, HN⟩
          case measure => simp [intOf]; omega
        · have HN : Hid (¬ bs.take 4 = nums s) := take_four hk hkb hkm (by rw [hg]; exact he)
          have heb : (bs.getD k 0 != (((s[k]'hks).toNat : Nat) : Int)) = true := by simpa using he
          clear he hg
          generalize bs.getD k 0 = v at *
          go_wp2
          go_quiet (fail)
          go_wp2
          go_ret2
          have e1 : openE (nums s) n bs = 41 := by unfold openE; rw [if_neg h1, if_pos HN.out]
          exact .inl ⟨by rw [e1]; decide, by rw [e1]; rfl, by first | exact below_drewN (Below.refl _ _) _ | exact below_drewN (below_drewN (Below.refl _ _) _) _⟩
      · have hli : decide ((n : Int) ≤ (k : Int)) = true := by simp; omega
        go_wp2
        go_quiet (fail)
        go_wp2
        go_ret2
        have e1 : openE (nums s) n bs = 41 := by
          unfold openE
          rw [if_neg h1, if_pos]
          intro h
          have := congrArg List.length h
          rw [HMG.out, List.length_take, HLE.out] at this
          omega
        exact .inl ⟨by rw [e1]; decide, by rw [e1]; rfl, below_drewN (Below.refl _ _) _⟩
    · have hki : decide ((k : Int) < 4) = false := by simp; omega
      have hk4' : k = 4 := by omega
      clear hk hk4
      subst hk4'
      have hT4 : bs.take 4 = nums s := by
        have := HT.out
        rwa [List.take_of_length_le (l := nums s) (by rw [HMG.out]; omega)] at this
      have H4 : Hid (bs.take 4 = nums s) := hT4
      clear hT4 HT
      by_cases h3 : n < 12
      · have h3i : decide ((n : Int) < 12) = true := by simp; omega
        go_wp2
        go_ret2
        have e1 : openE (nums s) n bs = 48 := by unfold openE; rw [if_neg h1, if_neg (by simpa using H4.out), if_pos h3]
        exact .inl ⟨by rw [e1]; decide, by rw [e1]; rfl, below_drewN (Below.refl _ _) _⟩
      obtain ⟨p, rfl⟩ : ∃ p, n = p + 8 := ⟨n - 8, by omega⟩
      obtain ⟨b, o, rfl, _⟩ := hL.at (by omega)
      have h3i : decide (((p : Int) + 8) < 12) = false := by simp; omega
      have hle := hL.hle
      have g1 : (4 : Int) ≤ (p : Int) := by omega
      have g2 : (p : Int) ≤ (p : Int) + 8 := by omega
      have g3 : (p : Int) ≤ (c : Int) := by omega
      have g4 : (p : Int) + 8 ≤ (c : Int) := by omega
      have g5 : (4 : Int) ≤ (c : Int) := by omega
      have hcp : ¬ c = p := by omega
      have hc4 : ¬ c = 4 := by omega
      have hpc : p ≤ c := by omega
      have e0 : openE (nums s) (p + 8) bs = if ¬ val (bs.drop p) = sumOf (bs.take p) then 48 else 0 := by
        unfold openE; rw [if_neg h1, if_neg (by simpa using H4.out), if_neg h3]; rfl
      have HE0 : Hid (openE (nums s) (p + 8) bs = if ¬ val (bs.drop p) = sumOf (bs.take p) then 48 else 0) := e0
      clear e0
      have hLd : Lies (w.drewN m0) (some ⟨b, o, none⟩) (p + 8) c bs := ⟨hL.hlen, hL.hle, hL.hnone, hL.hcells⟩
      have hM : Lies (w.drewN m0) (some ⟨b, o + p, none⟩) 8 (c - p) ((bs.drop p).take 8) := hLd.mid (p := p) (k := 8) (Nat.le_refl _)
      have hby8 : Bys ((bs.drop p).take 8) := take_bys (drop_bys hby p) 8
      have hbyp : Bys (bs.take p) := take_bys hby p
      have hl8 : (bs.drop p).take 8 = bs.drop p := List.take_of_length_le (by have := hL.hlen; simp; omega)
      have hrd : (rdSum 8 ((bs.drop p).take 8) 0 0).1 = val (bs.drop p) := by
        unfold rdSum
        rw [if_neg (by simp), if_neg (by omega)]
        simp only [List.drop_zero, List.take_take, Nat.min_self]
        rw [hl8]
      have HRD : Hid ((rdSum 8 ((bs.drop p).take 8) 0 0).1 = val (bs.drop p)) := hrd
      clear hl8 hrd
      generalize (bs.drop p).take 8 = t8 at *
      have hB0 : Below w.heap.size w (w.drewN m0) := below_drewN (Below.refl _ _) _
      generalize w.drewN m0 = v0 at *
      go_wp2_with fail
      refine (dNew _ 8 (c - p) t8 _ (by omega) hM).mono ?_
      rintro e v1 ⟨rb, ar, cr, rfl, hR1, hrb, har, hb1⟩
      have hq1 := hB0.trans (hb1.mono hB0.size)
      have hL1 := hLd.below hb1 (Nat.le_refl _)
      have hM0 := hLd
      clear hM hLd hb1
      have hbr : b < v0.heap.size := by
        obtain ⟨b7, o7, e7, h7⟩ := hM0.at (show 0 < p + 8 by omega)
        cases e7
        exact World.block_lt_of_cell? v0 _ (h7 0 (by omega))
      have hdd : RdD v1.drew rb ar 8 cr 0 0 t8 := hR1.drewN 1
      have hLD : Lies v1.drew (some ⟨b, o, none⟩) (p + 8) c bs := ⟨hL1.hlen, hL1.hle, hL1.hnone, hL1.hcells⟩
      have hqd : Below w.heap.size w v1.drew := drw hq1
      have hpt : IntKind.i64.wrap (p : Int) = (p : Int) := by rw [IntKind.wrap_i64]; omega
      go_wp2_with fail
      go_region_held3 (fun _ => True) (trivial) (first
        | (go_at_call 109; refine (dSum rb 8 cr 0 ar 0 t8 _ hdd (by omega) (by omega) hby8).mono ?_; rintro e v2 ⟨rfl, hW2⟩; have hL2 : Lies v2 (some ⟨b, o, none⟩) (p + 8) c bs := hLD.grown hW2.2 (fun ad had => by cases had; simp; omega); have hL3 := hL2.pre (k := p) (by omega))
        | (go_at_call 98; refine (S2.rsum_any _ p c (bs.take p) _ (by omega) hL3 hbyp).mono ?_; rintro e v3 ⟨rfl, hv3⟩; subst v3))
      have hq2 : Below w.heap.size w v2 := hqd.grown hW2.2 hqd.size (fun k hk => by cases hk; exact Nat.le_trans hB0.size hrb)
      have hsm : S2.fwd 14695981039346656037 (List.take p bs) = sumOf (bs.take p) := rfl
      rw [HRD.out, hsm]
      clear hsm hL3 hR1 hdd hW2 hLD hL1 hqd hq1
      obtain ⟨VA, hVA⟩ : ∃ VA, val (bs.drop p) = VA := ⟨_, rfl⟩
      obtain ⟨VB, hVB⟩ : ∃ VB, sumOf (bs.take p) = VB := ⟨_, rfl⟩
      rw [hVA, hVB]
      have HE1 : Hid (openE (nums s) (p + 8) bs = if ¬ VA = VB then 48 else 0) := by
        show _ = _
        rw [HE0.out, hVA, hVB]
      clear hVA hVB HE0 HRD hby8 hpt hn hni hkn
      by_cases hv : VA = VB
      · have hvb : (VA != VB) = false := by simpa using hv
        have HV : Hid (VA = VB) := hv
        have hL4 : Lies v2 (some ⟨b, o + 4, none⟩) (p - 4) (c - 4) ((bs.drop 4).take (p - 4)) := hL2.mid (p := 4) (k := p - 4) (by omega)
        clear hv
        go_wp2_with fail
        refine (dNew _ (p - 4) (c - 4) _ _ (by omega) hL4).mono ?_
        rintro e v3 ⟨rb3, a3, c3, rfl, hR3, hrb3, ha3, hb3⟩
        have hq3 := hq2.trans (hb3.mono hq2.size)
        go_wp2
        go_ret2
        have e1 : openE (nums s) (p + 8) bs = 0 := by rw [HE1.out, if_neg (by simpa using HV.out)]
        refine .inr ⟨e1, rb3, a3, c3, rfl, ?_, Nat.le_trans hq2.size hrb3, fun ad had => Nat.le_trans hq2.size (ha3 ad had), hq3⟩
        rw [show p + 8 - 12 = p - 4 by omega]
        exact hR3
      · have hvb : (VA != VB) = true := by simpa using hv
        have HV : Hid (¬ VA = VB) := hv
        clear hv hL2
        go_wp2
        go_ret2
        have e1 : openE (nums s) (p + 8) bs = 48 := by rw [HE1.out, if_pos HV.out]
        exact .inl ⟨by rw [e1]; decide, by rw [e1]; rfl, hq2⟩
end Go.Proofs.YtdkcplndplhblaaGreatDoor

/- The document's reader and a request that is read by it. -/
namespace Go.Proofs.YtdkcplndplhblaaGreatDoor
open Go.RowKit
set_option maxRecDepth 100000

/-- The document's reader at a place. -/
structure DR (w : World) (rb : Nat) (ao : Option Addr) (cap n : Nat) (bs : List Int) (st : Nat × Int) : Prop where
  r : RdD w rb ao n cap st.1 st.2 bs
  p : st.1 ≤ n
  n0 : n ≤ 1400
  by' : Bys bs
theorem DR.below {w w' : World} {rb : Nat} {ao : Option Addr} {cap n : Nat} {bs : List Int} {st : Nat × Int} (h : DR w rb ao cap n bs st) (hb : Below w.heap.size w w') : DR w' rb ao cap n bs st := ⟨h.r.below hb, h.p, h.n0, h.by'⟩
theorem DR.set {w : World} {rb : Nat} {ao : Option Addr} {cap n : Nat} {bs : List Int} {st : Nat × Int} (h : DR w rb ao cap n bs st) {q j : Nat} {u : Value} (hq : q ≠ rb) (hqa : ∀ ad, ao = some ad → ad.block ≠ q) : DR (w.setCell ⟨q, j, none⟩ u) rb ao cap n bs st :=
  ⟨⟨by rw [heap_setCell_other _ _ _ _ hq.symm]; exact h.r.blk, h.r.lies.grown (grown_setCell _ _ _ _) (fun ad had => by simpa using hqa ad had), h.r.apart⟩, h.p, h.n0, h.by'⟩
theorem d_u32 {w : World} {rb : Nat} {ao : Option Addr} {cap n : Nat} {bs : List Int} {st : Nat × Int} (h : DR w rb ao cap n bs st) :
    Calls Tryz.prog 64 #[.pointer (some ⟨rb, 0, none⟩), .int .i64 4294967295] w fun e w' => e = .returned (.int .i64 (rdNum 4 n bs st.1 st.2 4294967295).1) ∧ DR w' rb ao cap n bs (rdNum 4 n bs st.1 st.2 4294967295).2 ∧ w.grownBy w' (some rb) := by
  refine (dU32 rb n cap st.1 ao st.2 4294967295 bs w h.r h.p (by have := h.n0; omega) h.by' (by omega)).mono ?_
  rintro e w' ⟨rfl, hw⟩
  exact ⟨rfl, ⟨hw.1, rdNum_le _ _ _ _ _ _ h.p, h.n0, h.by'⟩, hw.2⟩
theorem d_u64 {w : World} {rb : Nat} {ao : Option Addr} {cap n : Nat} {bs : List Int} {st : Nat × Int} (h : DR w rb ao cap n bs st) :
    Calls Tryz.prog 65 #[.pointer (some ⟨rb, 0, none⟩), .int .i64 9223372036854775807] w fun e w' => e = .returned (.int .i64 (rdNum 8 n bs st.1 st.2 9223372036854775807).1) ∧ DR w' rb ao cap n bs (rdNum 8 n bs st.1 st.2 9223372036854775807).2 ∧ w.grownBy w' (some rb) := by
  refine (dU64 rb n cap st.1 ao st.2 9223372036854775807 bs w h.r h.p (by have := h.n0; omega) h.by' (by omega)).mono ?_
  rintro e w' ⟨rfl, hw⟩
  exact ⟨rfl, ⟨hw.1, rdNum_le _ _ _ _ _ _ h.p, h.n0, h.by'⟩, hw.2⟩
theorem d_text {w : World} {rb : Nat} {ao : Option Addr} {cap n : Nat} {bs : List Int} {st : Nat × Int} (M : Int) (hM : M ≤ 9223372036854775807) (h : DR w rb ao cap n bs st) :
    Calls Tryz.prog 69 #[.pointer (some ⟨rb, 0, none⟩), .int .i64 M] w fun e w' => e = .returned (.string (txt (rdText n bs st.1 st.2 M).1)) ∧ DR w' rb ao cap n bs (rdText n bs st.1 st.2 M).2 ∧ w.grownBy w' (some rb) := by
  refine (dText_any rb n cap st.1 ao st.2 M bs w h.r h.p (by have := h.n0; omega) h.by' hM).mono ?_
  rintro e w' ⟨rfl, hw⟩
  exact ⟨rfl, ⟨hw.1, rdText_le _ _ _ _ _ h.p, h.n0, h.by'⟩, hw.2⟩
theorem d_bytes {w : World} {rb : Nat} {ao : Option Addr} {cap n : Nat} {bs : List Int} {st : Nat × Int} (M : Int) (hM : M ≤ 9223372036854775807) (h : DR w rb ao cap n bs st) :
    Calls Tryz.prog 70 #[.pointer (some ⟨rb, 0, none⟩), .int .i64 M] w fun e w' => (∃ a k c, e = .returned (.slice a k c) ∧ Lies w' a k c (rdText n bs st.1 st.2 M).1) ∧ DR w' rb ao cap n bs (rdText n bs st.1 st.2 M).2 ∧ w.grownBy w' (some rb) := by
  refine (dBytes_any rb n cap st.1 ao st.2 M bs w h.r h.p (by have := h.n0; omega) h.by' hM).mono ?_
  rintro e w' ⟨⟨a, c, rfl, hl⟩, hw⟩
  exact ⟨⟨a, _, c, rfl, hl⟩, ⟨hw.1, rdText_le _ _ _ _ _ h.p, h.n0, h.by'⟩, hw.2⟩
theorem d_flag {w : World} {rb : Nat} {ao : Option Addr} {cap n : Nat} {bs : List Int} {st : Nat × Int} (h : DR w rb ao cap n bs st) :
    Calls Tryz.prog 74 #[.pointer (some ⟨rb, 0, none⟩)] w fun e w' => e = .returned (.bool (rdFlag n bs st.1 st.2).1) ∧ DR w' rb ao cap n bs (rdFlag n bs st.1 st.2).2 ∧ w.grownBy w' (some rb) := by
  refine (dFlag rb n cap st.1 ao st.2 bs w h.r h.p (by have := h.n0; omega) h.by').mono ?_
  rintro e w' ⟨rfl, hw⟩
  exact ⟨rfl, ⟨hw.1, rdFlag_le _ _ _ _ h.p, h.n0, h.by'⟩, hw.2⟩
theorem d_err {w : World} {rb : Nat} {ao : Option Addr} {cap n : Nat} {bs : List Int} {st : Nat × Int} (h : DR w rb ao cap n bs st) :
    Calls Tryz.prog 66 #[.pointer (some ⟨rb, 0, none⟩)] w fun e w' => e = .returned (.tuple #[.int .i64 st.2, .int .i64 st.1]) ∧ Below w.heap.size w w' := by
  refine (dErr rb n cap ao st.1 st.2 bs w h.r).mono ?_
  rintro e w' ⟨rfl, m, rfl⟩
  exact ⟨rfl, below_drewN (Below.refl _ _) m⟩
theorem d_close {w : World} {rb : Nat} {ao : Option Addr} {cap n : Nat} {bs : List Int} {st : Nat × Int} (h : DR w rb ao cap n bs st) :
    Calls Tryz.prog 71 #[.pointer (some ⟨rb, 0, none⟩)] w fun e w' => e = .returned (.int .i64 (rdClose n st.1 st.2)) ∧ w.grownBy w' (some rb) := by
  refine (dClose rb n cap st.1 ao st.2 bs w h.r).mono ?_
  rintro e w' ⟨rfl, hw⟩
  exact ⟨rfl, hw.2⟩
theorem rd_cell (o : Nat) (v : Int) (a : Option Addr) (n cap : Nat) (p q : Int) (h : (#[Value.slice a n cap, .int .i64 p, .int .i64 q] : Array Value)[o]? = some (.int .u8 v)) : False := by
  match o, h with
  | 0, h => simp at h
  | 1, h => simp at h
  | 2, h => simp at h
  | o + 3, h => simp at h
/-- A list of bytes does not lie where the reader lies. -/
theorem Lies.rd {w w' : World} {rb : Nat} {ao ar : Option Addr} {k c n cap : Nat} {zs bs : List Int} {st : Nat × Int} (h : Lies w ao k c zs) (hr : DR w rb ar cap n bs st) (hg : w.grownBy w' (some rb)) : Lies w' ao k c zs := by
  by_cases h0 : 0 < k
  · refine h.grown hg (fun ad had e => ?_)
    subst had
    have hc := h.hcells ad rfl 0 (.int .u8 (zs[0]'(by rw [h.hlen]; exact h0))) (by simp [h.hlen, h0])
    have hb : ad.block = rb := by simpa using e
    obtain ⟨b, o, sp⟩ := ad
    simp only at hb
    subst hb
    have hsp : sp = none := by simpa [Addr.add] using World.cell?_spot hc
    subst hsp
    rw [Addr.add_lit] at hc
    simp only [World.cell?, hr.r.blk, Nat.add_zero] at hc
    exact rd_cell _ _ _ _ _ _ _ hc
  · obtain rfl : k = 0 := by omega
    have : zs = [] := List.eq_nil_of_length_eq_zero h.hlen
    subst this
    exact ⟨rfl, h.hle, h.hnone, fun ad had t u hu => by simp at hu⟩

/-- What lies there while a request is read. -/
structure QS (w : World) (rb : Nat) (ao : Option Addr) (cap n : Nat) (bs : List Int) (st : Nat × Int) (s : Req) (do' : Option Addr) (dn dc : Nat) (wr : World) : Prop where
  res : RqB wr w.heap.size rq0 none 0 0
  non : RqB wr (w.heap.size + 1) rq0 none 0 0
  r : RqB wr (w.heap.size + 2) s do' dn dc
  dr : DR wr rb ao cap n bs st
  hrb : w.heap.size + 3 ≤ rb
  har : ∀ ad, ao = some ad → w.heap.size + 3 ≤ ad.block
  B : Below w.heap.size w wr
theorem QS.read {w : World} {rb : Nat} {ao : Option Addr} {cap n : Nat} {bs : List Int} {st st' : Nat × Int} {s : Req} {do' : Option Addr} {dn dc : Nat} {wr w' : World} (h : QS w rb ao cap n bs st s do' dn dc wr) (hd : DR w' rb ao cap n bs st') (hg : wr.grownBy w' (some rb)) : QS w rb ao cap n bs st' s do' dn dc w' :=
  ⟨RqB.row h.res hg (by have := h.hrb; omega), RqB.row h.non hg (by have := h.hrb; omega), RqB.row h.r hg (by have := h.hrb; omega), hd, h.hrb, h.har, h.B.grown hg h.B.size (fun k hk => by cases hk; have := h.hrb; omega)⟩
theorem QS.below {w : World} {rb : Nat} {ao : Option Addr} {cap n : Nat} {bs : List Int} {st : Nat × Int} {s : Req} {do' : Option Addr} {dn dc : Nat} {wr w' : World} (h : QS w rb ao cap n bs st s do' dn dc wr) (hb : Below wr.heap.size wr w') : QS w rb ao cap n bs st s do' dn dc w' :=
  ⟨RqB.below h.res hb, RqB.below h.non hb, RqB.below h.r hb, h.dr.below hb, h.hrb, h.har, h.B.trans (hb.mono h.B.size)⟩
theorem QS.put {w : World} {rb : Nat} {ao : Option Addr} {cap n : Nat} {bs : List Int} {st : Nat × Int} {s s' : Req} {do' do2 : Option Addr} {dn dc dn2 dc2 j : Nat} {u : Value} {wr : World} (h : QS w rb ao cap n bs st s do' dn dc wr) (hs : RqB (wr.setCell ⟨w.heap.size + 2, j, none⟩ u) (w.heap.size + 2) s' do2 dn2 dc2) : QS w rb ao cap n bs st s' do2 dn2 dc2 (wr.setCell ⟨w.heap.size + 2, j, none⟩ u) :=
  ⟨RqB.row h.res (grown_setCell _ _ _ _) (by omega), RqB.row h.non (grown_setCell _ _ _ _) (by omega), hs, h.dr.set (by have := h.hrb; omega) (fun ad had => by have := h.har ad had; omega), h.hrb, h.har, h.B.grown (grown_setCell _ _ _ _) h.B.size (fun k hk => by cases hk; omega)⟩
theorem v_u32 {w : World} {rb : Nat} {ao : Option Addr} {cap n : Nat} {bs : List Int} {st : Nat × Int} {V : Int × Nat × Int} (h : DR w rb ao cap n bs st) (hV : rdNum 4 n bs st.1 st.2 4294967295 = V) :
    Calls Tryz.prog 64 #[.pointer (some ⟨rb, 0, none⟩), .int .i64 4294967295] w fun e w' => e = .returned (.int .i64 V.1) ∧ DR w' rb ao cap n bs V.2 ∧ w.grownBy w' (some rb) := by
  rw [← hV]; exact d_u32 h
theorem v_u64 {w : World} {rb : Nat} {ao : Option Addr} {cap n : Nat} {bs : List Int} {st : Nat × Int} {V : Int × Nat × Int} (h : DR w rb ao cap n bs st) (hV : rdNum 8 n bs st.1 st.2 9223372036854775807 = V) :
    Calls Tryz.prog 65 #[.pointer (some ⟨rb, 0, none⟩), .int .i64 9223372036854775807] w fun e w' => e = .returned (.int .i64 V.1) ∧ DR w' rb ao cap n bs V.2 ∧ w.grownBy w' (some rb) := by
  rw [← hV]; exact d_u64 h
theorem v_text {w : World} {rb : Nat} {ao : Option Addr} {cap n : Nat} {bs : List Int} {st : Nat × Int} {V : List Int × Nat × Int} (M : Int) (hM : M ≤ 9223372036854775807) (h : DR w rb ao cap n bs st) (hV : rdText n bs st.1 st.2 M = V) :
    Calls Tryz.prog 69 #[.pointer (some ⟨rb, 0, none⟩), .int .i64 M] w fun e w' => e = .returned (.string (txt V.1)) ∧ DR w' rb ao cap n bs V.2 ∧ w.grownBy w' (some rb) := by
  rw [← hV]; exact d_text M hM h
theorem v_bytes {w : World} {rb : Nat} {ao : Option Addr} {cap n : Nat} {bs : List Int} {st : Nat × Int} {V : List Int × Nat × Int} (M : Int) (hM : M ≤ 9223372036854775807) (h : DR w rb ao cap n bs st) (hV : rdText n bs st.1 st.2 M = V) :
    Calls Tryz.prog 70 #[.pointer (some ⟨rb, 0, none⟩), .int .i64 M] w fun e w' => (∃ a k c, e = .returned (.slice a k c) ∧ Lies w' a k c V.1) ∧ DR w' rb ao cap n bs V.2 ∧ w.grownBy w' (some rb) := by
  rw [← hV]; exact d_bytes M hM h
theorem v_flag {w : World} {rb : Nat} {ao : Option Addr} {cap n : Nat} {bs : List Int} {st : Nat × Int} {V : Bool × Nat × Int} (h : DR w rb ao cap n bs st) (hV : rdFlag n bs st.1 st.2 = V) :
    Calls Tryz.prog 74 #[.pointer (some ⟨rb, 0, none⟩)] w fun e w' => e = .returned (.bool V.1) ∧ DR w' rb ao cap n bs V.2 ∧ w.grownBy w' (some rb) := by
  rw [← hV]; exact d_flag h
theorem v_close {w : World} {rb : Nat} {ao : Option Addr} {cap n : Nat} {bs : List Int} {st : Nat × Int} {V : Int} (h : DR w rb ao cap n bs st) (hV : rdClose n st.1 st.2 = V) :
    Calls Tryz.prog 71 #[.pointer (some ⟨rb, 0, none⟩)] w fun e w' => e = .returned (.int .i64 V) ∧ w.grownBy w' (some rb) := by
  rw [← hV]; exact d_close h
/-- What DecodeRequest leaves behind opened. -/
def RqOut (w : World) (k : Nat) (cs : List Int) (e : Ending) (w' : World) : Prop :=
  ∃ s bo n d, e = .returned (.tuple #[rqV s bo n d, .int .i64 (rqTE k cs)]) ∧ s = (if rqTE k cs = 0 then rq2 k cs else rq0) ∧ Lies w' bo n d s.data ∧ Below w.heap.size w w'
end Go.Proofs.YtdkcplndplhblaaGreatDoor

/- What is read of a request, an operation each. -/
namespace Go.Proofs.YtdkcplndplhblaaGreatDoor
open Go.RowKit
set_option maxRecDepth 100000

theorem rqT_1 (k : Nat) (cs : List Int) (V1 V2 V3 V4 : Int × Nat × Int) (p5 : Nat) (X1 : List Int × Nat × Int) (h1 : rdNum 4 k cs 0 0 4294967295 = V1) (h2 : rdNum 8 k cs V1.2.1 V1.2.2 9223372036854775807 = V2) (h3 : rdNum 8 k cs V2.2.1 V2.2.2 9223372036854775807 = V3) (h4 : rdNum 8 k cs V3.2.1 V3.2.2 9223372036854775807 = V4) (h5 : rdNum 4 k cs V4.2.1 V4.2.2 4294967295 = (1, p5, 0)) (hH : rqHeadE (⟨V1.1, V2.1, V3.1, V4.1, 1, 0, 0, 0, 0, ⟨#[]⟩, ⟨#[]⟩, ⟨#[]⟩, []⟩ : Req) = 0) (g1 : rdText k cs p5 (0 : Int) 384 = X1) :
    rqTE k cs = (if ¬ rdClose k X1.2.1 X1.2.2 = 0 then rdClose k X1.2.1 X1.2.2 else judgeE 1 (hasRq 1) (rqAny (⟨V1.1, V2.1, V3.1, V4.1, 1, 0, 0, 0, 0, txt X1.1, ⟨#[]⟩, ⟨#[]⟩, []⟩ : Req))) ∧ rq2 k cs = (⟨V1.1, V2.1, V3.1, V4.1, 1, 0, 0, 0, 0, txt X1.1, ⟨#[]⟩, ⟨#[]⟩, []⟩ : Req) := by
  have T1 : rqH k cs = ([(0, .small V1.1), (1, .great V2.1), (2, .great V3.1), (3, .great V4.1), (4, .small 1)], (p5, 0)) := by
    simp only [rqH, rqHead, takeL, takeV, h1, h2, h3, h4, h5]
  have T2 : rq1 k cs = (⟨V1.1, V2.1, V3.1, V4.1, 1, 0, 0, 0, 0, ⟨#[]⟩, ⟨#[]⟩, ⟨#[]⟩, []⟩ : Req) := by unfold rq1; rw [T1]; rfl
  have TG : rqG (⟨V1.1, V2.1, V3.1, V4.1, 1, 0, 0, 0, 0, ⟨#[]⟩, ⟨#[]⟩, ⟨#[]⟩, []⟩ : Req) = [(9, .path ⟨#[]⟩)] := rfl
  have T3 : takeL k cs (rqG (⟨V1.1, V2.1, V3.1, V4.1, 1, 0, 0, 0, 0, ⟨#[]⟩, ⟨#[]⟩, ⟨#[]⟩, []⟩ : Req)) (p5, 0) = ([(9, .path (txt X1.1))], X1.2) := by
    rw [TG]; simp only [takeL, takeV, g1]
  have T4 : rq2 k cs = (⟨V1.1, V2.1, V3.1, V4.1, 1, 0, 0, 0, 0, txt X1.1, ⟨#[]⟩, ⟨#[]⟩, []⟩ : Req) := by unfold rq2; rw [T2, T1, T3]; rfl
  have T5 : takeLE k cs (rqG (⟨V1.1, V2.1, V3.1, V4.1, 1, 0, 0, 0, 0, ⟨#[]⟩, ⟨#[]⟩, ⟨#[]⟩, []⟩ : Req)) (p5, 0) = 0 := by rw [TG]; simp [takeLE, takeE]
  refine ⟨?_, T4⟩
  unfold rqTE
  rw [T2, T1, T4]
  simp only [hH, lastE, T5, T3, rqJE]
  rfl

theorem rqT_2 (k : Nat) (cs : List Int) (V1 V2 V3 V4 : Int × Nat × Int) (p5 : Nat) (X1 : Int × Nat × Int) (h1 : rdNum 4 k cs 0 0 4294967295 = V1) (h2 : rdNum 8 k cs V1.2.1 V1.2.2 9223372036854775807 = V2) (h3 : rdNum 8 k cs V2.2.1 V2.2.2 9223372036854775807 = V3) (h4 : rdNum 8 k cs V3.2.1 V3.2.2 9223372036854775807 = V4) (h5 : rdNum 4 k cs V4.2.1 V4.2.2 4294967295 = (2, p5, 0)) (hH : rqHeadE (⟨V1.1, V2.1, V3.1, V4.1, 2, 0, 0, 0, 0, ⟨#[]⟩, ⟨#[]⟩, ⟨#[]⟩, []⟩ : Req) = 0) (g1 : rdNum 8 k cs p5 (0 : Int) 9223372036854775807 = X1) :
    rqTE k cs = (if ¬ rdClose k X1.2.1 X1.2.2 = 0 then rdClose k X1.2.1 X1.2.2 else judgeE 2 (hasRq 2) (rqAny (⟨V1.1, V2.1, V3.1, V4.1, 2, X1.1, 0, 0, 0, ⟨#[]⟩, ⟨#[]⟩, ⟨#[]⟩, []⟩ : Req))) ∧ rq2 k cs = (⟨V1.1, V2.1, V3.1, V4.1, 2, X1.1, 0, 0, 0, ⟨#[]⟩, ⟨#[]⟩, ⟨#[]⟩, []⟩ : Req) := by
  have T1 : rqH k cs = ([(0, .small V1.1), (1, .great V2.1), (2, .great V3.1), (3, .great V4.1), (4, .small 2)], (p5, 0)) := by
    simp only [rqH, rqHead, takeL, takeV, h1, h2, h3, h4, h5]
  have T2 : rq1 k cs = (⟨V1.1, V2.1, V3.1, V4.1, 2, 0, 0, 0, 0, ⟨#[]⟩, ⟨#[]⟩, ⟨#[]⟩, []⟩ : Req) := by unfold rq1; rw [T1]; rfl
  have TG : rqG (⟨V1.1, V2.1, V3.1, V4.1, 2, 0, 0, 0, 0, ⟨#[]⟩, ⟨#[]⟩, ⟨#[]⟩, []⟩ : Req) = [(6, .great 0)] := rfl
  have T3 : takeL k cs (rqG (⟨V1.1, V2.1, V3.1, V4.1, 2, 0, 0, 0, 0, ⟨#[]⟩, ⟨#[]⟩, ⟨#[]⟩, []⟩ : Req)) (p5, 0) = ([(6, .great X1.1)], X1.2) := by
    rw [TG]; simp only [takeL, takeV, g1]
  have T4 : rq2 k cs = (⟨V1.1, V2.1, V3.1, V4.1, 2, X1.1, 0, 0, 0, ⟨#[]⟩, ⟨#[]⟩, ⟨#[]⟩, []⟩ : Req) := by unfold rq2; rw [T2, T1, T3]; rfl
  have T5 : takeLE k cs (rqG (⟨V1.1, V2.1, V3.1, V4.1, 2, 0, 0, 0, 0, ⟨#[]⟩, ⟨#[]⟩, ⟨#[]⟩, []⟩ : Req)) (p5, 0) = 0 := by rw [TG]; simp [takeLE, takeE]
  refine ⟨?_, T4⟩
  unfold rqTE
  rw [T2, T1, T4]
  simp only [hH, lastE, T5, T3, rqJE]
  rfl

theorem rqT_3 (k : Nat) (cs : List Int) (V1 V2 V3 V4 : Int × Nat × Int) (p5 : Nat) (X1 : Int × Nat × Int) (X2 : Int × Nat × Int) (X3 : Int × Nat × Int) (h1 : rdNum 4 k cs 0 0 4294967295 = V1) (h2 : rdNum 8 k cs V1.2.1 V1.2.2 9223372036854775807 = V2) (h3 : rdNum 8 k cs V2.2.1 V2.2.2 9223372036854775807 = V3) (h4 : rdNum 8 k cs V3.2.1 V3.2.2 9223372036854775807 = V4) (h5 : rdNum 4 k cs V4.2.1 V4.2.2 4294967295 = (3, p5, 0)) (hH : rqHeadE (⟨V1.1, V2.1, V3.1, V4.1, 3, 0, 0, 0, 0, ⟨#[]⟩, ⟨#[]⟩, ⟨#[]⟩, []⟩ : Req) = 0) (g1 : rdNum 8 k cs p5 (0 : Int) 9223372036854775807 = X1) (g2 : rdNum 4 k cs X1.2.1 X1.2.2 4294967295 = X2) (g3 : rdNum 4 k cs X2.2.1 X2.2.2 4294967295 = X3) :
    rqTE k cs = (if ¬ rdClose k X3.2.1 X3.2.2 = 0 then rdClose k X3.2.1 X3.2.2 else judgeE 3 (hasRq 3) (rqAny (⟨V1.1, V2.1, V3.1, V4.1, 3, X1.1, 0, X2.1, X3.1, ⟨#[]⟩, ⟨#[]⟩, ⟨#[]⟩, []⟩ : Req))) ∧ rq2 k cs = (⟨V1.1, V2.1, V3.1, V4.1, 3, X1.1, 0, X2.1, X3.1, ⟨#[]⟩, ⟨#[]⟩, ⟨#[]⟩, []⟩ : Req) := by
  have T1 : rqH k cs = ([(0, .small V1.1), (1, .great V2.1), (2, .great V3.1), (3, .great V4.1), (4, .small 3)], (p5, 0)) := by
    simp only [rqH, rqHead, takeL, takeV, h1, h2, h3, h4, h5]
  have T2 : rq1 k cs = (⟨V1.1, V2.1, V3.1, V4.1, 3, 0, 0, 0, 0, ⟨#[]⟩, ⟨#[]⟩, ⟨#[]⟩, []⟩ : Req) := by unfold rq1; rw [T1]; rfl
  have TG : rqG (⟨V1.1, V2.1, V3.1, V4.1, 3, 0, 0, 0, 0, ⟨#[]⟩, ⟨#[]⟩, ⟨#[]⟩, []⟩ : Req) = [(6, .great 0), (7, .small 0), (8, .small 0)] := rfl
  have T3 : takeL k cs (rqG (⟨V1.1, V2.1, V3.1, V4.1, 3, 0, 0, 0, 0, ⟨#[]⟩, ⟨#[]⟩, ⟨#[]⟩, []⟩ : Req)) (p5, 0) = ([(6, .great X1.1), (7, .small X2.1), (8, .small X3.1)], X3.2) := by
    rw [TG]; simp only [takeL, takeV, g1, g2, g3]
  have T4 : rq2 k cs = (⟨V1.1, V2.1, V3.1, V4.1, 3, X1.1, 0, X2.1, X3.1, ⟨#[]⟩, ⟨#[]⟩, ⟨#[]⟩, []⟩ : Req) := by unfold rq2; rw [T2, T1, T3]; rfl
  have T5 : takeLE k cs (rqG (⟨V1.1, V2.1, V3.1, V4.1, 3, 0, 0, 0, 0, ⟨#[]⟩, ⟨#[]⟩, ⟨#[]⟩, []⟩ : Req)) (p5, 0) = 0 := by rw [TG]; simp [takeLE, takeE]
  refine ⟨?_, T4⟩
  unfold rqTE
  rw [T2, T1, T4]
  simp only [hH, lastE, T5, T3, rqJE]
  rfl

theorem rqT_4 (k : Nat) (cs : List Int) (V1 V2 V3 V4 : Int × Nat × Int) (p5 : Nat) (X1 : Int × Nat × Int) (X2 : Int × Nat × Int) (X3 : List Int × Nat × Int) (h1 : rdNum 4 k cs 0 0 4294967295 = V1) (h2 : rdNum 8 k cs V1.2.1 V1.2.2 9223372036854775807 = V2) (h3 : rdNum 8 k cs V2.2.1 V2.2.2 9223372036854775807 = V3) (h4 : rdNum 8 k cs V3.2.1 V3.2.2 9223372036854775807 = V4) (h5 : rdNum 4 k cs V4.2.1 V4.2.2 4294967295 = (4, p5, 0)) (hH : rqHeadE (⟨V1.1, V2.1, V3.1, V4.1, 4, 0, 0, 0, 0, ⟨#[]⟩, ⟨#[]⟩, ⟨#[]⟩, []⟩ : Req) = 0) (g1 : rdNum 8 k cs p5 (0 : Int) 9223372036854775807 = X1) (g2 : rdNum 4 k cs X1.2.1 X1.2.2 4294967295 = X2) (g3 : rdText k cs X2.2.1 X2.2.2 1024 = X3) :
    rqTE k cs = (if ¬ rdClose k X3.2.1 X3.2.2 = 0 then rdClose k X3.2.1 X3.2.2 else judgeE 4 (hasRq 4) (rqAny (⟨V1.1, V2.1, V3.1, V4.1, 4, X1.1, 0, X2.1, 0, ⟨#[]⟩, ⟨#[]⟩, ⟨#[]⟩, X3.1⟩ : Req))) ∧ rq2 k cs = (⟨V1.1, V2.1, V3.1, V4.1, 4, X1.1, 0, X2.1, 0, ⟨#[]⟩, ⟨#[]⟩, ⟨#[]⟩, X3.1⟩ : Req) := by
  have T1 : rqH k cs = ([(0, .small V1.1), (1, .great V2.1), (2, .great V3.1), (3, .great V4.1), (4, .small 4)], (p5, 0)) := by
    simp only [rqH, rqHead, takeL, takeV, h1, h2, h3, h4, h5]
  have T2 : rq1 k cs = (⟨V1.1, V2.1, V3.1, V4.1, 4, 0, 0, 0, 0, ⟨#[]⟩, ⟨#[]⟩, ⟨#[]⟩, []⟩ : Req) := by unfold rq1; rw [T1]; rfl
  have TG : rqG (⟨V1.1, V2.1, V3.1, V4.1, 4, 0, 0, 0, 0, ⟨#[]⟩, ⟨#[]⟩, ⟨#[]⟩, []⟩ : Req) = [(6, .great 0), (7, .small 0), (14, .content [])] := rfl
  have T3 : takeL k cs (rqG (⟨V1.1, V2.1, V3.1, V4.1, 4, 0, 0, 0, 0, ⟨#[]⟩, ⟨#[]⟩, ⟨#[]⟩, []⟩ : Req)) (p5, 0) = ([(6, .great X1.1), (7, .small X2.1), (14, .content X3.1)], X3.2) := by
    rw [TG]; simp only [takeL, takeV, g1, g2, g3]
  have T4 : rq2 k cs = (⟨V1.1, V2.1, V3.1, V4.1, 4, X1.1, 0, X2.1, 0, ⟨#[]⟩, ⟨#[]⟩, ⟨#[]⟩, X3.1⟩ : Req) := by unfold rq2; rw [T2, T1, T3]; rfl
  have T5 : takeLE k cs (rqG (⟨V1.1, V2.1, V3.1, V4.1, 4, 0, 0, 0, 0, ⟨#[]⟩, ⟨#[]⟩, ⟨#[]⟩, []⟩ : Req)) (p5, 0) = 0 := by rw [TG]; simp [takeLE, takeE]
  refine ⟨?_, T4⟩
  unfold rqTE
  rw [T2, T1, T4]
  simp only [hH, lastE, T5, T3, rqJE]
  rfl

theorem rqT_5 (k : Nat) (cs : List Int) (V1 V2 V3 V4 : Int × Nat × Int) (p5 : Nat) (X1 : Int × Nat × Int) (X2 : List Int × Nat × Int) (h1 : rdNum 4 k cs 0 0 4294967295 = V1) (h2 : rdNum 8 k cs V1.2.1 V1.2.2 9223372036854775807 = V2) (h3 : rdNum 8 k cs V2.2.1 V2.2.2 9223372036854775807 = V3) (h4 : rdNum 8 k cs V3.2.1 V3.2.2 9223372036854775807 = V4) (h5 : rdNum 4 k cs V4.2.1 V4.2.2 4294967295 = (5, p5, 0)) (hH : rqHeadE (⟨V1.1, V2.1, V3.1, V4.1, 5, 0, 0, 0, 0, ⟨#[]⟩, ⟨#[]⟩, ⟨#[]⟩, []⟩ : Req) = 0) (g1 : rdNum 8 k cs p5 (0 : Int) 9223372036854775807 = X1) (g2 : rdText k cs X1.2.1 X1.2.2 23 = X2) :
    rqTE k cs = (if ¬ rdClose k X2.2.1 X2.2.2 = 0 then rdClose k X2.2.1 X2.2.2 else judgeE 5 (hasRq 5) (rqAny (⟨V1.1, V2.1, V3.1, V4.1, 5, X1.1, 0, 0, 0, ⟨#[]⟩, txt X2.1, ⟨#[]⟩, []⟩ : Req))) ∧ rq2 k cs = (⟨V1.1, V2.1, V3.1, V4.1, 5, X1.1, 0, 0, 0, ⟨#[]⟩, txt X2.1, ⟨#[]⟩, []⟩ : Req) := by
  have T1 : rqH k cs = ([(0, .small V1.1), (1, .great V2.1), (2, .great V3.1), (3, .great V4.1), (4, .small 5)], (p5, 0)) := by
    simp only [rqH, rqHead, takeL, takeV, h1, h2, h3, h4, h5]
  have T2 : rq1 k cs = (⟨V1.1, V2.1, V3.1, V4.1, 5, 0, 0, 0, 0, ⟨#[]⟩, ⟨#[]⟩, ⟨#[]⟩, []⟩ : Req) := by unfold rq1; rw [T1]; rfl
  have TG : rqG (⟨V1.1, V2.1, V3.1, V4.1, 5, 0, 0, 0, 0, ⟨#[]⟩, ⟨#[]⟩, ⟨#[]⟩, []⟩ : Req) = [(6, .great 0), (10, .name ⟨#[]⟩)] := rfl
  have T3 : takeL k cs (rqG (⟨V1.1, V2.1, V3.1, V4.1, 5, 0, 0, 0, 0, ⟨#[]⟩, ⟨#[]⟩, ⟨#[]⟩, []⟩ : Req)) (p5, 0) = ([(6, .great X1.1), (10, .name (txt X2.1))], X2.2) := by
    rw [TG]; simp only [takeL, takeV, g1, g2]
  have T4 : rq2 k cs = (⟨V1.1, V2.1, V3.1, V4.1, 5, X1.1, 0, 0, 0, ⟨#[]⟩, txt X2.1, ⟨#[]⟩, []⟩ : Req) := by unfold rq2; rw [T2, T1, T3]; rfl
  have T5 : takeLE k cs (rqG (⟨V1.1, V2.1, V3.1, V4.1, 5, 0, 0, 0, 0, ⟨#[]⟩, ⟨#[]⟩, ⟨#[]⟩, []⟩ : Req)) (p5, 0) = 0 := by rw [TG]; simp [takeLE, takeE]
  refine ⟨?_, T4⟩
  unfold rqTE
  rw [T2, T1, T4]
  simp only [hH, lastE, T5, T3, rqJE]
  rfl

theorem rqT_6 (k : Nat) (cs : List Int) (V1 V2 V3 V4 : Int × Nat × Int) (p5 : Nat) (X1 : Int × Nat × Int) (X2 : List Int × Nat × Int) (h1 : rdNum 4 k cs 0 0 4294967295 = V1) (h2 : rdNum 8 k cs V1.2.1 V1.2.2 9223372036854775807 = V2) (h3 : rdNum 8 k cs V2.2.1 V2.2.2 9223372036854775807 = V3) (h4 : rdNum 8 k cs V3.2.1 V3.2.2 9223372036854775807 = V4) (h5 : rdNum 4 k cs V4.2.1 V4.2.2 4294967295 = (6, p5, 0)) (hH : rqHeadE (⟨V1.1, V2.1, V3.1, V4.1, 6, 0, 0, 0, 0, ⟨#[]⟩, ⟨#[]⟩, ⟨#[]⟩, []⟩ : Req) = 0) (g1 : rdNum 8 k cs p5 (0 : Int) 9223372036854775807 = X1) (g2 : rdText k cs X1.2.1 X1.2.2 23 = X2) :
    rqTE k cs = (if ¬ rdClose k X2.2.1 X2.2.2 = 0 then rdClose k X2.2.1 X2.2.2 else judgeE 6 (hasRq 6) (rqAny (⟨V1.1, V2.1, V3.1, V4.1, 6, X1.1, 0, 0, 0, ⟨#[]⟩, txt X2.1, ⟨#[]⟩, []⟩ : Req))) ∧ rq2 k cs = (⟨V1.1, V2.1, V3.1, V4.1, 6, X1.1, 0, 0, 0, ⟨#[]⟩, txt X2.1, ⟨#[]⟩, []⟩ : Req) := by
  have T1 : rqH k cs = ([(0, .small V1.1), (1, .great V2.1), (2, .great V3.1), (3, .great V4.1), (4, .small 6)], (p5, 0)) := by
    simp only [rqH, rqHead, takeL, takeV, h1, h2, h3, h4, h5]
  have T2 : rq1 k cs = (⟨V1.1, V2.1, V3.1, V4.1, 6, 0, 0, 0, 0, ⟨#[]⟩, ⟨#[]⟩, ⟨#[]⟩, []⟩ : Req) := by unfold rq1; rw [T1]; rfl
  have TG : rqG (⟨V1.1, V2.1, V3.1, V4.1, 6, 0, 0, 0, 0, ⟨#[]⟩, ⟨#[]⟩, ⟨#[]⟩, []⟩ : Req) = [(6, .great 0), (10, .name ⟨#[]⟩)] := rfl
  have T3 : takeL k cs (rqG (⟨V1.1, V2.1, V3.1, V4.1, 6, 0, 0, 0, 0, ⟨#[]⟩, ⟨#[]⟩, ⟨#[]⟩, []⟩ : Req)) (p5, 0) = ([(6, .great X1.1), (10, .name (txt X2.1))], X2.2) := by
    rw [TG]; simp only [takeL, takeV, g1, g2]
  have T4 : rq2 k cs = (⟨V1.1, V2.1, V3.1, V4.1, 6, X1.1, 0, 0, 0, ⟨#[]⟩, txt X2.1, ⟨#[]⟩, []⟩ : Req) := by unfold rq2; rw [T2, T1, T3]; rfl
  have T5 : takeLE k cs (rqG (⟨V1.1, V2.1, V3.1, V4.1, 6, 0, 0, 0, 0, ⟨#[]⟩, ⟨#[]⟩, ⟨#[]⟩, []⟩ : Req)) (p5, 0) = 0 := by rw [TG]; simp [takeLE, takeE]
  refine ⟨?_, T4⟩
  unfold rqTE
  rw [T2, T1, T4]
  simp only [hH, lastE, T5, T3, rqJE]
  rfl

theorem rqT_7 (k : Nat) (cs : List Int) (V1 V2 V3 V4 : Int × Nat × Int) (p5 : Nat) (X1 : Int × Nat × Int) (X2 : List Int × Nat × Int) (h1 : rdNum 4 k cs 0 0 4294967295 = V1) (h2 : rdNum 8 k cs V1.2.1 V1.2.2 9223372036854775807 = V2) (h3 : rdNum 8 k cs V2.2.1 V2.2.2 9223372036854775807 = V3) (h4 : rdNum 8 k cs V3.2.1 V3.2.2 9223372036854775807 = V4) (h5 : rdNum 4 k cs V4.2.1 V4.2.2 4294967295 = (7, p5, 0)) (hH : rqHeadE (⟨V1.1, V2.1, V3.1, V4.1, 7, 0, 0, 0, 0, ⟨#[]⟩, ⟨#[]⟩, ⟨#[]⟩, []⟩ : Req) = 0) (g1 : rdNum 8 k cs p5 (0 : Int) 9223372036854775807 = X1) (g2 : rdText k cs X1.2.1 X1.2.2 23 = X2) :
    rqTE k cs = (if ¬ rdClose k X2.2.1 X2.2.2 = 0 then rdClose k X2.2.1 X2.2.2 else judgeE 7 (hasRq 7) (rqAny (⟨V1.1, V2.1, V3.1, V4.1, 7, X1.1, 0, 0, 0, ⟨#[]⟩, txt X2.1, ⟨#[]⟩, []⟩ : Req))) ∧ rq2 k cs = (⟨V1.1, V2.1, V3.1, V4.1, 7, X1.1, 0, 0, 0, ⟨#[]⟩, txt X2.1, ⟨#[]⟩, []⟩ : Req) := by
  have T1 : rqH k cs = ([(0, .small V1.1), (1, .great V2.1), (2, .great V3.1), (3, .great V4.1), (4, .small 7)], (p5, 0)) := by
    simp only [rqH, rqHead, takeL, takeV, h1, h2, h3, h4, h5]
  have T2 : rq1 k cs = (⟨V1.1, V2.1, V3.1, V4.1, 7, 0, 0, 0, 0, ⟨#[]⟩, ⟨#[]⟩, ⟨#[]⟩, []⟩ : Req) := by unfold rq1; rw [T1]; rfl
  have TG : rqG (⟨V1.1, V2.1, V3.1, V4.1, 7, 0, 0, 0, 0, ⟨#[]⟩, ⟨#[]⟩, ⟨#[]⟩, []⟩ : Req) = [(6, .great 0), (10, .name ⟨#[]⟩)] := rfl
  have T3 : takeL k cs (rqG (⟨V1.1, V2.1, V3.1, V4.1, 7, 0, 0, 0, 0, ⟨#[]⟩, ⟨#[]⟩, ⟨#[]⟩, []⟩ : Req)) (p5, 0) = ([(6, .great X1.1), (10, .name (txt X2.1))], X2.2) := by
    rw [TG]; simp only [takeL, takeV, g1, g2]
  have T4 : rq2 k cs = (⟨V1.1, V2.1, V3.1, V4.1, 7, X1.1, 0, 0, 0, ⟨#[]⟩, txt X2.1, ⟨#[]⟩, []⟩ : Req) := by unfold rq2; rw [T2, T1, T3]; rfl
  have T5 : takeLE k cs (rqG (⟨V1.1, V2.1, V3.1, V4.1, 7, 0, 0, 0, 0, ⟨#[]⟩, ⟨#[]⟩, ⟨#[]⟩, []⟩ : Req)) (p5, 0) = 0 := by rw [TG]; simp [takeLE, takeE]
  refine ⟨?_, T4⟩
  unfold rqTE
  rw [T2, T1, T4]
  simp only [hH, lastE, T5, T3, rqJE]
  rfl

theorem rqT_8 (k : Nat) (cs : List Int) (V1 V2 V3 V4 : Int × Nat × Int) (p5 : Nat) (X1 : Int × Nat × Int) (X2 : List Int × Nat × Int) (h1 : rdNum 4 k cs 0 0 4294967295 = V1) (h2 : rdNum 8 k cs V1.2.1 V1.2.2 9223372036854775807 = V2) (h3 : rdNum 8 k cs V2.2.1 V2.2.2 9223372036854775807 = V3) (h4 : rdNum 8 k cs V3.2.1 V3.2.2 9223372036854775807 = V4) (h5 : rdNum 4 k cs V4.2.1 V4.2.2 4294967295 = (8, p5, 0)) (hH : rqHeadE (⟨V1.1, V2.1, V3.1, V4.1, 8, 0, 0, 0, 0, ⟨#[]⟩, ⟨#[]⟩, ⟨#[]⟩, []⟩ : Req) = 0) (g1 : rdNum 8 k cs p5 (0 : Int) 9223372036854775807 = X1) (g2 : rdText k cs X1.2.1 X1.2.2 23 = X2) :
    rqTE k cs = (if ¬ rdClose k X2.2.1 X2.2.2 = 0 then rdClose k X2.2.1 X2.2.2 else judgeE 8 (hasRq 8) (rqAny (⟨V1.1, V2.1, V3.1, V4.1, 8, X1.1, 0, 0, 0, ⟨#[]⟩, txt X2.1, ⟨#[]⟩, []⟩ : Req))) ∧ rq2 k cs = (⟨V1.1, V2.1, V3.1, V4.1, 8, X1.1, 0, 0, 0, ⟨#[]⟩, txt X2.1, ⟨#[]⟩, []⟩ : Req) := by
  have T1 : rqH k cs = ([(0, .small V1.1), (1, .great V2.1), (2, .great V3.1), (3, .great V4.1), (4, .small 8)], (p5, 0)) := by
    simp only [rqH, rqHead, takeL, takeV, h1, h2, h3, h4, h5]
  have T2 : rq1 k cs = (⟨V1.1, V2.1, V3.1, V4.1, 8, 0, 0, 0, 0, ⟨#[]⟩, ⟨#[]⟩, ⟨#[]⟩, []⟩ : Req) := by unfold rq1; rw [T1]; rfl
  have TG : rqG (⟨V1.1, V2.1, V3.1, V4.1, 8, 0, 0, 0, 0, ⟨#[]⟩, ⟨#[]⟩, ⟨#[]⟩, []⟩ : Req) = [(6, .great 0), (10, .name ⟨#[]⟩)] := rfl
  have T3 : takeL k cs (rqG (⟨V1.1, V2.1, V3.1, V4.1, 8, 0, 0, 0, 0, ⟨#[]⟩, ⟨#[]⟩, ⟨#[]⟩, []⟩ : Req)) (p5, 0) = ([(6, .great X1.1), (10, .name (txt X2.1))], X2.2) := by
    rw [TG]; simp only [takeL, takeV, g1, g2]
  have T4 : rq2 k cs = (⟨V1.1, V2.1, V3.1, V4.1, 8, X1.1, 0, 0, 0, ⟨#[]⟩, txt X2.1, ⟨#[]⟩, []⟩ : Req) := by unfold rq2; rw [T2, T1, T3]; rfl
  have T5 : takeLE k cs (rqG (⟨V1.1, V2.1, V3.1, V4.1, 8, 0, 0, 0, 0, ⟨#[]⟩, ⟨#[]⟩, ⟨#[]⟩, []⟩ : Req)) (p5, 0) = 0 := by rw [TG]; simp [takeLE, takeE]
  refine ⟨?_, T4⟩
  unfold rqTE
  rw [T2, T1, T4]
  simp only [hH, lastE, T5, T3, rqJE]
  rfl

theorem rqT_9 (k : Nat) (cs : List Int) (V1 V2 V3 V4 : Int × Nat × Int) (p5 : Nat) (X1 : Int × Nat × Int) (X2 : List Int × Nat × Int) (X3 : Int × Nat × Int) (X4 : List Int × Nat × Int) (h1 : rdNum 4 k cs 0 0 4294967295 = V1) (h2 : rdNum 8 k cs V1.2.1 V1.2.2 9223372036854775807 = V2) (h3 : rdNum 8 k cs V2.2.1 V2.2.2 9223372036854775807 = V3) (h4 : rdNum 8 k cs V3.2.1 V3.2.2 9223372036854775807 = V4) (h5 : rdNum 4 k cs V4.2.1 V4.2.2 4294967295 = (9, p5, 0)) (hH : rqHeadE (⟨V1.1, V2.1, V3.1, V4.1, 9, 0, 0, 0, 0, ⟨#[]⟩, ⟨#[]⟩, ⟨#[]⟩, []⟩ : Req) = 0) (g1 : rdNum 8 k cs p5 (0 : Int) 9223372036854775807 = X1) (g2 : rdText k cs X1.2.1 X1.2.2 23 = X2) (g3 : rdNum 8 k cs X2.2.1 X2.2.2 9223372036854775807 = X3) (g4 : rdText k cs X3.2.1 X3.2.2 23 = X4) :
    rqTE k cs = (if ¬ rdClose k X4.2.1 X4.2.2 = 0 then rdClose k X4.2.1 X4.2.2 else judgeE 9 (hasRq 9) (rqAny (⟨V1.1, V2.1, V3.1, V4.1, 9, X1.1, X3.1, 0, 0, ⟨#[]⟩, txt X2.1, txt X4.1, []⟩ : Req))) ∧ rq2 k cs = (⟨V1.1, V2.1, V3.1, V4.1, 9, X1.1, X3.1, 0, 0, ⟨#[]⟩, txt X2.1, txt X4.1, []⟩ : Req) := by
  have T1 : rqH k cs = ([(0, .small V1.1), (1, .great V2.1), (2, .great V3.1), (3, .great V4.1), (4, .small 9)], (p5, 0)) := by
    simp only [rqH, rqHead, takeL, takeV, h1, h2, h3, h4, h5]
  have T2 : rq1 k cs = (⟨V1.1, V2.1, V3.1, V4.1, 9, 0, 0, 0, 0, ⟨#[]⟩, ⟨#[]⟩, ⟨#[]⟩, []⟩ : Req) := by unfold rq1; rw [T1]; rfl
  have TG : rqG (⟨V1.1, V2.1, V3.1, V4.1, 9, 0, 0, 0, 0, ⟨#[]⟩, ⟨#[]⟩, ⟨#[]⟩, []⟩ : Req) = [(6, .great 0), (10, .name ⟨#[]⟩), (11, .great 0), (12, .name ⟨#[]⟩)] := rfl
  have T3 : takeL k cs (rqG (⟨V1.1, V2.1, V3.1, V4.1, 9, 0, 0, 0, 0, ⟨#[]⟩, ⟨#[]⟩, ⟨#[]⟩, []⟩ : Req)) (p5, 0) = ([(6, .great X1.1), (10, .name (txt X2.1)), (11, .great X3.1), (12, .name (txt X4.1))], X4.2) := by
    rw [TG]; simp only [takeL, takeV, g1, g2, g3, g4]
  have T4 : rq2 k cs = (⟨V1.1, V2.1, V3.1, V4.1, 9, X1.1, X3.1, 0, 0, ⟨#[]⟩, txt X2.1, txt X4.1, []⟩ : Req) := by unfold rq2; rw [T2, T1, T3]; rfl
  have T5 : takeLE k cs (rqG (⟨V1.1, V2.1, V3.1, V4.1, 9, 0, 0, 0, 0, ⟨#[]⟩, ⟨#[]⟩, ⟨#[]⟩, []⟩ : Req)) (p5, 0) = 0 := by rw [TG]; simp [takeLE, takeE]
  refine ⟨?_, T4⟩
  unfold rqTE
  rw [T2, T1, T4]
  simp only [hH, lastE, T5, T3, rqJE]
  rfl

theorem rqT_10 (k : Nat) (cs : List Int) (V1 V2 V3 V4 : Int × Nat × Int) (p5 : Nat) (X1 : Int × Nat × Int) (X2 : Int × Nat × Int) (X3 : List Int × Nat × Int) (h1 : rdNum 4 k cs 0 0 4294967295 = V1) (h2 : rdNum 8 k cs V1.2.1 V1.2.2 9223372036854775807 = V2) (h3 : rdNum 8 k cs V2.2.1 V2.2.2 9223372036854775807 = V3) (h4 : rdNum 8 k cs V3.2.1 V3.2.2 9223372036854775807 = V4) (h5 : rdNum 4 k cs V4.2.1 V4.2.2 4294967295 = (10, p5, 0)) (hH : rqHeadE (⟨V1.1, V2.1, V3.1, V4.1, 10, 0, 0, 0, 0, ⟨#[]⟩, ⟨#[]⟩, ⟨#[]⟩, []⟩ : Req) = 0) (g1 : rdNum 8 k cs p5 (0 : Int) 9223372036854775807 = X1) (g2 : rdNum 4 k cs X1.2.1 X1.2.2 4294967295 = X2) (g3 : rdText k cs X2.2.1 X2.2.2 23 = X3) :
    rqTE k cs = (if ¬ rdClose k X3.2.1 X3.2.2 = 0 then rdClose k X3.2.1 X3.2.2 else judgeE 10 (hasRq 10) (rqAny (⟨V1.1, V2.1, V3.1, V4.1, 10, X1.1, 0, 0, X2.1, ⟨#[]⟩, txt X3.1, ⟨#[]⟩, []⟩ : Req))) ∧ rq2 k cs = (⟨V1.1, V2.1, V3.1, V4.1, 10, X1.1, 0, 0, X2.1, ⟨#[]⟩, txt X3.1, ⟨#[]⟩, []⟩ : Req) := by
  have T1 : rqH k cs = ([(0, .small V1.1), (1, .great V2.1), (2, .great V3.1), (3, .great V4.1), (4, .small 10)], (p5, 0)) := by
    simp only [rqH, rqHead, takeL, takeV, h1, h2, h3, h4, h5]
  have T2 : rq1 k cs = (⟨V1.1, V2.1, V3.1, V4.1, 10, 0, 0, 0, 0, ⟨#[]⟩, ⟨#[]⟩, ⟨#[]⟩, []⟩ : Req) := by unfold rq1; rw [T1]; rfl
  have TG : rqG (⟨V1.1, V2.1, V3.1, V4.1, 10, 0, 0, 0, 0, ⟨#[]⟩, ⟨#[]⟩, ⟨#[]⟩, []⟩ : Req) = [(6, .great 0), (8, .small 0), (10, .name ⟨#[]⟩)] := rfl
  have T3 : takeL k cs (rqG (⟨V1.1, V2.1, V3.1, V4.1, 10, 0, 0, 0, 0, ⟨#[]⟩, ⟨#[]⟩, ⟨#[]⟩, []⟩ : Req)) (p5, 0) = ([(6, .great X1.1), (8, .small X2.1), (10, .name (txt X3.1))], X3.2) := by
    rw [TG]; simp only [takeL, takeV, g1, g2, g3]
  have T4 : rq2 k cs = (⟨V1.1, V2.1, V3.1, V4.1, 10, X1.1, 0, 0, X2.1, ⟨#[]⟩, txt X3.1, ⟨#[]⟩, []⟩ : Req) := by unfold rq2; rw [T2, T1, T3]; rfl
  have T5 : takeLE k cs (rqG (⟨V1.1, V2.1, V3.1, V4.1, 10, 0, 0, 0, 0, ⟨#[]⟩, ⟨#[]⟩, ⟨#[]⟩, []⟩ : Req)) (p5, 0) = 0 := by rw [TG]; simp [takeLE, takeE]
  refine ⟨?_, T4⟩
  unfold rqTE
  rw [T2, T1, T4]
  simp only [hH, lastE, T5, T3, rqJE]
  rfl
end Go.Proofs.YtdkcplndplhblaaGreatDoor

/- What the walks of annexref4.DecodeRequest use. -/
namespace Go.Proofs.YtdkcplndplhblaaGreatDoor
open Go.RowKit
set_option maxRecDepth 100000

/-- The three boxes of DecodeRequest. -/
structure QS0 (w : World) (wr : World) : Prop where
  res : RqB wr w.heap.size rq0 none 0 0
  non : RqB wr (w.heap.size + 1) rq0 none 0 0
  r : RqB wr (w.heap.size + 2) rq0 none 0 0
  sz : w.heap.size + 3 ≤ wr.heap.size
  B : Below w.heap.size w wr
theorem qs0 (w : World) : QS0 w (((w.alloc (.cells #[.int .i64 0, .int .i64 0, .int .i64 0, .int .i64 0, .int .i64 0, .int .i64 0, .int .i64 0, .int .i64 0, .int .i64 0, .string ⟨#[]⟩, .string ⟨#[]⟩, .string ⟨#[]⟩, .slice none 0 0] 24)).alloc (.cells #[.int .i64 0, .int .i64 0, .int .i64 0, .int .i64 0, .int .i64 0, .int .i64 0, .int .i64 0, .int .i64 0, .int .i64 0, .string ⟨#[]⟩, .string ⟨#[]⟩, .string ⟨#[]⟩, .slice none 0 0] 24)).alloc (.cells #[.int .i64 0, .int .i64 0, .int .i64 0, .int .i64 0, .int .i64 0, .int .i64 0, .int .i64 0, .int .i64 0, .int .i64 0, .string ⟨#[]⟩, .string ⟨#[]⟩, .string ⟨#[]⟩, .slice none 0 0] 24)) := by
  have e1 : (w.alloc (.cells #[.int .i64 0, .int .i64 0, .int .i64 0, .int .i64 0, .int .i64 0, .int .i64 0, .int .i64 0, .int .i64 0, .int .i64 0, .string ⟨#[]⟩, .string ⟨#[]⟩, .string ⟨#[]⟩, .slice none 0 0] 24)).heap.size = w.heap.size + 1 := by simp
  have e2 : ((w.alloc (.cells #[.int .i64 0, .int .i64 0, .int .i64 0, .int .i64 0, .int .i64 0, .int .i64 0, .int .i64 0, .int .i64 0, .int .i64 0, .string ⟨#[]⟩, .string ⟨#[]⟩, .string ⟨#[]⟩, .slice none 0 0] 24)).alloc (.cells #[.int .i64 0, .int .i64 0, .int .i64 0, .int .i64 0, .int .i64 0, .int .i64 0, .int .i64 0, .int .i64 0, .int .i64 0, .string ⟨#[]⟩, .string ⟨#[]⟩, .string ⟨#[]⟩, .slice none 0 0] 24)).heap.size = w.heap.size + 2 := by simp
  have a2 := heap_alloc_new (w.alloc (.cells #[.int .i64 0, .int .i64 0, .int .i64 0, .int .i64 0, .int .i64 0, .int .i64 0, .int .i64 0, .int .i64 0, .int .i64 0, .string ⟨#[]⟩, .string ⟨#[]⟩, .string ⟨#[]⟩, .slice none 0 0] 24)) (.cells #[.int .i64 0, .int .i64 0, .int .i64 0, .int .i64 0, .int .i64 0, .int .i64 0, .int .i64 0, .int .i64 0, .int .i64 0, .string ⟨#[]⟩, .string ⟨#[]⟩, .string ⟨#[]⟩, .slice none 0 0] 24)
  have a3 := heap_alloc_new ((w.alloc (.cells #[.int .i64 0, .int .i64 0, .int .i64 0, .int .i64 0, .int .i64 0, .int .i64 0, .int .i64 0, .int .i64 0, .int .i64 0, .string ⟨#[]⟩, .string ⟨#[]⟩, .string ⟨#[]⟩, .slice none 0 0] 24)).alloc (.cells #[.int .i64 0, .int .i64 0, .int .i64 0, .int .i64 0, .int .i64 0, .int .i64 0, .int .i64 0, .int .i64 0, .int .i64 0, .string ⟨#[]⟩, .string ⟨#[]⟩, .string ⟨#[]⟩, .slice none 0 0] 24)) (.cells #[.int .i64 0, .int .i64 0, .int .i64 0, .int .i64 0, .int .i64 0, .int .i64 0, .int .i64 0, .int .i64 0, .int .i64 0, .string ⟨#[]⟩, .string ⟨#[]⟩, .string ⟨#[]⟩, .slice none 0 0] 24)
  rw [e1] at a2
  rw [e2] at a3
  refine ⟨?_, ?_, a3, by simp, (box2 w (.cells #[.int .i64 0, .int .i64 0, .int .i64 0, .int .i64 0, .int .i64 0, .int .i64 0, .int .i64 0, .int .i64 0, .int .i64 0, .string ⟨#[]⟩, .string ⟨#[]⟩, .string ⟨#[]⟩, .slice none 0 0] 24) (.cells #[.int .i64 0, .int .i64 0, .int .i64 0, .int .i64 0, .int .i64 0, .int .i64 0, .int .i64 0, .int .i64 0, .int .i64 0, .string ⟨#[]⟩, .string ⟨#[]⟩, .string ⟨#[]⟩, .slice none 0 0] 24)).alloc (box2 w (.cells #[.int .i64 0, .int .i64 0, .int .i64 0, .int .i64 0, .int .i64 0, .int .i64 0, .int .i64 0, .int .i64 0, .int .i64 0, .string ⟨#[]⟩, .string ⟨#[]⟩, .string ⟨#[]⟩, .slice none 0 0] 24) (.cells #[.int .i64 0, .int .i64 0, .int .i64 0, .int .i64 0, .int .i64 0, .int .i64 0, .int .i64 0, .int .i64 0, .int .i64 0, .string ⟨#[]⟩, .string ⟨#[]⟩, .string ⟨#[]⟩, .slice none 0 0] 24)).size _⟩
  · rw [RqB, Below.heap_alloc _ _ _ (by simp; omega), Below.heap_alloc _ _ _ (by simp)]; exact heap_alloc_new _ _
  · rw [RqB, Below.heap_alloc _ _ _ (by simp)]; exact a2
theorem QS0.open {w w3 wo : World} {rb : Nat} {ar : Option Addr} {cr k m : Nat} {cs bs : List Int} (h : QS0 w w3) (hR : RdD wo rb ar (m - 12) cr 0 0 ((bs.drop 4).take (m - 12))) (hrb : w3.heap.size ≤ rb) (har : ∀ ad, ar = some ad → w3.heap.size ≤ ad.block) (hb : Below w3.heap.size w3 wo) (hk : k = m - 12) (hcs : cs = (bs.drop 4).take (m - 12)) (hby : Bys bs) (hm : m ≤ 1400) : QS w rb ar cr k cs (0, 0) rq0 none 0 0 wo := by
  have hs := h.sz
  subst hk hcs
  exact ⟨RqB.below h.res hb, RqB.below h.non hb, RqB.below h.r hb, ⟨hR, by omega, by omega, take_bys (drop_bys hby 4) _⟩, by omega, fun ad had => by have := har ad had; omega, h.B.trans (hb.mono h.B.size)⟩
/-- Behind Close the reader is not looked at any more. -/
structure QE (w : World) (s : Req) (do' : Option Addr) (dn dc : Nat) (wr : World) : Prop where
  res : RqB wr w.heap.size rq0 none 0 0
  non : RqB wr (w.heap.size + 1) rq0 none 0 0
  r : RqB wr (w.heap.size + 2) s do' dn dc
  B : Below w.heap.size w wr
theorem QS.shut {w : World} {rb : Nat} {ao : Option Addr} {cap n : Nat} {bs : List Int} {st : Nat × Int} {s : Req} {do' : Option Addr} {dn dc : Nat} {wr w' : World} (h : QS w rb ao cap n bs st s do' dn dc wr) (hg : wr.grownBy w' (some rb)) : QE w s do' dn dc w' :=
  ⟨RqB.row h.res hg (by have := h.hrb; omega), RqB.row h.non hg (by have := h.hrb; omega), RqB.row h.r hg (by have := h.hrb; omega), h.B.grown hg h.B.size (fun k hk => by cases hk; have := h.hrb; omega)⟩
theorem QE.below {w : World} {s : Req} {do' : Option Addr} {dn dc : Nat} {wr w' : World} (h : QE w s do' dn dc wr) (hb : Below wr.heap.size wr w') : QE w s do' dn dc w' :=
  ⟨RqB.below h.res hb, RqB.below h.non hb, RqB.below h.r hb, h.B.trans (hb.mono h.B.size)⟩
/-- A list of bytes does not lie in a request's box. -/
theorem Lies.apart {w : World} {ao : Option Addr} {k c q : Nat} {zs : List Int} {C : Array Value} {T : TypeId} (h : Lies w ao k c zs) (hq : w.heap[q]? = some (.cells C T (0, 0))) (hC : ∀ (o : Nat) (v : Int), C[o]? ≠ some (.int .u8 v)) : 0 < k → ∀ ad, ao = some ad → ad.block ≠ q := by
  rintro h0 ad rfl e
  have hc := h.hcells ad rfl 0 (.int .u8 (zs[0]'(by rw [h.hlen]; exact h0))) (by simp [h.hlen, h0])
  obtain ⟨b, o, sp⟩ := ad
  simp only at e
  subst e
  have hsp : sp = none := by simpa [Addr.add] using World.cell?_spot hc
  subst hsp
  rw [Addr.add_lit] at hc
  simp only [World.cell?, hq, Nat.add_zero] at hc
  exact hC _ _ hc
theorem Lies.past {w w' : World} {ao : Option Addr} {k c q : Nat} {zs : List Int} {C : Array Value} {T : TypeId} (h : Lies w ao k c zs) (hq : w.heap[q]? = some (.cells C T (0, 0))) (hC : ∀ (o : Nat) (v : Int), C[o]? ≠ some (.int .u8 v)) (hg : w.grownBy w' (some q)) : Lies w' ao k c zs := by
  by_cases h0 : 0 < k
  · exact h.grown hg (fun ad had e => h.apart hq hC h0 ad had (by simpa using e))
  · obtain rfl : k = 0 := by omega
    have : zs = [] := List.eq_nil_of_length_eq_zero h.hlen
    subst this
    exact ⟨rfl, h.hle, h.hnone, fun ad had t u hu => by simp at hu⟩
theorem rq_cells (s : Req) (ao : Option Addr) (n c : Nat) (o : Nat) (v : Int) : (#[.int .i64 s.client, .int .i64 s.seq, .int .i64 s.ack, .int .i64 s.epoch, .int .i64 s.op, .int .i64 s.id, .int .i64 s.id2, .int .i64 s.off, .int .i64 s.len, .string s.path, .string s.name, .string s.name2, .slice ao n c] : Array Value)[o]? ≠ some (.int .u8 v) := by
  intro h
  match o, h with
  | 0, h => simp at h
  | 1, h => simp at h
  | 2, h => simp at h
  | 3, h => simp at h
  | 4, h => simp at h
  | 5, h => simp at h
  | 6, h => simp at h
  | 7, h => simp at h
  | 8, h => simp at h
  | 9, h => simp at h
  | 10, h => simp at h
  | 11, h => simp at h
  | 12, h => simp at h
  | o + 13, h => simp at h
theorem Lies.rq {w : World} {ao bo : Option Addr} {k c q n d j : Nat} {zs : List Int} {s : Req} {u : Value} (h : Lies w ao k c zs) (hq : RqB w q s bo n d) : Lies (w.setCell ⟨q, j, none⟩ u) ao k c zs := h.past hq (rq_cells s bo n d) (grown_setCell _ _ _ _)
theorem Lies.rqs {w : World} {ao bo co : Option Addr} {k c q n d n2 d2 : Nat} {zs : List Int} {s r : Req} (h : Lies w ao k c zs) (hq : RqB w q s bo n d) : Lies (setRq w q r co n2 d2) ao k c zs := h.past hq (rq_cells s bo n d) (setRq_grown _ _ _ _ _ _)
theorem openE_le {mg : List Int} {n : Nat} {bs : List Int} (h : openE mg n bs = 0) (_hl : bs.length = n) : n ≤ 1400 := by
  unfold openE at h
  by_cases h1 : 1400 < n
  · rw [if_pos h1] at h; cases h
  · omega
theorem text_size {k : Nat} {cs : List Int} {p : Nat} {q M : Int} {X : List Int × Nat × Int} (h : rdText k cs p q M = X) (hc : cs.length ≤ 1400) : (txt X.1).size ≤ 1400 := by
  rw [txt_size, ← h]
  exact Nat.le_trans (rdText_len k cs p q M) hc
end Go.Proofs.YtdkcplndplhblaaGreatDoor
