/- annexref4: a list of entries, what a reply brings, CheckReply. -/
import Derived.Test.YtdkcplndplhblaaGreatDoorPk20
import Derived.Test.YtdkcplndplhblaaGreatDoorPk13
namespace Go.Proofs.YtdkcplndplhblaaGreatDoor
open Go.RowKit
set_option maxRecDepth 100000

set_option maxHeartbeats 4000000 in
theorem rentries_few (l : List Ent) (lo : Option Addr) (n lc : Nat) (w : World) (hE : CLies w lo n lc 3 (entCells l)) (hl : l.length = n) (hn : n ≤ 16) :
    Calls Tryz.prog 92 #[.slice lo n lc] w fun e w' => e = .returned (.bool (listB l)) ∧ ∃ m, w' = w.drewN m := by
  have hni : (n : Int) ≤ 16 := by omega
  go_enter Tryz.func92, Tryz.ntmps92
  go_wp2
  go_loopw [3] (fun i wr => ∃ k : Nat, k ≤ n ∧ i = .int .i64 k ∧ Hid (∀ j, j < k → okAt l j = true) ∧ ∃ m, wr = w.drewN m) (fun i _ => n - (intOf i).toNat)
  case atStart => exact ⟨0, Nat.zero_le _, rfl, (fun j h => by omega : ∀ j, j < 0 → okAt l j = true), 0, rfl⟩
  case round =>
    obtain ⟨k, hk, rfl, HO, m0, hwr⟩ := hrel
    by_cases hlt : k < n
    · have hki : decide ((k : Int) < (n : Int)) = true := by simpa using hlt
      have hkl : k < l.length := by omega
      obtain ⟨b', o', rfl, hbw, q0, q1, q2⟩ := ents_at hE hkl
      have hbad : entOk l[k] = false → listB l = false := fun h => listB_bad hkl (okAt_ent hkl h)
      have HB : Hid (entOk l[k] = false → listB l = false) := hbad
      have hprev : 0 < k → ∃ p : ByteArray, w.cell? ⟨b', o' + (k - 1) * 3, none⟩ = some (.string p) ∧ okAt l k = (entOk l[k] && !notAbove l[k].name p) := by
        intro h0
        obtain ⟨j, rfl⟩ : ∃ j, k = j + 1 := ⟨k - 1, by omega⟩
        obtain ⟨b2, o2, e2, _, p0, _, _⟩ := ents_at hE (show j < l.length by omega)
        cases e2
        exact ⟨(l[j]'(by omega)).name, p0, okAt_succ hkl⟩
      have hzero : k = 0 → okAt l k = entOk l[k] := by
        intro h0
        subst h0
        exact okAt_zero hkl
      have HZ : Hid (k = 0 → okAt l k = entOk l[k]) := hzero
      have hone : okAt l k = false → listB l = false := listB_bad hkl
      have H1 : Hid (okAt l k = false → listB l = false) := hone
      have hnext : okAt l k = true → ∀ j, j < k + 1 → okAt l j = true := fun h j hj => by
        by_cases hjk : j < k
        · exact HO.out j hjk
        · obtain rfl : j = k := by omega
          exact h
      have HN : Hid (okAt l k = true → ∀ j, j < k + 1 → okAt l j = true) := hnext
      clear hbad hzero hone hnext hE
      have hent : entOk l[k] = (nameB l[k].name && inB l[k].id 1 562949953421311 && kindB l[k].kind) := rfl
      generalize okAt l k = OK at *
      generalize l[k] = x at *
      obtain ⟨nm, id, kd⟩ := x
      simp only at q0 q1 q2 hent hprev
      have HE : Hid (entOk ⟨nm, id, kd⟩ = (nameB nm && inB id 1 562949953421311 && kindB kd)) := hent
      clear hent
      have HP : Hid (0 < k → ∃ p : ByteArray, w.cell? ⟨b', o' + (k - 1) * 3, none⟩ = some (.string p) ∧ OK = (entOk ⟨nm, id, kd⟩ && !notAbove nm p)) := hprev
      clear hprev
      subst hwr
      have hkd := inB_kind kd
      cases h1 : nameB nm
      · go_wp2_with (go_at_call 86; refine (rname_any nm _).mono ?_; rintro e w1 ⟨rfl, hw1⟩; subst w1; rw [h1])
        go_ret
        have := HE.out; rw [h1] at this
        rw [HB.out this]
        exact ⟨rfl, m0, rfl⟩
      have hsz := nameB_size h1
      cases h2 : inB id 1 562949953421311
      · go_wp2_with (first
          | (go_at_call 86; refine (rname_any nm _).mono ?_; rintro e w1 ⟨rfl, hw1⟩; subst w1; rw [h1])
          | (go_at_call 84; refine (rwithin_any _ _ _ _).mono ?_; rintro e w1 ⟨rfl, hw1⟩; subst w1; first | rw [h2] | rw [hkd]))
        go_ret
        have := HE.out; rw [h1, h2] at this
        rw [HB.out this]
        exact ⟨rfl, m0, rfl⟩
      cases h3 : kindB kd
      · go_wp2_with (first
          | (go_at_call 86; refine (rname_any nm _).mono ?_; rintro e w1 ⟨rfl, hw1⟩; subst w1; rw [h1])
          | (go_at_call 84; refine (rwithin_any _ _ _ _).mono ?_; rintro e w1 ⟨rfl, hw1⟩; subst w1; first | rw [h2] | rw [hkd, h3]))
        go_ret
        have := HE.out; rw [h1, h2, h3] at this
        rw [HB.out this]
        exact ⟨rfl, m0, rfl⟩
      have hall := HE.out
      rw [h1, h2, h3] at hall
      have hall : entOk ⟨nm, id, kd⟩ = true := hall
      have HA : Hid (entOk ⟨nm, id, kd⟩ = true) := hall
      clear hall
      by_cases h0 : 0 < k
      · obtain ⟨p, hp, hok⟩ := HP.out h0
        have h0i : decide ((0 : Int) < (k : Int)) = true := by simpa using h0
        have HK : Hid (OK = (entOk ⟨nm, id, kd⟩ && !notAbove nm p)) := hok
        clear hok HP
        go_wp2_with (first
          | (go_at_call 86; refine (rname_any nm _).mono ?_; rintro e w1 ⟨rfl, hw1⟩; subst w1; rw [h1])
          | (go_at_call 84; refine (rwithin_any _ _ _ _).mono ?_; rintro e w1 ⟨rfl, hw1⟩; subst w1; first | rw [h2] | rw [hkd, h3]))
        have hw1 : IntKind.i64.wrap ((k : Int) - 1) = (k : Int) - 1 := by rw [IntKind.wrap_i64]; omega
        have hw2 : ((k : Int) - 1).toNat = k - 1 := by omega
        have hw3 : (0 : Int) ≤ (k : Int) - 1 := by omega
        have hw4 : (k : Int) - 1 < n := by omega
        have hw5 : (1 : Int) ≤ (k : Int) := by omega
        have hw6 : (k : Int) ≤ (n : Int) := by omega
        go_region_held3 (fun w' => w'.cell? ⟨b', o' + k * 3, none⟩ = some (.string nm) ∧ w'.cell? ⟨b', o' + (k - 1) * 3, none⟩ = some (.string p))
          (exact ⟨q0, hp⟩)
          (first | (go_at_call 120; refine (rabove_any _ _ _ (by omega)).mono ?_; rintro e w2 ⟨rfl, m2, rfl⟩; rw [abL_not]))
        cases hA : notAbove nm p
        · have hok : OK = true := by rw [HK.out, HA.out, hA]; rfl
          have HX : Hid (∀ j, j < k + 1 → okAt l j = true) := HN.out hok
          clear hok
          go_wp2
          go_roundw
          case rel => exact ⟨k + 1, by omega, by go_num, HX, _, rfl⟩
          case measure => simp [intOf]; omega
        · have hok : OK = false := by rw [HK.out, HA.out, hA]; rfl
          have hX := H1.out hok
          clear hok
          go_wp2
          go_ret
          exact ⟨by rw [hX]; rfl, _, rfl⟩
      · have h0i : decide ((0 : Int) < (k : Int)) = false := by simp; omega
        have hok : OK = true := by rw [HZ.out (by omega)]; exact HA.out
        have HX : Hid (∀ j, j < k + 1 → okAt l j = true) := HN.out hok
        clear hok
        go_wp2_with (first
          | (go_at_call 86; refine (rname_any nm _).mono ?_; rintro e w1 ⟨rfl, hw1⟩; subst w1; rw [h1])
          | (go_at_call 84; refine (rwithin_any _ _ _ _).mono ?_; rintro e w1 ⟨rfl, hw1⟩; subst w1; first | rw [h2] | rw [hkd, h3]))
        go_quiet (fail)
        go_wp2
        go_roundw
        case rel => exact ⟨k + 1, by omega, by go_num, HX, m0 + nq, by first | rfl | simp⟩
        case measure => simp [intOf]; omega
    · clear hE
      have hki : decide ((k : Int) < (n : Int)) = false := by simp; omega
      go_wp2
      go_ret
      have hX : listB l = true := by
        have h2 := HO.out
        obtain rfl : k = n := by omega
        simp [listB]
        exact ⟨by omega, fun j hj => h2 j (by omega)⟩
      exact ⟨by rw [hX]; rfl, m0, rfl⟩
end Go.Proofs.YtdkcplndplhblaaGreatDoor

/- annexref4: gives, brought, CheckReply, of any reply. -/
namespace Go.Proofs.YtdkcplndplhblaaGreatDoor
open Go.RowKit
set_option maxRecDepth 100000

theorem rentries_any (l : List Ent) (lo : Option Addr) (n lc : Nat) (w : World) (hE : CLies w lo n lc 3 (entCells l)) (hl : l.length = n) :
    Calls Tryz.prog 92 #[.slice lo n lc] w fun e w' => e = .returned (.bool (listB l)) ∧ ∃ m, w' = w.drewN m := by
  by_cases hn : n ≤ 16
  · exact rentries_few l lo n lc w hE hl hn
  · have hX : listB l = false := by
      have : ¬ l.length ≤ 16 := by omega
      simp [listB, this]
    have hni : decide (16 < (n : Int)) = true := by simp; omega
    rw [hX]
    clear hl hE hX
    go_enter Tryz.func92, Tryz.ntmps92
    go_wp2
    go_ret
    exact ⟨rfl, 0, rfl⟩

theorem rentries_is {l : List Ent} {b : Bool} (h : listB l = b) (lo : Option Addr) (n lc : Nat) (w : World) (hE : CLies w lo n lc 3 (entCells l)) (hl : l.length = n) :
    Calls Tryz.prog 92 #[.slice lo n lc] w fun e w' => e = .returned (.bool b) ∧ ∃ m, w' = w.drewN m := by
  rw [← h]; exact rentries_any l lo n lc w hE hl

/-- The letters of a reply's fields. -/
def glets (op st : Int) : ByteArray := if st = 0 then (if op = 1 ∨ op = 2 ∨ op = 4 ∨ op = 5 ∨ op = 7 then ⟨#[97]⟩ else if op = 3 then ⟨#[97, 100]⟩ else if op = 10 then ⟨#[116]⟩ else ⟨#[]⟩) else ⟨#[]⟩
set_option maxHeartbeats 1000000 in
theorem rgives_any (cl sq ep op st ai ak az ac : Int) (ao : Option Addr) (n c : Nat) (lo : Option Addr) (ln lc : Nat) (mr : Bool) (w : World) :
    Calls Tryz.prog 73 #[.agg #[.int .i64 cl, .int .i64 sq, .int .i64 ep, .int .i64 op, .int .i64 st, .int .i64 ai, .int .i64 ak, .int .i64 az, .int .i64 ac, .slice ao n c, .slice lo ln lc, .bool mr]] w fun e w' => e = .returned (.string (glets op st)) ∧ Below w.heap.size w w' := by
  go_enter Tryz.func73, Tryz.ntmps73
  go_wp2_with (go_at_call 76; refine (rnum_id _ _).mono ?_; rintro e w1 ⟨rfl, hw1⟩; subst w1)
  all_goals go_ret
  all_goals refine ⟨?_, newBox _ _⟩
  all_goals simp_all [glets]
theorem rgives_is {op st : Int} {s : ByteArray} (h : glets op st = s) (cl sq ep ai ak az ac : Int) (ao : Option Addr) (n c : Nat) (lo : Option Addr) (ln lc : Nat) (mr : Bool) (w : World) :
    Calls Tryz.prog 73 #[.agg #[.int .i64 cl, .int .i64 sq, .int .i64 ep, .int .i64 op, .int .i64 st, .int .i64 ai, .int .i64 ak, .int .i64 az, .int .i64 ac, .slice ao n c, .slice lo ln lc, .bool mr]] w fun e w' => e = .returned (.string s) ∧ Below w.heap.size w w' := by
  rw [← h]; exact rgives_any cl sq ep op st ai ak az ac ao n c lo ln lc mr w
theorem rp_later {w w' : World} {B Bd : Nat} {cl sq ep op st ai ak az ac : Int} {dt : List Int} {ls : List Ent} {mr : Bool} {ao : Option Addr} {n c : Nat} {lo : Option Addr} {ln lc : Nat} (h : RpBox w B ⟨cl, sq, ep, op, st, ai, ak, az, ac, dt, ls, mr⟩ ao n c lo ln lc) (hb : Below Bd w w') (hB : w.heap.size ≤ Bd) :
    RpBox w' B ⟨cl, sq, ep, op, st, ai, ak, az, ac, dt, ls, mr⟩ ao n c lo ln lc := RpBox.later h hb hB
end Go.Proofs.YtdkcplndplhblaaGreatDoor

/- annexref4.brought, where the letters are of one kind. -/
namespace Go.Proofs.YtdkcplndplhblaaGreatDoor
open Go.RowKit
set_option maxRecDepth 100000

set_option maxHeartbeats 4000000 in
theorem rbrought_e (cl sq ep op st ai ak az ac : Int) (data : List Int) (list : List Ent) (mr : Bool) (ao : Option Addr) (n c : Nat) (lo : Option Addr) (ln lc : Nat) (w : World) (hn : data.length = n) (hel : list.length = ln) (hg : glets op st = ⟨#[]⟩) (hh : hasRp op st = []) :
    Calls Tryz.prog 46 #[rpV ⟨cl, sq, ep, op, st, ai, ak, az, ac, data, list, mr⟩ ao n c lo ln lc] w fun e w' => e = .returned (.int .i64 (rpBodyE ⟨cl, sq, ep, op, st, ai, ak, az, ac, data, list, mr⟩)) ∧ Below w.heap.size w w' := by
  have hB0 := RpBox.new w ⟨cl, sq, ep, op, st, ai, ak, az, ac, data, list, mr⟩ ao n c lo ln lc
  have hb0 := newBox w (.cells #[.int .i64 cl, .int .i64 sq, .int .i64 ep, .int .i64 op, .int .i64 st, .int .i64 ai, .int .i64 ak, .int .i64 az, .int .i64 ac, .slice ao n c, .slice lo ln lc, .bool mr] 30)
  have dla : decide ((97 : Int) ∈ nums ⟨#[]⟩) = false := by decide
  have dld : decide ((100 : Int) ∈ nums ⟨#[]⟩) = false := by decide
  have dlt : decide ((116 : Int) ∈ nums ⟨#[]⟩) = false := by decide
  have HH : Hid (hasRp op st = []) := hh
  have HL : Hid (list.length = ln) := hel
  have HG : Hid (glets op st = ⟨#[]⟩) := hg
  clear hh hel hg
  cases mr
  all_goals
    go_enter Tryz.func46, Tryz.ntmps46
    go_wp2_with fail
    refine (rgives_is HG.out cl sq ep ai ak az ac ao n c lo _ lc _ _).mono ?_
    rintro e w1 ⟨rfl, hb1⟩
    have hB1 := rp_later hB0 hb1 (Nat.le_refl _)
    have hq1 : Below w.heap.size w w1 := hb0.trans (hb1.mono (by simp))
    have hB1' := hB1
    obtain ⟨b0, b1, b2, b3, b4, b5, b6, b7, b8, b9, b10, b11⟩ := hB1'
    clear hB0 hb1 hb0
    go_wp2_with fail
    clear b0 b1 b2 b3 b4 b5 b6 b7 b8 b9 b10 b11
    refine (sameAttr_any ai ak az ac 0 0 0 0 _).mono ?_
    rintro e w2 ⟨rfl, hb2⟩
    have hB2 := rp_later hB1 hb2 (Nat.le_refl _)
    have hq2 := hq1.trans (hb2.mono hq1.size)
    clear hB1 hb2 hq1
    obtain ⟨b0, b1, b2, b3, b4, b5, b6, b7, b8, b9, b10, b11⟩ := hB2
    go_wp2_with (go_at_call 68; refine (rin_any _ _ _ (by decide)).mono ?_; rintro e wn ⟨rfl, hwn⟩; subst wn; simp only [dla, dld, dlt])
    all_goals go_ret
    all_goals refine ⟨?_, hq2⟩
    all_goals clear b0 b1 b2 b3 b4 b5 b6 b7 b8 b9 b10 b11 hq2 dla dld dlt
    all_goals (have h1 := HH.out; have h2 := HL.out; clear HH HL HG; simp_all [rpBodyE, judgeE, rpAny, fieldB, zeroB])
end Go.Proofs.YtdkcplndplhblaaGreatDoor

/- annexref4.brought, where the letters are of one kind. -/
namespace Go.Proofs.YtdkcplndplhblaaGreatDoor
open Go.RowKit
set_option maxRecDepth 100000

set_option maxHeartbeats 4000000 in
theorem rbrought_a (cl sq ep op st ai ak az ac : Int) (data : List Int) (list : List Ent) (mr : Bool) (ao : Option Addr) (n c : Nat) (lo : Option Addr) (ln lc : Nat) (w : World) (hn : data.length = n) (hel : list.length = ln) (hg : glets op st = ⟨#[97]⟩) (hh : hasRp op st = [13]) :
    Calls Tryz.prog 46 #[rpV ⟨cl, sq, ep, op, st, ai, ak, az, ac, data, list, mr⟩ ao n c lo ln lc] w fun e w' => e = .returned (.int .i64 (rpBodyE ⟨cl, sq, ep, op, st, ai, ak, az, ac, data, list, mr⟩)) ∧ Below w.heap.size w w' := by
  have hB0 := RpBox.new w ⟨cl, sq, ep, op, st, ai, ak, az, ac, data, list, mr⟩ ao n c lo ln lc
  have hb0 := newBox w (.cells #[.int .i64 cl, .int .i64 sq, .int .i64 ep, .int .i64 op, .int .i64 st, .int .i64 ai, .int .i64 ak, .int .i64 az, .int .i64 ac, .slice ao n c, .slice lo ln lc, .bool mr] 30)
  have dla : decide ((97 : Int) ∈ nums ⟨#[97]⟩) = true := by decide
  have dld : decide ((100 : Int) ∈ nums ⟨#[97]⟩) = false := by decide
  have dlt : decide ((116 : Int) ∈ nums ⟨#[97]⟩) = false := by decide
  have HH : Hid (hasRp op st = [13]) := hh
  have HL : Hid (list.length = ln) := hel
  have HG : Hid (glets op st = ⟨#[97]⟩) := hg
  clear hh hel hg
  cases mr
  all_goals
    go_enter Tryz.func46, Tryz.ntmps46
    go_wp2_with fail
    refine (rgives_is HG.out cl sq ep ai ak az ac ao n c lo _ lc _ _).mono ?_
    rintro e w1 ⟨rfl, hb1⟩
    have hB1 := rp_later hB0 hb1 (Nat.le_refl _)
    have hq1 : Below w.heap.size w w1 := hb0.trans (hb1.mono (by simp))
    have hB1' := hB1
    obtain ⟨b0, b1, b2, b3, b4, b5, b6, b7, b8, b9, b10, b11⟩ := hB1'
    clear hB0 hb1 hb0
    go_wp2_with fail
    clear b0 b1 b2 b3 b4 b5 b6 b7 b8 b9 b10 b11
    refine (sameAttr_any ai ak az ac 0 0 0 0 _).mono ?_
    rintro e w2 ⟨rfl, hb2⟩
    have hB2 := rp_later hB1 hb2 (Nat.le_refl _)
    have hq2 := hq1.trans (hb2.mono hq1.size)
    clear hB1 hb2 hq1
    have hB2' := hB2
    obtain ⟨b0, b1, b2, b3, b4, b5, b6, b7, b8, b9, b10, b11⟩ := hB2'
    go_wp2_with (go_at_call 68; refine (rin_any _ _ _ (by decide)).mono ?_; rintro e wn ⟨rfl, hwn⟩; subst wn; simp only [dla])
    clear b0 b1 b2 b3 b4 b5 b6 b7 b8 b9 b10 b11
    refine (rattr_any op ai ak az ac _).mono ?_
    rintro e w3 ⟨rfl, hb3⟩
    have hB3 := rp_later hB2 hb3 (Nat.le_refl _)
    have hq3 := hq2.trans (hb3.mono hq2.size)
    clear hB2 hb3 hq2
    obtain ⟨b0, b1, b2, b3, b4, b5, b6, b7, b8, b9, b10, b11⟩ := hB3
    go_wp2_with (go_at_call 68; refine (rin_any _ _ _ (by decide)).mono ?_; rintro e wn ⟨rfl, hwn⟩; subst wn; simp only [dld, dlt])
    all_goals go_ret
    all_goals refine ⟨?_, hq3⟩
    all_goals clear b0 b1 b2 b3 b4 b5 b6 b7 b8 b9 b10 b11 hq3 dla dld dlt
    all_goals (have h1 := HH.out; have h2 := HL.out; clear HH HL HG; simp_all [rpBodyE, judgeE, rpAny, fieldB, mayB, zeroB])
end Go.Proofs.YtdkcplndplhblaaGreatDoor

/- annexref4.brought, where the letters are of one kind. -/
namespace Go.Proofs.YtdkcplndplhblaaGreatDoor
open Go.RowKit
set_option maxRecDepth 100000

set_option maxHeartbeats 4000000 in
theorem rbrought_d (cl sq ep st ai ak az ac : Int) (data : List Int) (list : List Ent) (mr : Bool) (ao : Option Addr) (n c : Nat) (lo : Option Addr) (ln lc : Nat) (w : World) (hn : data.length = n) (hel : list.length = ln) (hg : glets 3 st = ⟨#[97, 100]⟩) (hh : hasRp 3 st = [13, 14]) :
    Calls Tryz.prog 46 #[rpV ⟨cl, sq, ep, 3, st, ai, ak, az, ac, data, list, mr⟩ ao n c lo ln lc] w fun e w' => e = .returned (.int .i64 (rpBodyE ⟨cl, sq, ep, 3, st, ai, ak, az, ac, data, list, mr⟩)) ∧ Below w.heap.size w w' := by
  have hB0 := RpBox.new w ⟨cl, sq, ep, 3, st, ai, ak, az, ac, data, list, mr⟩ ao n c lo ln lc
  have hb0 := newBox w (.cells #[.int .i64 cl, .int .i64 sq, .int .i64 ep, .int .i64 3, .int .i64 st, .int .i64 ai, .int .i64 ak, .int .i64 az, .int .i64 ac, .slice ao n c, .slice lo ln lc, .bool mr] 30)
  have dla : decide ((97 : Int) ∈ nums ⟨#[97, 100]⟩) = true := by decide
  have dld : decide ((100 : Int) ∈ nums ⟨#[97, 100]⟩) = true := by decide
  have dlt : decide ((116 : Int) ∈ nums ⟨#[97, 100]⟩) = false := by decide
  have HH : Hid (hasRp 3 st = [13, 14]) := hh
  have HL : Hid (list.length = ln) := hel
  have HG : Hid (glets 3 st = ⟨#[97, 100]⟩) := hg
  clear hh hel hg
  cases mr
  all_goals
    go_enter Tryz.func46, Tryz.ntmps46
    go_wp2_with fail
    refine (rgives_is HG.out cl sq ep ai ak az ac ao n c lo _ lc _ _).mono ?_
    rintro e w1 ⟨rfl, hb1⟩
    have hB1 := rp_later hB0 hb1 (Nat.le_refl _)
    have hq1 : Below w.heap.size w w1 := hb0.trans (hb1.mono (by simp))
    have hB1' := hB1
    obtain ⟨b0, b1, b2, b3, b4, b5, b6, b7, b8, b9, b10, b11⟩ := hB1'
    clear hB0 hb1 hb0
    go_wp2_with fail
    clear b0 b1 b2 b3 b4 b5 b6 b7 b8 b9 b10 b11
    refine (sameAttr_any ai ak az ac 0 0 0 0 _).mono ?_
    rintro e w2 ⟨rfl, hb2⟩
    have hB2 := rp_later hB1 hb2 (Nat.le_refl _)
    have hq2 := hq1.trans (hb2.mono hq1.size)
    clear hB1 hb2 hq1
    have hB2' := hB2
    obtain ⟨b0, b1, b2, b3, b4, b5, b6, b7, b8, b9, b10, b11⟩ := hB2'
    go_wp2_with (go_at_call 68; refine (rin_any _ _ _ (by decide)).mono ?_; rintro e wn ⟨rfl, hwn⟩; subst wn; simp only [dla])
    clear b0 b1 b2 b3 b4 b5 b6 b7 b8 b9 b10 b11
    refine (rattr_any 3 ai ak az ac _).mono ?_
    rintro e w3 ⟨rfl, hb3⟩
    have hB3 := rp_later hB2 hb3 (Nat.le_refl _)
    have hq3 := hq2.trans (hb3.mono hq2.size)
    clear hB2 hb3 hq2
    obtain ⟨b0, b1, b2, b3, b4, b5, b6, b7, b8, b9, b10, b11⟩ := hB3
    go_wp2_with (go_at_call 68; refine (rin_any _ _ _ (by decide)).mono ?_; rintro e wn ⟨rfl, hwn⟩; subst wn; simp only [dld, dlt])
    all_goals go_ret
    all_goals refine ⟨?_, hq3⟩
    all_goals clear b0 b1 b2 b3 b4 b5 b6 b7 b8 b9 b10 b11 hq3 dla dld dlt
    all_goals (have h1 := HH.out; have h2 := HL.out; clear HH HL HG; simp_all [rpBodyE, judgeE, rpAny, fieldB, mayB, zeroB] <;> omega)
end Go.Proofs.YtdkcplndplhblaaGreatDoor
