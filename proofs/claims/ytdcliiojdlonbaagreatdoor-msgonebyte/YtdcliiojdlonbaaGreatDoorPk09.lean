/- encode by its contract. -/
import Derived.Test.YtdcliiojdlonbaaGreatDoorPk08
import Derived.Test.YtdcliiojdlonbaaGreatDoorPk01
import Derived.Deep.Slices
import Derived.Test.YtdcliiojdlonbaaGreatDoorPk03
import Derived.BigQuiet
import Derived.Deep.QuietTactic
namespace Go.Proofs.YtdcliiojdlonbaaGreatDoor
open Go.RowKit
set_option maxRecDepth 100000

/-- The sum of bytes. -/
def sumOf (l : List Int) : Int := S2.fwd 14695981039346656037 l
theorem sumOf_bd (l : List Int) : 0 ≤ sumOf l ∧ sumOf l ≤ 18446744073709551615 := S2.U.fwd l (by decide)
abbrev Bys (l : List Int) : Prop := ∀ x ∈ l, 0 ≤ x ∧ x ≤ 255
theorem Bys.app {a b : List Int} (ha : Bys a) (hb : Bys b) : Bys (a ++ b) := fun x hx => by
  rcases List.mem_append.1 hx with h | h
  · exact ha x h
  · exact hb x h
theorem be_bys (X : Int) : ∀ k, Bys (be X k)
  | 0 => fun x hx => by cases hx
  | k + 1 => fun x hx => by
    rcases List.mem_cons.1 hx with rfl | h
    · exact ⟨by omega, by omega⟩
    · exact be_bys X k x h
theorem nums_bys (s : ByteArray) : Bys (nums s) := fun x hx => by
  simp only [nums, List.mem_map] at hx
  obtain ⟨b, _, rfl⟩ := hx
  have := b.toNat_lt
  omega
theorem zeros_bys (k : Nat) : Bys (List.replicate k 0) := fun x hx => by
  rw [List.eq_of_mem_replicate hx]; decide
theorem txB_bys (s : ByteArray) : Bys (txB s) := ((be_bys _ _).app (nums_bys s)).app (zeros_bys _)
theorem dtB_bys {d : List Int} (h : Bys d) : Bys (dtB d) := ((be_bys _ _).app h).app (zeros_bys _)
/-- Bytes stand in a field as bytes. -/
def VBy : Val → Prop
  | .content d => Bys d
  | _ => True
theorem flat_bys {α : Type} (f : α → List Int) : ∀ (l : List α), (∀ x ∈ l, Bys (f x)) → Bys (l.flatMap f)
  | [], _ => fun x hx => by simp at hx
  | a :: l, h => by
    rw [List.flatMap_cons]
    exact (h a (by simp)).app (flat_bys f l (fun x hx => h x (by simp [hx])))
theorem putV_bys {x : Val} (h : VBy x) : Bys (putV x) := by
  cases x with
  | small x => exact be_bys _ _
  | great x => exact be_bys _ _
  | flag b => exact be_bys _ _
  | path s => exact txB_bys s
  | name s => exact txB_bys s
  | content d => exact dtB_bys h
  | attr i k z c => exact (((be_bys _ _).app (be_bys _ _)).app (be_bys _ _)).app (be_bys _ _)
  | entries l => exact (be_bys _ _).app (flat_bys _ _ fun e _ => ((txB_bys _).app (be_bys _ _)).app (be_bys _ _))
theorem putAll_bys {gs : List (Int × Val)} (h : ∀ g ∈ gs, VBy g.2) : Bys (putAll gs) := flat_bys _ _ fun g hg => putV_bys (h g hg)
theorem putV_len {x : Val} (h : Small x) : (putV x).length ≤ 20000 := by
  cases x with
  | small x => simp [putV, be_length]
  | great x => simp [putV, be_length]
  | flag b => simp [putV, be_length]
  | path s => have h1 := txB_length s; have h2 := padN_le s.size; have h3 : s.size ≤ 1000 := h; simp only [putV]; omega
  | name s => have h1 := txB_length s; have h2 := padN_le s.size; have h3 : s.size ≤ 1000 := h; simp only [putV]; omega
  | content d => have h1 := dtB_length d; have h2 := padN_le d.length; have h3 : d.length ≤ 2000 := h; simp only [putV]; omega
  | attr i k z c => simp [putV, be_length]
  | entries l =>
    obtain ⟨h1, h2⟩ : l.length ≤ 16 ∧ ∀ e ∈ l, e.name.size ≤ 1000 := h
    have h3 := flat_len l 1100 (fun e he => by have h5 := txB_length e.name; have h6 := padN_le e.name.size; have h7 := h2 e he; simp [entB, be_length]; omega)
    simp only [putV, List.length_append, be_length]
    omega
theorem putAll_len {gs : List (Int × Val)} (h : ∀ g ∈ gs, Small g.2) : (putAll gs).length ≤ gs.length * 20000 := by
  induction gs with
  | nil => simp [putAll]
  | cons g gs ih =>
    have h1 := putV_len (h g (by simp))
    have h2 := ih (fun x hx => h x (by simp [hx]))
    simp only [putAll, List.flatMap_cons, List.length_append, List.length_cons, Nat.add_mul] at *
    omega

/-- A new list of these bytes, all of it the call's own. -/
def Got (w : World) (e : Ending) (w' : World) (X : List Int) : Prop :=
  ∃ g n cap, e = .returned (.slice (some ⟨g, 0, none⟩) n cap) ∧ w'.ownsRow w.heap.size 5 1 (.slice (some ⟨g, 0, none⟩) n cap) n (X.map (Value.int .u8)) ∧ Below w.heap.size w w'
/-- A datagram of these bytes. -/
def closeB (X : List Int) : List Int := X ++ be (sumOf X) 8

set_option maxHeartbeats 1000000 in
theorem encode_any (s : ByteArray) (hd bd : List (Int × Val)) (h1 : Option Addr) (n1 c1 : Nat) (h2 : Option Addr) (n2 c2 : Nat) (w : World) (hs : s.size ≤ 4) (hl1 : (putAll hd).length ≤ 100)
    (hF1 : FLies w h1 n1 c1 hd) (hF2 : FLies w h2 n2 c2 bd) (hn1 : n1 ≤ 5) (hn2 : n2 ≤ 8) (hS1 : ∀ g ∈ hd, Small g.2) (hS2 : ∀ g ∈ bd, Small g.2) (hB1 : ∀ g ∈ hd, VBy g.2) (hB2 : ∀ g ∈ bd, VBy g.2) :
    Calls Tryz.prog 33 #[.string s, .slice h1 n1 c1, .slice h2 n2 c2] w fun e w' => Got w e w' (closeB (nums s ++ putAll hd ++ putAll bd)) := by
  have hcv := Lib.run_convert_string_bytes (P := Tryz.prog) w 9 22 5 s Tryz.underlying9 Tryz.underlying22 Tryz.underlying5
  have hb0 := bytesWorld_below w s
  go_enter Tryz.func33, Tryz.ntmps33
  go_wp2_with fail
  refine (putAll_any hd h1 n1 c1 _ _ _ (nums s) _ (by omega) (bytesWorld_lies w s) (hF1.below hb0 (Nat.le_refl _)) (by omega) hS1).mono ?_
  rintro e w1 ⟨a1, m1, k1, rfl, hL1, hq1⟩
  have hq1 := hb0.trans (hq1.mono hb0.size)
  have l1 : m1 ≤ 104 := by have h := hL1.hlen; have h4 := nums_length s; have h5 := hF1.hlen; simp at h; omega
  go_wp2_with fail
  refine (putAll_any bd h2 n2 c2 _ _ _ _ _ (by omega) hL1 (hF2.below hq1 (Nat.le_refl _)) (by omega) hS2).mono ?_
  rintro e w2 ⟨a2, m2, k2, rfl, hL2, hq2⟩
  have hq2 := hq1.trans (hq2.mono hq1.size)
  have l2 : m2 ≤ 104 + 8 * 20000 := by have h := hL2.hlen; have h4 := nums_length s; have h5 := hF1.hlen; have h6 := putAll_len hS2; have h7 := hF2.hlen; simp at h; omega
  have hby : Bys (nums s ++ putAll hd ++ putAll bd) := ((nums_bys s).app (putAll_bys hB1)).app (putAll_bys hB2)
  generalize hX : nums s ++ putAll hd ++ putAll bd = X at *
  have HX : Hid (nums s ++ putAll hd ++ putAll bd = X) := hX
  clear hX
  have hsm := sumOf_bd X
  go_wp2_with fail
  refine (S2.sum_any _ _ _ X _ (by omega) hL2 hby).mono ?_
  rintro e w3 ⟨rfl, hw3⟩
  subst w3
  have hP := putSum_any a2 m2 k2 (sumOf X) X w2 hsm.1 hsm.2 (by omega) hL2
  go_wp2_with fail
  refine hP.mono ?_
  rintro e w4 ⟨g4, k4, rfl, ho4, hb4⟩
  have hq4 := hq2.trans (hb4.mono hq2.size)
  have ho5 := ownsRow_mono ho4 hq2.size
  clear hP ho4
  go_wp2
  go_ret
  refine ⟨g4, _, k4, rfl, ?_, hq4⟩
  have := HX.out
  rw [this]
  exact ho5
end Go.Proofs.YtdcliiojdlonbaaGreatDoor

/- EncodeRequest and EncodeReply by their contracts. -/
namespace Go.Proofs.YtdcliiojdlonbaaGreatDoor
open Go.RowKit
set_option maxRecDepth 100000

theorem pick_mem {l : List Int} {gs : List (Int × Val)} {g : Int × Val} (h : g ∈ pick l gs) : g ∈ gs ∧ g.1 ∈ l := by
  simpa [pick] using h
theorem pick_len (l : List Int) (gs : List (Int × Val)) : (pick l gs).length ≤ gs.length := List.length_filter_le _ _
theorem name_small {s : ByteArray} (h : nameB s = true) : s.size ≤ 23 := by
  have := (N3.okName_len h).2; rw [N3.size_bs]; exact this
theorem may_small {op no : Int} {x : Val} (h : mayB op no x = true) : Small x := by
  cases x with
  | path s =>
    have h1 : N3.splitE (N3.bs s) = 0 := by simpa [mayB] using h
    obtain ⟨h2, h3⟩ := N3.path_split h1
    have h4 := N3.pathT_len h2
    rw [h3] at h4
    show s.size ≤ 1000
    rw [N3.size_bs]; omega
  | name s =>
    show s.size ≤ 1000
    simp only [mayB, Bool.or_eq_true, Bool.and_eq_true, decide_eq_true_eq] at h
    rcases h with h | h
    · omega
    · have := name_small h; omega
  | content d =>
    show d.length ≤ 2000
    simp only [mayB, Bool.and_eq_true, decide_eq_true_eq] at h
    omega
  | entries l =>
    show l.length ≤ 16 ∧ _
    simp only [mayB, listB, Bool.and_eq_true, decide_eq_true_eq] at h
    refine ⟨h.1, fun e he => ?_⟩
    obtain ⟨k, hk, rfl⟩ := List.getElem_of_mem he
    have h2 := h.2 k hk
    have h3 : entOk l[k] = true := by
      cases h4 : entOk l[k]
      · rw [okAt_ent hk h4] at h2; cases h2
      · rfl
    simp only [entOk, Bool.and_eq_true] at h3
    have := name_small h3.1.1
    omega
  | _ => trivial
theorem judge_small {op : Int} {l : List Int} {gs : List (Int × Val)} (h : judgeE op l gs = 0) : ∀ g ∈ pick l gs, Small g.2 := by
  intro g hg
  obtain ⟨h1, h2⟩ := pick_mem hg
  have h3 : gs.all (fieldB op l) = true := by
    unfold judgeE at h
    by_cases hx : gs.all (fieldB op l) = true
    · exact hx
    · rw [if_neg hx] at h; cases h
  have h4 := List.all_eq_true.1 h3 g h1
  unfold fieldB at h4
  rw [if_pos h2] at h4
  exact may_small h4

/-- The bytes of a request's datagram. -/
def rqB (r : Req) : List Int := closeB (nums ⟨#[65, 78, 81, 49]⟩ ++ putAll (rqHead r) ++ putAll (pick (hasRq r.op) (rqAny r)))
def rpB (r : Rep) : List Int := closeB (nums ⟨#[65, 78, 82, 49]⟩ ++ putAll (rpHead r) ++ putAll (pick (hasRp r.op r.status) (rpAny r)))
/-- What an Encode leaves: nothing and the error, or a new datagram. -/
def EncR (w : World) (e : Ending) (w' : World) (E : Int) (X : List Int) : Prop :=
  (E ≠ 0 ∧ e = .returned (.tuple #[.slice none 0 0, .int .i64 E]) ∧ Below w.heap.size w w') ∨
  (E = 0 ∧ ∃ g n cap, e = .returned (.tuple #[.slice (some ⟨g, 0, none⟩) n cap, .int .i64 0]) ∧ w'.ownsRow w.heap.size 5 1 (.slice (some ⟨g, 0, none⟩) n cap) n (X.map (Value.int .u8)) ∧ Below w.heap.size w w')

theorem rqE_zero {r : Req} (h : rqE r = 0) : judgeE r.op (hasRq r.op) (rqAny r) = 0 := by
  unfold rqE at h
  by_cases h1 : rqHeadE r = 0
  · rw [if_pos h1] at h; exact h
  · rw [if_neg h1] at h; exact absurd h h1
theorem requestHead_bys (r : Req) : (∀ g ∈ rqHead r, VBy g.2) ∧ (∀ g ∈ rqHead r, Small g.2) ∧ (putAll (rqHead r)).length ≤ 100 := by
  refine ⟨?_, ?_, ?_⟩
  · intro g hg; simp only [rqHead, List.mem_cons, List.not_mem_nil, or_false] at hg; rcases hg with rfl | rfl | rfl | rfl | rfl <;> trivial
  · intro g hg; simp only [rqHead, List.mem_cons, List.not_mem_nil, or_false] at hg; rcases hg with rfl | rfl | rfl | rfl | rfl <;> trivial
  · simp [rqHead, putAll, putV, be_length]
theorem requestBody_bys (r : Req) (h : Bys r.data) : ∀ g ∈ rqAny r, VBy g.2 := by
  intro g hg
  simp only [rqAny, List.mem_cons, List.not_mem_nil, or_false] at hg
  rcases hg with rfl | rfl | rfl | rfl | rfl | rfl | rfl | rfl <;> first | trivial | exact h

set_option maxHeartbeats 4000000 in
theorem EncodeRequest_any (r : Req) (ao : Option Addr) (n c : Nat) (w : World) (hD : Lies w ao n c r.data) (hp : r.path.size ≤ 281474976710656) (hby : Bys r.data) :
    Calls Tryz.prog 10 #[rqV r ao n c] w fun e w' => EncR w e w' (rqE r) (rqB r) := by
  have hB0 := RqBox.new w r ao n c
  by_cases h0 : rqE r = 0
  · have hj := rqE_zero h0
    have hsm := judge_small hj
    have hvb : ∀ g ∈ pick (hasRq r.op) (rqAny r), VBy g.2 := fun g hg => requestBody_bys r hby g (pick_mem hg).1
    obtain ⟨hh1, hh2, hh3⟩ := requestHead_bys r
    have H0 : Hid (rqE r = 0) := h0
    go_enter Tryz.func10, Tryz.ntmps10
    go_wp2_with fail
    refine (checkRequest_any r ao n c _ (hD.boxed _) hp).mono ?_
    rintro e w1 ⟨rfl, hb1⟩
    rw [h0]
    clear h0 hj
    have hB1 := RqBox.later hB0 hb1 (Nat.le_refl _)
    have hq1 : Below w.heap.size w w1 := (newBox w _).trans (hb1.mono (by simp))
    clear hB0 hb1
    go_wp2_with fail
    replace hB1 : RqBox w1.drew w.heap.size r ao n c := hB1
    replace hq1 : Below w.heap.size w w1.drew := drw hq1
    go_region_held3 (fun w' => w'.cell? ⟨w.heap.size, 0, none⟩ = some (.int .i64 r.client) ∧ w'.cell? ⟨w.heap.size, 1, none⟩ = some (.int .i64 r.seq) ∧ w'.cell? ⟨w.heap.size, 2, none⟩ = some (.int .i64 r.ack) ∧ w'.cell? ⟨w.heap.size, 3, none⟩ = some (.int .i64 r.epoch) ∧ w'.cell? ⟨w.heap.size, 4, none⟩ = some (.int .i64 r.op) ∧ w'.cell? ⟨w.heap.size, 5, none⟩ = some (.int .i64 r.id) ∧ w'.cell? ⟨w.heap.size, 6, none⟩ = some (.int .i64 r.id2) ∧ w'.cell? ⟨w.heap.size, 7, none⟩ = some (.int .i64 r.off) ∧ w'.cell? ⟨w.heap.size, 8, none⟩ = some (.int .i64 r.len) ∧ w'.cell? ⟨w.heap.size, 9, none⟩ = some (.string r.path) ∧ w'.cell? ⟨w.heap.size, 10, none⟩ = some (.string r.name) ∧ w'.cell? ⟨w.heap.size, 11, none⟩ = some (.string r.name2) ∧ w'.cell? ⟨w.heap.size, 12, none⟩ = some (.slice ao n c))
      (first | exact hB1 | exact hB2 | exact hB3 | exact hB4)
      (first
        | (go_at_call 34; refine (requestHead_any r ao n c _).mono ?_; rintro e w2 ⟨fo2, k2, rfl, hF2, hb2⟩; have hB2 := RqBox.later hB1 hb2 (Nat.le_refl _); have hq2 := hq1.trans (hb2.mono hq1.size))
        | (go_at_call 35; refine (requestBody_any r ao n c _ (hD.below hq2 (Nat.le_refl _))).mono ?_; rintro e w3 ⟨fo3, m3, k3, rfl, hF3, hb3⟩; have hB3 := RqBox.later hB2 hb3 (Nat.le_refl _); have hq3 := hq2.trans (hb3.mono hq2.size))
        | (go_at_call 33; refine (encode_any ⟨#[65, 78, 81, 49]⟩ (rqHead r) (pick (hasRq r.op) (rqAny r)) fo2 5 k2 fo3 m3 k3 _ (by decide) hh3 (hF2.below hb3 (Nat.le_refl _)) hF3 (by omega) (by have h1 := hF3.hlen; have h2 := pick_len (hasRq r.op) (rqAny r); have h3 : (rqAny r).length = 8 := rfl; omega) hh2 hsm hh1 hvb).mono ?_; rintro e w4 ⟨g4, m4, k4, rfl, ho4, hb4⟩; have hB4 := RqBox.later hB3 hb4 (Nat.le_refl _)))
    have hq4 := hq3.trans (hb4.mono hq3.size)
    have ho5 := ownsRow_mono ho4 hq3.size
    clear hB1 hB2 hB3 hB4 ho4
    go_wp2
    go_ret2
    exact .inr ⟨H0.out, g4, m4, k4, rfl, ho5, hq4⟩
  · have h1 : (rqE r != 0) = true := by simpa using h0
    have H0 : Hid (rqE r ≠ 0) := h0
    go_enter Tryz.func10, Tryz.ntmps10
    go_wp2_with fail
    refine (checkRequest_any r ao n c _ (hD.boxed _) hp).mono ?_
    rintro e w1 ⟨rfl, hb1⟩
    have hq1 : Below w.heap.size w w1 := (newBox w _).trans (hb1.mono (by simp))
    clear hB0 hb1
    go_wp2
    go_ret2
    exact .inl ⟨H0.out, rfl, hq1⟩

theorem rpE_zero {r : Rep} (h : rpE r = 0) : judgeE r.op (hasRp r.op r.status) (rpAny r) = 0 := by
  unfold rpE at h
  by_cases h1 : rpHeadE r = 0
  · rw [if_pos h1] at h
    unfold rpBodyE at h
    by_cases h2 : (r.more && decide (r.list.length = 0)) = true
    · rw [if_pos h2] at h; cases h
    · rw [if_neg h2] at h; exact h
  · rw [if_neg h1] at h; exact absurd h h1
theorem replyHead_bys (r : Rep) : (∀ g ∈ rpHead r, VBy g.2) ∧ (∀ g ∈ rpHead r, Small g.2) ∧ (putAll (rpHead r)).length ≤ 100 := by
  refine ⟨?_, ?_, ?_⟩
  · intro g hg; simp only [rpHead, List.mem_cons, List.not_mem_nil, or_false] at hg; rcases hg with rfl | rfl | rfl | rfl | rfl <;> trivial
  · intro g hg; simp only [rpHead, List.mem_cons, List.not_mem_nil, or_false] at hg; rcases hg with rfl | rfl | rfl | rfl | rfl <;> trivial
  · simp [rpHead, putAll, putV, be_length]
theorem replyBody_bys (r : Rep) (h : Bys r.data) : ∀ g ∈ rpAny r, VBy g.2 := by
  intro g hg
  simp only [rpAny, List.mem_cons, List.not_mem_nil, or_false] at hg
  rcases hg with rfl | rfl | rfl | rfl <;> first | trivial | exact h

set_option maxHeartbeats 4000000 in
theorem EncodeReply_any (r : Rep) (ao : Option Addr) (n c : Nat) (lo : Option Addr) (ln lc : Nat) (w : World) (hD : Lies w ao n c r.data) (hE : CLies w lo ln lc 3 (entCells r.list)) (hel : r.list.length = ln) (hby : Bys r.data) :
    Calls Tryz.prog 14 #[rpV r ao n c lo ln lc] w fun e w' => EncR w e w' (rpE r) (rpB r) := by
  have hB0 := RpBox.new w r ao n c lo ln lc
  have HEL : Hid (r.list.length = ln) := hel
  clear hel
  by_cases h0 : rpE r = 0
  · have hj := rpE_zero h0
    have hsm := judge_small hj
    have hvb : ∀ g ∈ pick (hasRp r.op r.status) (rpAny r), VBy g.2 := fun g hg => replyBody_bys r hby g (pick_mem hg).1
    obtain ⟨hh1, hh2, hh3⟩ := replyHead_bys r
    have H0 : Hid (rpE r = 0) := h0
    go_enter Tryz.func14, Tryz.ntmps14
    go_wp2_with fail
    refine (checkReply_any r ao n c lo ln lc _ (hD.boxed _) (hE.boxed _) HEL.out).mono ?_
    rintro e w1 ⟨rfl, hb1⟩
    rw [h0]
    clear h0 hj
    have hB1 := RpBox.later hB0 hb1 (Nat.le_refl _)
    have hq1 : Below w.heap.size w w1 := (newBox w _).trans (hb1.mono (by simp))
    clear hB0 hb1
    go_wp2_with fail
    replace hB1 : RpBox w1.drew w.heap.size r ao n c lo ln lc := hB1
    replace hq1 : Below w.heap.size w w1.drew := drw hq1
    go_region_held3 (fun w' => w'.cell? ⟨w.heap.size, 0, none⟩ = some (.int .i64 r.client) ∧ w'.cell? ⟨w.heap.size, 1, none⟩ = some (.int .i64 r.seq) ∧ w'.cell? ⟨w.heap.size, 2, none⟩ = some (.int .i64 r.epoch) ∧ w'.cell? ⟨w.heap.size, 3, none⟩ = some (.int .i64 r.op) ∧ w'.cell? ⟨w.heap.size, 4, none⟩ = some (.int .i64 r.status) ∧ w'.cell? ⟨w.heap.size, 5, none⟩ = some (.int .i64 r.ai) ∧ w'.cell? ⟨w.heap.size, 6, none⟩ = some (.int .i64 r.ak) ∧ w'.cell? ⟨w.heap.size, 7, none⟩ = some (.int .i64 r.az) ∧ w'.cell? ⟨w.heap.size, 8, none⟩ = some (.int .i64 r.ac) ∧ w'.cell? ⟨w.heap.size, 9, none⟩ = some (.slice ao n c) ∧ w'.cell? ⟨w.heap.size, 10, none⟩ = some (.slice lo ln lc) ∧ w'.cell? ⟨w.heap.size, 11, none⟩ = some (.bool r.more))
      (first | exact hB1 | exact hB2 | exact hB3 | exact hB4)
      (first
        | (go_at_call 36; refine (replyHead_any r ao n c lo ln lc _).mono ?_; rintro e w2 ⟨fo2, k2, rfl, hF2, hb2⟩; have hB2 := RpBox.later hB1 hb2 (Nat.le_refl _); have hq2 := hq1.trans (hb2.mono hq1.size))
        | (go_at_call 37; refine (replyBody_any r ao n c lo ln lc _ (hD.below hq2 (Nat.le_refl _)) (hE.below hq2 (Nat.le_refl _)) HEL.out).mono ?_; rintro e w3 ⟨fo3, m3, k3, rfl, hF3, hb3⟩; have hB3 := RpBox.later hB2 hb3 (Nat.le_refl _); have hq3 := hq2.trans (hb3.mono hq2.size))
        | (go_at_call 33; refine (encode_any ⟨#[65, 78, 82, 49]⟩ (rpHead r) (pick (hasRp r.op r.status) (rpAny r)) fo2 5 k2 fo3 m3 k3 _ (by decide) hh3 (hF2.below hb3 (Nat.le_refl _)) hF3 (by omega) (by have h1 := hF3.hlen; have h2 := pick_len (hasRp r.op r.status) (rpAny r); have h3 : (rpAny r).length = 4 := rfl; omega) hh2 hsm hh1 hvb).mono ?_; rintro e w4 ⟨g4, m4, k4, rfl, ho4, hb4⟩; have hB4 := RpBox.later hB3 hb4 (Nat.le_refl _)))
    have hq4 := hq3.trans (hb4.mono hq3.size)
    have ho5 := ownsRow_mono ho4 hq3.size
    clear hB1 hB2 hB3 hB4 ho4
    go_wp2
    go_ret2
    exact .inr ⟨H0.out, g4, m4, k4, rfl, ho5, hq4⟩
  · have h1 : (rpE r != 0) = true := by simpa using h0
    have H0 : Hid (rpE r ≠ 0) := h0
    go_enter Tryz.func14, Tryz.ntmps14
    go_wp2_with fail
    refine (checkReply_any r ao n c lo ln lc _ (hD.boxed _) (hE.boxed _) HEL.out).mono ?_
    rintro e w1 ⟨rfl, hb1⟩
    have hq1 : Below w.heap.size w w1 := (newBox w _).trans (hb1.mono (by simp))
    clear hB0 hb1
    go_wp2
    go_ret2
    exact .inl ⟨H0.out, rfl, hq1⟩

end Go.Proofs.YtdcliiojdlonbaaGreatDoor

/- Requests, replies and entries that came in, opened once. -/
namespace Go.Proofs.YtdcliiojdlonbaaGreatDoor
open Go.ChangeShapes Go.WideShapes Go.ChangeAt Go.RowKit Go.Deep
set_option maxRecDepth 100000

theorem cellsS : Tryz.prog.cellsOf 9 = 1 := by kernel_rfl
theorem cellsB : Tryz.prog.cellsOf 22 = 1 := by kernel_rfl
theorem cellsL : Tryz.prog.cellsOf 28 = 1 := by kernel_rfl
theorem cellsF : Tryz.prog.cellsOf 4 = 1 := by kernel_rfl
theorem cellsN : Tryz.prog.cellsOf 25 = 1 := by kernel_rfl
theorem cellsRq : Tryz.prog.cellsOf 24 = 13 := by kernel_rfl
theorem cellsRp : Tryz.prog.cellsOf 30 = 12 := by kernel_rfl
theorem cellsEnt : Tryz.prog.cellsOf 95 = 3 := by kernel_rfl
theorem cellsAttr : Tryz.prog.cellsOf 27 = 4 := by kernel_rfl

theorem bytes_of {H : Type} {enc : TypeId × Value → H} {W : World} {fuel : Nat} {cs : List Value} {y : DataW H × List MemPlace}
    (hf : DataW.trod enc Tryz.prog W 0 (fun _ => true) true fuel 22 cs = some y) :
    ∃ a0 len cap Z, cs = [.slice a0 len cap] ∧ Lies W a0 len cap Z ∧ (∀ x ∈ Z, 0 ≤ x ∧ x ≤ 255) ∧ (len = 0 ∨ ∃ sp, y.1 = .slice (lits .u8 Z) sp) := by
  have hcs : ∃ a0 len cap, cs = [.slice a0 len cap] := by
    rcases open_ints Tryz.underlying22 Tryz.underlying5 cells5 hf with ⟨h, _⟩ | ⟨a, len', cap', zs, h, _⟩
    · exact ⟨_, _, _, h⟩
    · exact ⟨_, _, _, h⟩
  obtain ⟨a0, len, cap, rfl⟩ := hcs
  obtain ⟨d, p⟩ := y
  obtain ⟨Z, h1, h2, h3⟩ := view_bytes (a0 := a0) (len := len) (cap := cap) (d := d) (p := p) (fuel := fuel) hf
  exact ⟨a0, len, cap, Z, rfl, h1, h2, h3⟩

theorem ent_of {H : Type} {enc : TypeId × Value → H} {W : World} {fuel : Nat} {cs : List Value} {y : DataW H × List MemPlace} {a : Addr}
    (hc : W.cells? 0 a 3 = some cs) (hf : DataW.trod enc Tryz.prog W 0 (fun _ => true) true fuel 95 cs = some y) :
    ∃ x : Ent, ∀ j v, [Value.string x.name, .int .i64 x.id, .int .i64 x.kind][j]? = some v → W.cell? (a.add j) = some v := by
  obtain ⟨xs, n, _, _, hl, hn, hfs⟩ := DataW.trod_struct Tryz.underlying95 hf
  rw [cellsEnt] at hl
  obtain ⟨_, hlen, hcell⟩ := World.cells?_some hc
  match cs, hl with
  | [c0, c1, c2], _ =>
    match xs, hn with
    | [y0, y1, y2], _ =>
      have f0 : DataW.trod enc Tryz.prog W 0 (fun _ => true) true n 9 (([c0, c1, c2].drop 0).take (Tryz.prog.cellsOf 9)) = some y0 := hfs 0 _ rfl
      have f1 : DataW.trod enc Tryz.prog W 0 (fun _ => true) true n 3 (([c0, c1, c2].drop 1).take (Tryz.prog.cellsOf 3)) = some y1 := hfs 1 _ rfl
      have f2 : DataW.trod enc Tryz.prog W 0 (fun _ => true) true n 3 (([c0, c1, c2].drop 2).take (Tryz.prog.cellsOf 3)) = some y2 := hfs 2 _ rfl
      rw [cellsS] at f0
      rw [cells3] at f1 f2
      obtain ⟨s, e0, _, _⟩ := DataW.trod_string Tryz.underlying9 f0
      obtain ⟨X, e1, _, _⟩ := DataW.trod_int Tryz.underlying3 f1
      obtain ⟨K, e2, _, _⟩ := DataW.trod_int Tryz.underlying3 f2
      simp at e0 e1 e2
      subst e0 e1 e2
      refine ⟨⟨s, X, K⟩, fun j v hv => ?_⟩
      have hj : j < 3 := (List.getElem?_eq_some_iff.1 hv).1
      rw [hcell j hj]
      exact hv

theorem entCells_get3 : ∀ (l : List Ent) (t : Nat) (u : Value), (entCells l)[t]? = some u → ∃ h : t / 3 < l.length, [Value.string l[t / 3].name, .int .i64 l[t / 3].id, .int .i64 l[t / 3].kind][t % 3]? = some u
  | [], t, u, h => by simp [entCells] at h
  | e :: l, t, u, h => by
    by_cases ht : t < 3
    · have h0 : t / 3 = 0 := by omega
      have h1 : t % 3 = t := by omega
      refine ⟨by simp [h0], ?_⟩
      simp only [h0, h1, List.getElem_cons_zero]
      simp only [entCells, List.flatMap_cons] at h
      rwa [List.getElem?_append_left (by simpa using ht)] at h
    · obtain ⟨s, rfl⟩ : ∃ s, t = s + 3 := ⟨t - 3, by omega⟩
      have h2 : (s + 3) / 3 = s / 3 + 1 := by omega
      have h3 : (s + 3) % 3 = s % 3 := by omega
      have h4 : (entCells l)[s]? = some u := by
        simp only [entCells, List.flatMap_cons] at h
        rw [List.getElem?_append_right (by simp)] at h
        simpa [entCells] using h
      obtain ⟨h5, h6⟩ := entCells_get3 l s u h4
      refine ⟨by simp [h2]; omega, ?_⟩
      simp only [h2, h3, List.getElem_cons_succ]
      exact h6

theorem view_ents {H : Type} {enc : TypeId × Value → H} {W : World} {fuel : Nat} {cs : List Value} {y : DataW H × List MemPlace}
    (hf : DataW.trod enc Tryz.prog W 0 (fun _ => true) true fuel 28 cs = some y) :
    ∃ a0 len cap, ∃ l : List Ent, cs = [.slice a0 len cap] ∧ CLies W a0 len cap 3 (entCells l) ∧ l.length = len ∧ (len = 0 ∨ ∃ el sp, y.1 = .slice el sp ∧ el.length = len) := by
  rcases open_slice Tryz.underlying28 hf with ⟨hcs, hx⟩ | ⟨a, len, cap, m, n, D, Pl, hcs, _, hl, hm, hmm, hx, hel⟩
  · exact ⟨none, 0, 0, [], hcs, CLies.nil W 3, rfl, .inl rfl⟩
  · simp only [if_true] at hmm
    rw [cellsEnt] at hel
    have hinh : Inhabited Ent := ⟨⟨⟨#[]⟩, 0, 0⟩⟩
    obtain ⟨X, hX⟩ := choose_lt (α := Ent) (p := fun i x => ∀ j v, [Value.string x.name, .int .i64 x.id, .int .i64 x.kind][j]? = some v → W.cell? ((a.add (i * 3)).add j) = some v) (n := len) (fun i hi => by
      obtain ⟨cs', h1, h2⟩ := hel i (by omega)
      exact ent_of h1 h2)
    refine ⟨some a, len, cap, (List.range len).map X, hcs, ⟨by simp [entCells_length], hl, (fun h => by cases h), fun ad had t u hu => ?_⟩, by simp, .inr ⟨_, _, by rw [hx], by simp⟩⟩
    obtain rfl := Option.some.inj had
    obtain ⟨h1, h2⟩ := entCells_get3 _ t u hu
    simp at h1 h2
    have := hX (t / 3) h1 (t % 3) u h2
    have h0 := hX 0 (by omega) 0 _ rfl
    obtain ⟨b, o, spot⟩ := a
    have hspot : spot = none := by simpa [Addr.add] using World.cell?_spot h0
    subst hspot
    rw [Addr.add_lit, Addr.add_lit, show o + t / 3 * 3 + t % 3 = o + t by omega] at this
    rw [Addr.add_lit]
    exact this

theorem view_rq {H : Type} {enc : TypeId × Value → H} {W : World} {fuel : Nat} {cs : Array Value} {d : DataW H} {p : List MemPlace}
    (hf : DataW.trod enc Tryz.prog W 0 (fun _ => true) true fuel 24 (Value.agg cs).cells.toList = some (d, p)) :
    ∃ (r : Req) (ao : Option Addr) (k c : Nat), Value.agg cs = rqV r ao k c ∧ Lies W ao k c r.data ∧ Bys r.data ∧ (∀ n ∈ [r.path.size, r.name.size, r.name2.size], n ∈ d.weights Tryz.prog 24) := by
  obtain ⟨cs⟩ := cs
  replace hf : DataW.trod enc Tryz.prog W 0 (fun _ => true) true fuel 24 cs = some (d, p) := hf
  obtain ⟨xs, n, _, hd, hl, hn, hfs⟩ := DataW.trod_struct Tryz.underlying24 hf
  rw [cellsRq] at hl
  match cs, hl with
  | [c0, c1, c2, c3, c4, c5, c6, c7, c8, c9, c10, c11, c12], _ =>
    match xs, hn with
    | [y0, y1, y2, y3, y4, y5, y6, y7, y8, y9, y10, y11, y12], _ =>
      have f0 : DataW.trod enc Tryz.prog W 0 (fun _ => true) true n 3 (([c0, c1, c2, c3, c4, c5, c6, c7, c8, c9, c10, c11, c12].drop 0).take (Tryz.prog.cellsOf 3)) = some y0 := hfs 0 _ rfl
      have f1 : DataW.trod enc Tryz.prog W 0 (fun _ => true) true n 3 (([c0, c1, c2, c3, c4, c5, c6, c7, c8, c9, c10, c11, c12].drop 1).take (Tryz.prog.cellsOf 3)) = some y1 := hfs 1 _ rfl
      have f2 : DataW.trod enc Tryz.prog W 0 (fun _ => true) true n 3 (([c0, c1, c2, c3, c4, c5, c6, c7, c8, c9, c10, c11, c12].drop 2).take (Tryz.prog.cellsOf 3)) = some y2 := hfs 2 _ rfl
      have f3 : DataW.trod enc Tryz.prog W 0 (fun _ => true) true n 3 (([c0, c1, c2, c3, c4, c5, c6, c7, c8, c9, c10, c11, c12].drop 3).take (Tryz.prog.cellsOf 3)) = some y3 := hfs 3 _ rfl
      have f4 : DataW.trod enc Tryz.prog W 0 (fun _ => true) true n 3 (([c0, c1, c2, c3, c4, c5, c6, c7, c8, c9, c10, c11, c12].drop 4).take (Tryz.prog.cellsOf 3)) = some y4 := hfs 4 _ rfl
      have f5 : DataW.trod enc Tryz.prog W 0 (fun _ => true) true n 3 (([c0, c1, c2, c3, c4, c5, c6, c7, c8, c9, c10, c11, c12].drop 5).take (Tryz.prog.cellsOf 3)) = some y5 := hfs 5 _ rfl
      have f6 : DataW.trod enc Tryz.prog W 0 (fun _ => true) true n 3 (([c0, c1, c2, c3, c4, c5, c6, c7, c8, c9, c10, c11, c12].drop 6).take (Tryz.prog.cellsOf 3)) = some y6 := hfs 6 _ rfl
      have f7 : DataW.trod enc Tryz.prog W 0 (fun _ => true) true n 3 (([c0, c1, c2, c3, c4, c5, c6, c7, c8, c9, c10, c11, c12].drop 7).take (Tryz.prog.cellsOf 3)) = some y7 := hfs 7 _ rfl
      have f8 : DataW.trod enc Tryz.prog W 0 (fun _ => true) true n 3 (([c0, c1, c2, c3, c4, c5, c6, c7, c8, c9, c10, c11, c12].drop 8).take (Tryz.prog.cellsOf 3)) = some y8 := hfs 8 _ rfl
      have f9 : DataW.trod enc Tryz.prog W 0 (fun _ => true) true n 9 (([c0, c1, c2, c3, c4, c5, c6, c7, c8, c9, c10, c11, c12].drop 9).take (Tryz.prog.cellsOf 9)) = some y9 := hfs 9 _ rfl
      have f10 : DataW.trod enc Tryz.prog W 0 (fun _ => true) true n 9 (([c0, c1, c2, c3, c4, c5, c6, c7, c8, c9, c10, c11, c12].drop 10).take (Tryz.prog.cellsOf 9)) = some y10 := hfs 10 _ rfl
      have f11 : DataW.trod enc Tryz.prog W 0 (fun _ => true) true n 9 (([c0, c1, c2, c3, c4, c5, c6, c7, c8, c9, c10, c11, c12].drop 11).take (Tryz.prog.cellsOf 9)) = some y11 := hfs 11 _ rfl
      have f12 : DataW.trod enc Tryz.prog W 0 (fun _ => true) true n 22 (([c0, c1, c2, c3, c4, c5, c6, c7, c8, c9, c10, c11, c12].drop 12).take (Tryz.prog.cellsOf 22)) = some y12 := hfs 12 _ rfl
      rw [cells3] at f0
      rw [cells3] at f1
      rw [cells3] at f2
      rw [cells3] at f3
      rw [cells3] at f4
      rw [cells3] at f5
      rw [cells3] at f6
      rw [cells3] at f7
      rw [cells3] at f8
      rw [cellsS] at f9
      rw [cellsS] at f10
      rw [cellsS] at f11
      rw [cellsB] at f12
      obtain ⟨x0, e0, _, _⟩ := DataW.trod_int Tryz.underlying3 f0
      obtain ⟨x1, e1, _, _⟩ := DataW.trod_int Tryz.underlying3 f1
      obtain ⟨x2, e2, _, _⟩ := DataW.trod_int Tryz.underlying3 f2
      obtain ⟨x3, e3, _, _⟩ := DataW.trod_int Tryz.underlying3 f3
      obtain ⟨x4, e4, _, _⟩ := DataW.trod_int Tryz.underlying3 f4
      obtain ⟨x5, e5, _, _⟩ := DataW.trod_int Tryz.underlying3 f5
      obtain ⟨x6, e6, _, _⟩ := DataW.trod_int Tryz.underlying3 f6
      obtain ⟨x7, e7, _, _⟩ := DataW.trod_int Tryz.underlying3 f7
      obtain ⟨x8, e8, _, _⟩ := DataW.trod_int Tryz.underlying3 f8
      obtain ⟨x9, e9, k9, _⟩ := DataW.trod_string Tryz.underlying9 f9
      obtain ⟨x10, e10, k10, _⟩ := DataW.trod_string Tryz.underlying9 f10
      obtain ⟨x11, e11, k11, _⟩ := DataW.trod_string Tryz.underlying9 f11
      obtain ⟨ao, dl, dc, Z, e12, hL, hs, hZ⟩ := bytes_of f12
      simp at e0 e1 e2 e3 e4 e5 e6 e7 e8 e9 e10 e11 e12
      subst e0 e1 e2 e3 e4 e5 e6 e7 e8 e9 e10 e11 e12
      simp only [Prod.mk.injEq] at hd
      have hw : ∀ (j : Nat) (t : TypeId) (q : DataW H) (m : Nat), ([3, 3, 3, 3, 3, 3, 3, 3, 3, 9, 9, 9, 22] : List TypeId)[j]? = some t → [y0.1, y1.1, y2.1, y3.1, y4.1, y5.1, y6.1, y7.1, y8.1, y9.1, y10.1, y11.1, y12.1][j]? = some q → m ∈ q.weights Tryz.prog t → m ∈ d.weights Tryz.prog 24 := fun j t q m h1 h2 h3 => by
        rw [hd.1]
        simp only [DataW.weights, Tryz.underlying24]
        exact DataW.weights_mem_each h1 h2 m h3
      refine ⟨⟨x0, x1, x2, x3, x4, x5, x6, x7, x8, x9, x10, x11, Z⟩, ao, dl, dc, rfl, hL, hs, fun m hm => ?_⟩
      simp only [List.mem_cons, List.not_mem_nil, or_false] at hm
      rcases hm with rfl | rfl | rfl
      · exact (hw 9 _ _ _ rfl rfl (by rw [k9]; exact List.mem_singleton.2 rfl))
      · exact (hw 10 _ _ _ rfl rfl (by rw [k10]; exact List.mem_singleton.2 rfl))
      · exact (hw 11 _ _ _ rfl rfl (by rw [k11]; exact List.mem_singleton.2 rfl))

theorem attr_of {H : Type} {enc : TypeId × Value → H} {W : World} {fuel : Nat} {c0 c1 c2 c3 : Value} {y : DataW H × List MemPlace}
    (hf : DataW.trod enc Tryz.prog W 0 (fun _ => true) true fuel 27 [c0, c1, c2, c3] = some y) :
    ∃ i k z c : Int, c0 = .int .i64 i ∧ c1 = .int .i64 k ∧ c2 = .int .i64 z ∧ c3 = .int .i64 c := by
  obtain ⟨xs, n, _, hd, hl, hn, hfs⟩ := DataW.trod_struct Tryz.underlying27 hf
  match xs, hn with
  | [y0, y1, y2, y3], _ =>
    have f0 : DataW.trod enc Tryz.prog W 0 (fun _ => true) true n 3 (([c0, c1, c2, c3].drop 0).take (Tryz.prog.cellsOf 3)) = some y0 := hfs 0 _ rfl
    have f1 : DataW.trod enc Tryz.prog W 0 (fun _ => true) true n 3 (([c0, c1, c2, c3].drop 1).take (Tryz.prog.cellsOf 3)) = some y1 := hfs 1 _ rfl
    have f2 : DataW.trod enc Tryz.prog W 0 (fun _ => true) true n 3 (([c0, c1, c2, c3].drop 2).take (Tryz.prog.cellsOf 3)) = some y2 := hfs 2 _ rfl
    have f3 : DataW.trod enc Tryz.prog W 0 (fun _ => true) true n 3 (([c0, c1, c2, c3].drop 3).take (Tryz.prog.cellsOf 3)) = some y3 := hfs 3 _ rfl
    rw [cells3] at f0 f1 f2 f3
    obtain ⟨x0, e0, _, _⟩ := DataW.trod_int Tryz.underlying3 f0
    obtain ⟨x1, e1, _, _⟩ := DataW.trod_int Tryz.underlying3 f1
    obtain ⟨x2, e2, _, _⟩ := DataW.trod_int Tryz.underlying3 f2
    obtain ⟨x3, e3, _, _⟩ := DataW.trod_int Tryz.underlying3 f3
    simp at e0 e1 e2 e3
    exact ⟨x0, x1, x2, x3, e0, e1, e2, e3⟩

theorem view_rp {H : Type} {enc : TypeId × Value → H} {W : World} {fuel : Nat} {cs : Array Value} {d : DataW H} {p : List MemPlace}
    (hf : DataW.trod enc Tryz.prog W 0 (fun _ => true) true fuel 30 (Value.agg cs).cells.toList = some (d, p)) :
    ∃ (r : Rep) (ao : Option Addr) (k c : Nat) (lo : Option Addr) (ln lc : Nat), Value.agg cs = rpV r ao k c lo ln lc ∧ Lies W ao k c r.data ∧ Bys r.data ∧ CLies W lo ln lc 3 (entCells r.list) ∧ r.list.length = ln := by
  obtain ⟨cs⟩ := cs
  replace hf : DataW.trod enc Tryz.prog W 0 (fun _ => true) true fuel 30 cs = some (d, p) := hf
  obtain ⟨xs, n, _, hd, hl, hn, hfs⟩ := DataW.trod_struct Tryz.underlying30 hf
  rw [cellsRp] at hl
  match cs, hl with
  | [c0, c1, c2, c3, c4, c5, c6, c7, c8, c9, c10, c11], _ =>
    match xs, hn with
    | [y0, y1, y2, y3, y4, y5, y6, y7, y8], _ =>
      have f0 : DataW.trod enc Tryz.prog W 0 (fun _ => true) true n 3 (([c0, c1, c2, c3, c4, c5, c6, c7, c8, c9, c10, c11].drop 0).take (Tryz.prog.cellsOf 3)) = some y0 := hfs 0 _ rfl
      have f1 : DataW.trod enc Tryz.prog W 0 (fun _ => true) true n 3 (([c0, c1, c2, c3, c4, c5, c6, c7, c8, c9, c10, c11].drop 1).take (Tryz.prog.cellsOf 3)) = some y1 := hfs 1 _ rfl
      have f2 : DataW.trod enc Tryz.prog W 0 (fun _ => true) true n 3 (([c0, c1, c2, c3, c4, c5, c6, c7, c8, c9, c10, c11].drop 2).take (Tryz.prog.cellsOf 3)) = some y2 := hfs 2 _ rfl
      have f3 : DataW.trod enc Tryz.prog W 0 (fun _ => true) true n 3 (([c0, c1, c2, c3, c4, c5, c6, c7, c8, c9, c10, c11].drop 3).take (Tryz.prog.cellsOf 3)) = some y3 := hfs 3 _ rfl
      have f4 : DataW.trod enc Tryz.prog W 0 (fun _ => true) true n 25 (([c0, c1, c2, c3, c4, c5, c6, c7, c8, c9, c10, c11].drop 4).take (Tryz.prog.cellsOf 25)) = some y4 := hfs 4 _ rfl
      have f5 : DataW.trod enc Tryz.prog W 0 (fun _ => true) true n 27 (([c0, c1, c2, c3, c4, c5, c6, c7, c8, c9, c10, c11].drop 5).take (Tryz.prog.cellsOf 27)) = some y5 := hfs 5 _ rfl
      have f6 : DataW.trod enc Tryz.prog W 0 (fun _ => true) true n 22 (([c0, c1, c2, c3, c4, c5, c6, c7, c8, c9, c10, c11].drop 9).take (Tryz.prog.cellsOf 22)) = some y6 := hfs 6 _ rfl
      have f7 : DataW.trod enc Tryz.prog W 0 (fun _ => true) true n 28 (([c0, c1, c2, c3, c4, c5, c6, c7, c8, c9, c10, c11].drop 10).take (Tryz.prog.cellsOf 28)) = some y7 := hfs 7 _ rfl
      have f8 : DataW.trod enc Tryz.prog W 0 (fun _ => true) true n 4 (([c0, c1, c2, c3, c4, c5, c6, c7, c8, c9, c10, c11].drop 11).take (Tryz.prog.cellsOf 4)) = some y8 := hfs 8 _ rfl
      rw [cells3] at f0
      rw [cells3] at f1
      rw [cells3] at f2
      rw [cells3] at f3
      rw [cellsN] at f4
      rw [cellsAttr] at f5
      rw [cellsB] at f6
      rw [cellsL] at f7
      rw [cellsF] at f8
      obtain ⟨x0, e0, _, _⟩ := DataW.trod_int Tryz.underlying3 f0
      obtain ⟨x1, e1, _, _⟩ := DataW.trod_int Tryz.underlying3 f1
      obtain ⟨x2, e2, _, _⟩ := DataW.trod_int Tryz.underlying3 f2
      obtain ⟨x3, e3, _, _⟩ := DataW.trod_int Tryz.underlying3 f3
      obtain ⟨x4, e4, _, _⟩ := DataW.trod_int Tryz.underlying25 f4
      obtain ⟨g0, g1, g2, g3, u0, u1, u2, u3⟩ := attr_of (c0 := c5) (c1 := c6) (c2 := c7) (c3 := c8) f5
      obtain ⟨ao, dl, dc, Z, e6, hL, hs, hZ⟩ := bytes_of f6
      obtain ⟨lo, ln, lc, l, e7, hN, hel, hl⟩ := view_ents f7
      obtain ⟨x8, e8, _⟩ := DataW.trod_bool Tryz.underlying4 f8
      simp at e0 e1 e2 e3 e4 e6 e7 e8
      subst e0 e1 e2 e3 e4 e6 e7 e8 u0 u1 u2 u3
      exact ⟨⟨x0, x1, x2, x3, x4, g0, g1, g2, g3, Z, l, x8⟩, ao, dl, dc, lo, ln, lc, rfl, hL, hs, hN, hel⟩
end Go.Proofs.YtdcliiojdlonbaaGreatDoor

/- Err by its contract. -/
namespace Go.Proofs.YtdcliiojdlonbaaGreatDoor
open Go.RowKit
set_option maxRecDepth 100000

set_option maxHeartbeats 400000 in
theorem err_any (rb g n cap : Nat) (pl code : Int) (bs : List Int) (w : World) (hR : Rdr w rb g n cap pl code bs) :
    Calls Tryz.prog 99 #[.pointer (some ⟨rb, 0, none⟩)] w fun e w' => e = .returned (.tuple #[.int .i64 code, .int .i64 pl]) ∧ ∃ m, w' = w.drewN m := by
  have c1 := hR.c1
  have c2 := hR.c2
  go_enter Tryz.func99, Tryz.ntmps99
  go_wp2
  go_quiet (fail)
  go_wp2
  go_ret2
  exact ⟨rfl, _, rfl⟩
end Go.Proofs.YtdcliiojdlonbaaGreatDoor

/- A reader and the memory beside it; what a field's reading gives. -/
namespace Go.Proofs.YtdcliiojdlonbaaGreatDoor
open Go.RowKit
set_option maxRecDepth 100000

/-- A reader at a place, its bytes, its errors; no error lies in its block. -/
structure Rd (w : World) (rb g n : Nat) (bs : List Int) (er : Nat → Addr) (st : Nat × Int) : Prop where
  r : Rdr w rb g n n st.1 st.2 bs
  e : Errs w er
  p : st.1 ≤ n
  n0 : n ≤ 100000
  by' : Bys bs
  apart : ∀ i, i < 5 → some (gvar i) ≠ some rb ∧ some (er i).block ≠ some rb

theorem Rd.kept {w w' : World} {rb g n : Nat} {bs : List Int} {er : Nat → Addr} {st : Nat × Int} (h : Rd w rb g n bs er st) (hb : Below w.heap.size w w') : Rd w' rb g n bs er st :=
  ⟨h.r.kept (row := none) ⟨hb.os, hb.tape, hb.output, hb.size, fun i hi _ => hb.block i hi⟩ (by simp) (by simp), h.e.below hb (Nat.le_refl _), h.p, h.n0, h.by', h.apart⟩
theorem Rd.went {w w' : World} {rb g n : Nat} {bs : List Int} {er : Nat → Addr} {st st' : Nat × Int} (h : Rd w rb g n bs er st) (hw : Went w w' rb g n n st'.1 st'.2 bs) (hp : st'.1 ≤ n) : Rd w' rb g n bs er st' ∧ w.grownBy w' (some rb) :=
  ⟨⟨hw.1, h.e.grown hw.2 h.apart, hp, h.n0, h.by', h.apart⟩, hw.2⟩

theorem rdNum_le (k n : Nat) (bs : List Int) (pl : Nat) (code M : Int) (h : pl ≤ n) : (rdNum k n bs pl code M).2.1 ≤ n := by
  unfold rdNum; split
  · exact h
  · split
    · exact h
    · split
      · exact h
      · simp only; omega
theorem rdFlag_le (n : Nat) (bs : List Int) (pl : Nat) (code : Int) (h : pl ≤ n) : (rdFlag n bs pl code).2.1 ≤ n := by
  unfold rdFlag; split
  · exact h
  · split
    · exact h
    · split
      · exact h
      · simp only; omega
theorem rdSum_le (n : Nat) (bs : List Int) (pl : Nat) (code : Int) (h : pl ≤ n) : (rdSum n bs pl code).2.1 ≤ n := by
  unfold rdSum; split
  · exact h
  · split
    · exact h
    · simp only; omega
theorem rdText_le (n : Nat) (bs : List Int) (pl : Nat) (code M : Int) (h : pl ≤ n) : (rdText n bs pl code M).2.1 ≤ n := by
  unfold rdText; split
  · exact h
  · split
    · exact h
    · split
      · exact h
      · split
        · exact h
        · split
          · exact h
          · simp only; omega

theorem rd_u32 {rb g n : Nat} {bs : List Int} {er : Nat → Addr} {st : Nat × Int} (M : Int) (w : World) (h : Rd w rb g n bs er st) (hM : M ≤ 9223372036854775807) :
    Calls Tryz.prog 171 #[.pointer (some ⟨rb, 0, none⟩), .int .i64 M] w fun e w' => e = .returned (.int .i64 (rdNum 4 n bs st.1 st.2 M).1) ∧ Rd w' rb g n bs er (rdNum 4 n bs st.1 st.2 M).2 ∧ w.grownBy w' (some rb) := by
  have h0 := h.n0
  refine (u32_any rb g n n st.1 st.2 M bs er w h.r h.e h.p (by omega) h.by' hM).mono ?_
  rintro e w' ⟨he, hw⟩
  exact ⟨he, h.went hw (rdNum_le _ _ _ _ _ _ h.p)⟩
theorem rd_u64 {rb g n : Nat} {bs : List Int} {er : Nat → Addr} {st : Nat × Int} (M : Int) (w : World) (h : Rd w rb g n bs er st) (hM : M ≤ 9223372036854775807) :
    Calls Tryz.prog 178 #[.pointer (some ⟨rb, 0, none⟩), .int .i64 M] w fun e w' => e = .returned (.int .i64 (rdNum 8 n bs st.1 st.2 M).1) ∧ Rd w' rb g n bs er (rdNum 8 n bs st.1 st.2 M).2 ∧ w.grownBy w' (some rb) := by
  have h0 := h.n0
  refine (u64_any rb g n n st.1 st.2 M bs er w h.r h.e h.p (by omega) h.by' hM).mono ?_
  rintro e w' ⟨he, hw⟩
  exact ⟨he, h.went hw (rdNum_le _ _ _ _ _ _ h.p)⟩
theorem rd_flag {rb g n : Nat} {bs : List Int} {er : Nat → Addr} {st : Nat × Int} (w : World) (h : Rd w rb g n bs er st) :
    Calls Tryz.prog 167 #[.pointer (some ⟨rb, 0, none⟩)] w fun e w' => e = .returned (.bool (rdFlag n bs st.1 st.2).1) ∧ Rd w' rb g n bs er (rdFlag n bs st.1 st.2).2 ∧ w.grownBy w' (some rb) := by
  have h0 := h.n0
  refine (flag_any rb g n n st.1 st.2 bs er w h.r h.e h.p (by omega) h.by').mono ?_
  rintro e w' ⟨he, hw⟩
  exact ⟨he, h.went hw (rdFlag_le _ _ _ _ h.p)⟩
theorem rd_sum {rb g n : Nat} {bs : List Int} {er : Nat → Addr} {st : Nat × Int} (w : World) (h : Rd w rb g n bs er st) :
    Calls Tryz.prog 98 #[.pointer (some ⟨rb, 0, none⟩)] w fun e w' => e = .returned (.int .u64 (rdSum n bs st.1 st.2).1) ∧ Rd w' rb g n bs er (rdSum n bs st.1 st.2).2 ∧ w.grownBy w' (some rb) := by
  have h0 := h.n0
  refine (sum_any rb g n n st.1 st.2 bs er w h.r h.e h.p (by omega) h.by').mono ?_
  rintro e w' ⟨he, hw⟩
  exact ⟨he, h.went hw (rdSum_le _ _ _ _ h.p)⟩
theorem rd_text {rb g n : Nat} {bs : List Int} {er : Nat → Addr} {st : Nat × Int} (M : Int) (w : World) (h : Rd w rb g n bs er st) (hM : M ≤ 9223372036854775807) :
    Calls Tryz.prog 183 #[.pointer (some ⟨rb, 0, none⟩), .int .i64 M] w fun e w' => e = .returned (.string (txt (rdText n bs st.1 st.2 M).1)) ∧ Rd w' rb g n bs er (rdText n bs st.1 st.2 M).2 ∧ w.grownBy w' (some rb) := by
  have h0 := h.n0
  refine (text17_any rb g n n st.1 st.2 M bs er w h.r h.e h.p (by omega) h.by' hM).mono ?_
  rintro e w' ⟨he, hw⟩
  exact ⟨he, h.went hw (rdText_le _ _ _ _ _ h.p)⟩
theorem rd_bytes {rb g n : Nat} {bs : List Int} {er : Nat → Addr} {st : Nat × Int} (M : Int) (w : World) (h : Rd w rb g n bs er st) (hM : M ≤ 9223372036854775807) :
    Calls Tryz.prog 192 #[.pointer (some ⟨rb, 0, none⟩), .int .i64 M] w fun e w' => (∃ ao m c, e = .returned (.slice ao m c) ∧ w'.ownsRow w.heap.size 5 1 (.slice ao m c) m ((rdText n bs st.1 st.2 M).1.map (Value.int .u8))) ∧ Rd w' rb g n bs er (rdText n bs st.1 st.2 M).2 ∧ w.grownBy w' (some rb) := by
  have h0 := h.n0
  refine (bytes_any rb g n n st.1 st.2 M bs er w h.r h.e h.p (by omega) h.by' hM).mono ?_
  rintro e w' ⟨⟨ao, c, he, ho⟩, hw⟩
  exact ⟨⟨ao, _, c, he, ho⟩, h.went hw (rdText_le _ _ _ _ _ h.p)⟩
theorem rd_err {rb g n : Nat} {bs : List Int} {er : Nat → Addr} {st : Nat × Int} (w : World) (h : Rd w rb g n bs er st) :
    Calls Tryz.prog 99 #[.pointer (some ⟨rb, 0, none⟩)] w fun e w' => e = .returned (.tuple #[.int .i64 st.2, .int .i64 st.1]) ∧ ∃ m, w' = w.drewN m := err_any rb g n n st.1 st.2 bs w h.r
theorem rd_close {rb g n : Nat} {bs : List Int} {er : Nat → Addr} {st : Nat × Int} (w : World) (h : Rd w rb g n bs er st) :
    Calls Tryz.prog 102 #[.pointer (some ⟨rb, 0, none⟩)] w fun e w' => e = .returned (.int .i64 (rdClose n st.1 st.2)) ∧ Rd w' rb g n bs er (st.1, rdClose n st.1 st.2) ∧ w.grownBy w' (some rb) := by
  refine (close_any rb g n n st.1 st.2 bs w h.r).mono ?_
  rintro e w' ⟨he, hw⟩
  exact ⟨he, h.went (st' := (st.1, rdClose n st.1 st.2)) hw h.p⟩
end Go.Proofs.YtdcliiojdlonbaaGreatDoor

/- Each kind of field is taken from a reader. -/
namespace Go.Proofs.YtdcliiojdlonbaaGreatDoor
open Go.RowKit
set_option maxRecDepth 100000

/-- An interface value that holds what was taken: its lists are rows of their own. -/
def TRep (w : World) (base : Nat) (v : Value) : Val → Prop
  | .small x => v = .iface 84 (.int .i64 x)
  | .great x => v = .iface 89 (.int .i64 x)
  | .flag b => v = .iface 127 (.bool b)
  | .path s => v = .iface 122 (.string s)
  | .name s => v = .iface 123 (.string s)
  | .content d => ∃ ao n c, v = .iface 124 (.slice ao n c) ∧ w.ownsRow base 5 1 (.slice ao n c) n (d.map (Value.int .u8))
  | .attr i k z c => v = .iface 125 (.agg #[.int .i64 i, .int .i64 k, .int .i64 z, .int .i64 c])
  | .entries l => ∃ ao n c, v = .iface 126 (.slice ao n c) ∧ w.ownsRow base 95 3 (.slice ao n c) n (entCells l) ∧ l.length = n
theorem own_grown {w w' : World} {base rb : Nat} {e : TypeId} {k : Nat} {v : Value} {n : Nat} {xs : List Value} (h : w.ownsRow base e k v n xs) (hg : w.grownBy w' (some rb)) (hb : rb < base) : w'.ownsRow base e k v n xs := by
  refine h.kept hg ?_
  cases hv : v.ownBlock with
  | none => exact .inl rfl
  | some q => exact .inr (fun e => by cases e; have := (h.lt _ hv).1; omega)
theorem TRep.grown {w w' : World} {base rb : Nat} {v : Value} {x : Val} (h : TRep w base v x) (hg : w.grownBy w' (some rb)) (hb : rb < base) : TRep w' base v x := by
  cases x with
  | content d => obtain ⟨ao, n, c, rfl, hL⟩ := h; exact ⟨ao, n, c, rfl, own_grown hL hg hb⟩
  | entries l => obtain ⟨ao, n, c, rfl, hL, hl⟩ := h; exact ⟨ao, n, c, rfl, own_grown hL hg hb, hl⟩
  | _ => exact h
theorem TRep.iface {w : World} {base : Nat} {v : Value} {x : Val} (h : TRep w base v x) : ∃ t u, v = .iface t u := by
  cases x with
  | content d => obtain ⟨ao, n, c, rfl, hL⟩ := h; exact ⟨_, _, rfl⟩
  | entries l => obtain ⟨ao, n, c, rfl, hL, hl⟩ := h; exact ⟨_, _, rfl⟩
  | _ => exact ⟨_, _, h⟩

/-- An entry read at a place. -/
def rdEnt (n : Nat) (bs : List Int) (st : Nat × Int) : Ent × (Nat × Int) :=
  let a := rdText n bs st.1 st.2 23
  let b := rdNum 8 n bs a.2.1 a.2.2 9223372036854775807
  let c := rdNum 4 n bs b.2.1 b.2.2 4294967295
  (⟨txt a.1, b.1, c.1⟩, c.2)
def rdEnts (n : Nat) (bs : List Int) : Nat → Nat × Int → List Ent × (Nat × Int)
  | 0, st => ([], st)
  | k + 1, st => ((rdEnts n bs k st).1 ++ [(rdEnt n bs (rdEnts n bs k st).2).1], (rdEnt n bs (rdEnts n bs k st).2).2)
/-- What is taken for a field of that kind, and where it leaves the reader. -/
def takeV (n : Nat) (bs : List Int) (st : Nat × Int) : Val → Val × (Nat × Int)
  | .small _ => (.small (rdNum 4 n bs st.1 st.2 4294967295).1, (rdNum 4 n bs st.1 st.2 4294967295).2)
  | .great _ => (.great (rdNum 8 n bs st.1 st.2 9223372036854775807).1, (rdNum 8 n bs st.1 st.2 9223372036854775807).2)
  | .flag _ => (.flag (rdFlag n bs st.1 st.2).1, (rdFlag n bs st.1 st.2).2)
  | .path _ => (.path (txt (rdText n bs st.1 st.2 384).1), (rdText n bs st.1 st.2 384).2)
  | .name _ => (.name (txt (rdText n bs st.1 st.2 23).1), (rdText n bs st.1 st.2 23).2)
  | .content _ => (.content (rdText n bs st.1 st.2 1024).1, (rdText n bs st.1 st.2 1024).2)
  | .attr _ _ _ _ =>
    let a := rdNum 8 n bs st.1 st.2 9223372036854775807
    let b := rdNum 4 n bs a.2.1 a.2.2 4294967295
    let c := rdNum 4 n bs b.2.1 b.2.2 4294967295
    let d := rdNum 8 n bs c.2.1 c.2.2 9223372036854775807
    (.attr a.1 b.1 c.1 d.1, d.2)
  | .entries _ => (.entries (rdEnts n bs (rdNum 4 n bs st.1 st.2 4294967295).1.toNat (rdNum 4 n bs st.1 st.2 4294967295).2).1, (rdEnts n bs (rdNum 4 n bs st.1 st.2 4294967295).1.toNat (rdNum 4 n bs st.1 st.2 4294967295).2).2)
/-- The package's own error in taking it. -/
def takeE (n : Nat) (bs : List Int) (st : Nat × Int) : Val → Int
  | .entries _ => if 16 < (rdNum 4 n bs st.1 st.2 4294967295).1 then 46 else 0
  | _ => 0
/-- What take leaves where it has no error of its own. -/
def Took (w : World) (base rb g n : Nat) (bs : List Int) (er : Nat → Addr) (st : Nat × Int) (k : Val) (e : Ending) (w' : World) : Prop :=
  ∃ v, e = .returned (.tuple #[v, .int .i64 0]) ∧ TRep w' base v (takeV n bs st k).1 ∧ Rd w' rb g n bs er (takeV n bs st k).2 ∧ w.grownBy w' (some rb)

set_option maxHeartbeats 1000000 in
theorem small_take (x : Int) {rb g n : Nat} {bs : List Int} {er : Nat → Addr} {st : Nat × Int} (base : Nat) (w : World) (h : Rd w rb g n bs er st) (_hbase : base ≤ w.heap.size) :
    Calls Tryz.prog 169 #[.int .i64 x, .pointer (some ⟨rb, 0, none⟩)] w fun e w' => Took w base rb g n bs er st (.small x) e w' := by
  go_enter Tryz.func169, Tryz.ntmps169
  go_wp2_with fail
  refine (rd_u32 4294967295 _ h (by omega)).mono ?_
  rintro e w1 ⟨rfl, hR1, hg1⟩
  generalize hV : rdNum 4 n bs st.1 st.2 4294967295 = V at *
  have HV : Hid (rdNum 4 n bs st.1 st.2 4294967295 = V) := hV
  clear hV
  go_wp2
  go_ret2
  exact ⟨_, rfl, by rw [takeV, HV.out]; rfl, by rw [takeV, HV.out]; exact hR1, hg1⟩

set_option maxHeartbeats 1000000 in
theorem great_take (x : Int) {rb g n : Nat} {bs : List Int} {er : Nat → Addr} {st : Nat × Int} (base : Nat) (w : World) (h : Rd w rb g n bs er st) (_hbase : base ≤ w.heap.size) :
    Calls Tryz.prog 176 #[.int .i64 x, .pointer (some ⟨rb, 0, none⟩)] w fun e w' => Took w base rb g n bs er st (.great x) e w' := by
  go_enter Tryz.func176, Tryz.ntmps176
  go_wp2_with fail
  refine (rd_u64 9223372036854775807 _ h (by omega)).mono ?_
  rintro e w1 ⟨rfl, hR1, hg1⟩
  generalize hV : rdNum 8 n bs st.1 st.2 9223372036854775807 = V at *
  have HV : Hid (rdNum 8 n bs st.1 st.2 9223372036854775807 = V) := hV
  clear hV
  go_wp2
  go_ret2
  exact ⟨_, rfl, by rw [takeV, HV.out]; rfl, by rw [takeV, HV.out]; exact hR1, hg1⟩

set_option maxHeartbeats 1000000 in
theorem flag_take (b : Bool) {rb g n : Nat} {bs : List Int} {er : Nat → Addr} {st : Nat × Int} (base : Nat) (w : World) (h : Rd w rb g n bs er st) (_hbase : base ≤ w.heap.size) :
    Calls Tryz.prog 199 #[.bool b, .pointer (some ⟨rb, 0, none⟩)] w fun e w' => Took w base rb g n bs er st (.flag b) e w' := by
  go_enter Tryz.func199, Tryz.ntmps199
  go_wp2_with fail
  refine (rd_flag _ h).mono ?_
  rintro e w1 ⟨rfl, hR1, hg1⟩
  generalize hV : rdFlag n bs st.1 st.2 = V at *
  have HV : Hid (rdFlag n bs st.1 st.2 = V) := hV
  clear hV
  go_wp2
  go_ret2
  exact ⟨_, rfl, by rw [takeV, HV.out]; rfl, by rw [takeV, HV.out]; exact hR1, hg1⟩

set_option maxHeartbeats 1000000 in
theorem path_take (s : ByteArray) {rb g n : Nat} {bs : List Int} {er : Nat → Addr} {st : Nat × Int} (base : Nat) (w : World) (h : Rd w rb g n bs er st) (_hbase : base ≤ w.heap.size) :
    Calls Tryz.prog 181 #[.string s, .pointer (some ⟨rb, 0, none⟩)] w fun e w' => Took w base rb g n bs er st (.path s) e w' := by
  go_enter Tryz.func181, Tryz.ntmps181
  go_wp2_with fail
  refine (rd_text 384 _ h (by omega)).mono ?_
  rintro e w1 ⟨rfl, hR1, hg1⟩
  generalize hV : rdText n bs st.1 st.2 384 = V at *
  have HV : Hid (rdText n bs st.1 st.2 384 = V) := hV
  clear hV
  go_wp2
  go_ret2
  exact ⟨_, rfl, by rw [takeV, HV.out]; rfl, by rw [takeV, HV.out]; exact hR1, hg1⟩

set_option maxHeartbeats 1000000 in
theorem name_take (s : ByteArray) {rb g n : Nat} {bs : List Int} {er : Nat → Addr} {st : Nat × Int} (base : Nat) (w : World) (h : Rd w rb g n bs er st) (_hbase : base ≤ w.heap.size) :
    Calls Tryz.prog 189 #[.string s, .pointer (some ⟨rb, 0, none⟩)] w fun e w' => Took w base rb g n bs er st (.name s) e w' := by
  go_enter Tryz.func189, Tryz.ntmps189
  go_wp2_with fail
  refine (rd_text 23 _ h (by omega)).mono ?_
  rintro e w1 ⟨rfl, hR1, hg1⟩
  generalize hV : rdText n bs st.1 st.2 23 = V at *
  have HV : Hid (rdText n bs st.1 st.2 23 = V) := hV
  clear hV
  go_wp2
  go_ret2
  exact ⟨_, rfl, by rw [takeV, HV.out]; rfl, by rw [takeV, HV.out]; exact hR1, hg1⟩

set_option maxHeartbeats 1000000 in
theorem content_take (ao : Option Addr) (an ac : Nat) (d : List Int) {rb g n : Nat} {bs : List Int} {er : Nat → Addr} {st : Nat × Int} (base : Nat) (w : World) (h : Rd w rb g n bs er st) (hbase : base ≤ w.heap.size) :
    Calls Tryz.prog 191 #[.slice ao an ac, .pointer (some ⟨rb, 0, none⟩)] w fun e w' => Took w base rb g n bs er st (.content d) e w' := by
  go_enter Tryz.func191, Tryz.ntmps191
  go_wp2_with fail
  refine (rd_bytes 1024 _ h (by omega)).mono ?_
  rintro e w1 ⟨⟨a1, m1, c1, rfl, ho1⟩, hR1, hg1⟩
  generalize hV : rdText n bs st.1 st.2 1024 = V at *
  have HV : Hid (rdText n bs st.1 st.2 1024 = V) := hV
  clear hV
  go_wp2
  go_ret2
  exact ⟨_, rfl, by rw [takeV, HV.out]; exact ⟨a1, m1, c1, rfl, ownsRow_mono ho1 hbase⟩, by rw [takeV, HV.out]; exact hR1, hg1⟩

end Go.Proofs.YtdcliiojdlonbaaGreatDoor

/- An Attr is taken from a reader. -/
namespace Go.Proofs.YtdcliiojdlonbaaGreatDoor
open Go.RowKit
set_option maxRecDepth 100000

/-- All that a reader stands on lies below. -/
def Lim (lim rb g : Nat) (er : Nat → Addr) : Prop := rb < lim ∧ g < lim ∧ ∀ i, i < 5 → gvar i < lim ∧ (er i).block < lim
theorem Rd.lim {w : World} {rb g n : Nat} {bs : List Int} {er : Nat → Addr} {st : Nat × Int} (h : Rd w rb g n bs er st) : Lim w.heap.size rb g er := by
  refine ⟨h.r.lt, h.r.glt, fun i hi => ⟨World.block_lt_of_cell? w _ (h.e.cell i hi), ?_⟩⟩
  obtain ⟨c, t, hr⟩ := h.e.row i hi
  exact lt_of_block hr
theorem Rd.beside {w w' : World} {rb g n lim B : Nat} {bs : List Int} {er : Nat → Addr} {st : Nat × Int} (h : Rd w rb g n bs er st) (hL : Lim lim rb g er) (hg : w.grownBy w' (some B)) (hB : lim ≤ B) : Rd w' rb g n bs er st := by
  obtain ⟨h1, h2, h3⟩ := hL
  refine ⟨h.r.kept hg (by simp; omega) (by simp; omega), h.e.grown hg (fun i hi => ?_), h.p, h.n0, h.by', h.apart⟩
  have := h3 i hi
  exact ⟨by simp; omega, by simp; omega⟩
theorem grown_above {a b c : World} {rb B : Nat} (h : a.grownBy b (some rb)) (k : b.grownBy c (some B)) (hB : a.heap.size ≤ B) : a.grownBy c (some rb) :=
  ⟨k.os.trans h.os, k.tape.trans h.tape, k.output.trans h.output, Nat.le_trans h.size k.size, fun i hi hr => (k.block i (Nat.lt_of_lt_of_le hi h.size) (by simp; omega)).trans (h.block i hi hr)⟩

/-- A box of four numbers. -/
abbrev Box4 (w : World) (B : Nat) (a b c d : Int) : Prop := w.heap[B]? = some (.cells #[.int .i64 a, .int .i64 b, .int .i64 c, .int .i64 d] 125 (0, 0))
theorem Box4.c {w : World} {B : Nat} {a b c d : Int} (h : Box4 w B a b c d) : w.cell? ⟨B, 0, none⟩ = some (.int .i64 a) ∧ w.cell? ⟨B, 1, none⟩ = some (.int .i64 b) ∧ w.cell? ⟨B, 2, none⟩ = some (.int .i64 c) ∧ w.cell? ⟨B, 3, none⟩ = some (.int .i64 d) ∧ ∀ o, w.frozen? ⟨B, o, none⟩ = false := by
  refine ⟨?_, ?_, ?_, ?_, fun o => ?_⟩ <;> simp [World.cell?, World.frozen?, h]

set_option maxHeartbeats 2000000 in
theorem attr_take (i k z c : Int) {rb g n : Nat} {bs : List Int} {er : Nat → Addr} {st : Nat × Int} (base : Nat) (w : World) (h : Rd w rb g n bs er st) :
    Calls Tryz.prog 195 #[.agg #[.int .i64 i, .int .i64 k, .int .i64 z, .int .i64 c], .pointer (some ⟨rb, 0, none⟩)] w fun e w' => Took w base rb g n bs er st (.attr i k z c) e w' := by
  have hlim := h.lim
  have hrb := hlim.1
  go_enter Tryz.func195, Tryz.ntmps195
  go_wp2_with fail
  generalize hw0 : (w.alloc (.cells #[.int .i64 i, .int .i64 k, .int .i64 z, .int .i64 c] 125)).alloc (.cells #[.int .i64 0, .int .i64 0, .int .i64 0, .int .i64 0] 125) = w0
  have hb0 : Below w.heap.size w w0 := hw0 ▸ box2 w _ _
  have hx0 : Box4 w0 (w.heap.size + 1) 0 0 0 0 := by
    have q := heap_alloc_new (w.alloc (.cells #[.int .i64 i, .int .i64 k, .int .i64 z, .int .i64 c] 125)) (.cells #[.int .i64 0, .int .i64 0, .int .i64 0, .int .i64 0] 125)
    rw [show (w.alloc (.cells #[.int .i64 i, .int .i64 k, .int .i64 z, .int .i64 c] 125)).heap.size = w.heap.size + 1 by simp, hw0] at q
    exact q
  have hG0 : w.grownBy w0 (some rb) := ⟨hb0.os, hb0.tape, hb0.output, hb0.size, fun i hi _ => hb0.block i hi⟩
  have hR0 := h.kept hb0
  clear hw0 hb0 h
  refine (rd_u64 9223372036854775807 _ hR0 (by omega)).mono ?_
  rintro e w1 ⟨rfl, hR1, hg1⟩
  generalize hA : rdNum 8 n bs st.1 st.2 9223372036854775807 = A at *
  have HA : Hid (rdNum 8 n bs st.1 st.2 9223372036854775807 = A) := hA
  have hx1 : Box4 w1 (w.heap.size + 1) 0 0 0 0 := (hg1.block _ (lt_of_block hx0) (by simp; omega)).trans hx0
  have hG1 := grown_trans hG0 hg1
  obtain ⟨p0, p1, p2, p3, pf⟩ := hx1.c
  clear hA hG0 hg1 hR0 hx0
  go_wp2_with fail
  have hs1 := grown_setCell w1 (w.heap.size + 1) 0 (.int .i64 A.1)
  have hx1' : Box4 (w1.setCell ⟨w.heap.size + 1, 0, none⟩ (.int .i64 A.1)) (w.heap.size + 1) A.1 0 0 0 := by rw [Box4, heap_setCell_same _ _ _ _ _ _ hx1]; rfl
  have hR1' := hR1.beside hlim hs1 (by omega)
  have hG1' := grown_above hG1 hs1 (by omega)
  clear hR1 hG1 hs1 hx1 p0 p1 p2 p3 pf
  refine (rd_u32 4294967295 _ hR1' (by omega)).mono ?_
  rintro e w2 ⟨rfl, hR2, hg2⟩
  generalize hB : rdNum 4 n bs A.2.1 A.2.2 4294967295 = B at *
  have HB : Hid (rdNum 4 n bs A.2.1 A.2.2 4294967295 = B) := hB
  have hx2 : Box4 w2 (w.heap.size + 1) A.1 0 0 0 := (hg2.block _ (lt_of_block hx1') (by simp; omega)).trans hx1'
  have hG2 := grown_trans hG1' hg2
  obtain ⟨p0, p1, p2, p3, pf⟩ := hx2.c
  clear hB hG1' hg2 hR1' hx1'
  go_wp2_with fail
  have hs2 := grown_setCell w2 (w.heap.size + 1) 1 (.int .i64 B.1)
  have hx2' : Box4 (w2.setCell ⟨w.heap.size + 1, 1, none⟩ (.int .i64 B.1)) (w.heap.size + 1) A.1 B.1 0 0 := by rw [Box4, heap_setCell_same _ _ _ _ _ _ hx2]; rfl
  have hR2' := hR2.beside hlim hs2 (by omega)
  have hG2' := grown_above hG2 hs2 (by omega)
  clear hR2 hG2 hs2 hx2 p0 p1 p2 p3 pf
  refine (rd_u32 4294967295 _ hR2' (by omega)).mono ?_
  rintro e w3 ⟨rfl, hR3, hg3⟩
  generalize hC : rdNum 4 n bs B.2.1 B.2.2 4294967295 = C at *
  have HC : Hid (rdNum 4 n bs B.2.1 B.2.2 4294967295 = C) := hC
  have hx3 : Box4 w3 (w.heap.size + 1) A.1 B.1 0 0 := (hg3.block _ (lt_of_block hx2') (by simp; omega)).trans hx2'
  have hG3 := grown_trans hG2' hg3
  obtain ⟨p0, p1, p2, p3, pf⟩ := hx3.c
  clear hC hG2' hg3 hR2' hx2'
  go_wp2_with fail
  have hs3 := grown_setCell w3 (w.heap.size + 1) 2 (.int .i64 C.1)
  have hx3' : Box4 (w3.setCell ⟨w.heap.size + 1, 2, none⟩ (.int .i64 C.1)) (w.heap.size + 1) A.1 B.1 C.1 0 := by rw [Box4, heap_setCell_same _ _ _ _ _ _ hx3]; rfl
  have hR3' := hR3.beside hlim hs3 (by omega)
  have hG3' := grown_above hG3 hs3 (by omega)
  clear hR3 hG3 hs3 hx3 p0 p1 p2 p3 pf
  refine (rd_u64 9223372036854775807 _ hR3' (by omega)).mono ?_
  rintro e w4 ⟨rfl, hR4, hg4⟩
  generalize hD : rdNum 8 n bs C.2.1 C.2.2 9223372036854775807 = D at *
  have HD : Hid (rdNum 8 n bs C.2.1 C.2.2 9223372036854775807 = D) := hD
  have hx4 : Box4 w4 (w.heap.size + 1) A.1 B.1 C.1 0 := (hg4.block _ (lt_of_block hx3') (by simp; omega)).trans hx3'
  have hG4 := grown_trans hG3' hg4
  obtain ⟨p0, p1, p2, p3, pf⟩ := hx4.c
  have hs4 := grown_setCell w4 (w.heap.size + 1) 3 (.int .i64 D.1)
  have hx4' : Box4 (w4.setCell ⟨w.heap.size + 1, 3, none⟩ (.int .i64 D.1)) (w.heap.size + 1) A.1 B.1 C.1 D.1 := by rw [Box4, heap_setCell_same _ _ _ _ _ _ hx4]; rfl
  have hR4' := hR4.beside hlim hs4 (by omega)
  have hG4' := grown_above hG4 hs4 (by omega)
  obtain ⟨q0, q1, q2, q3, qf⟩ := hx4'.c
  clear hD hG3' hg4 hR3' hx3' hR4 hG4 hs4 hx4 hx4'
  go_wp2
  go_ret2
  have e : takeV n bs st (.attr i k z c) = (.attr A.1 B.1 C.1 D.1, D.2) := by
    simp only [takeV, HA.out, HB.out, HC.out, HD.out]
  refine ⟨_, rfl, ?_, ?_, hG4'⟩
  · rw [e]; rfl
  · rw [e]; exact hR4'
end Go.Proofs.YtdcliiojdlonbaaGreatDoor
