/- encode by its contract. -/
import Derived.Test.YtdkcplndplhblaaGreatDoorPk07
import Derived.Test.YtdkcplndplhblaaGreatDoorPk01
import Derived.Deep.Slices
import Derived.Test.YtdkcplndplhblaaGreatDoorRows
import Derived.Test.YtdkcplndplhblaaGreatDoorPk03
import Derived.BigQuiet
import Derived.Deep.QuietTactic
namespace Go.Proofs.YtdkcplndplhblaaGreatDoor
open Go.RowKit
set_option maxRecDepth 100000

/-- The sum of bytes. -/
def sumOf (l : List Int) : Int := S2.fwd 14695981039346656037 l
theorem sumOf_bd (l : List Int) : 0 ≤ sumOf l ∧ sumOf l ≤ 18446744073709551615 := S2.U.fwd l (by decide)
abbrev Bys (l : List Int) : Prop := ∀ x ∈ l, 0 ≤ x ∧ x ≤ 255
theorem Bys.app {a b : List Int} (ha : Bys a) (hb : Bys b) : Bys (a ++ b) := fun x hx => by
  rcases List.mem_append.1 hx with h | h
  · exact ha x h
  · exact hb x h
theorem be_bys (X : Int) : ∀ k, Bys (be X k)
  | 0 => fun x hx => by cases hx
  | k + 1 => fun x hx => by
    rcases List.mem_cons.1 hx with rfl | h
    · exact ⟨by omega, by omega⟩
    · exact be_bys X k x h
theorem nums_bys (s : ByteArray) : Bys (nums s) := fun x hx => by
  simp only [nums, List.mem_map] at hx
  obtain ⟨b, _, rfl⟩ := hx
  have := b.toNat_lt
  omega
theorem zeros_bys (k : Nat) : Bys (List.replicate k 0) := fun x hx => by
  rw [List.eq_of_mem_replicate hx]; decide
theorem txB_bys (s : ByteArray) : Bys (txB s) := ((be_bys _ _).app (nums_bys s)).app (zeros_bys _)
theorem dtB_bys {d : List Int} (h : Bys d) : Bys (dtB d) := ((be_bys _ _).app h).app (zeros_bys _)
/-- Bytes stand in a field as bytes. -/
def VBy : Val → Prop
  | .content d => Bys d
  | _ => True
theorem flat_bys {α : Type} (f : α → List Int) : ∀ (l : List α), (∀ x ∈ l, Bys (f x)) → Bys (l.flatMap f)
  | [], _ => fun x hx => by simp at hx
  | a :: l, h => by
    rw [List.flatMap_cons]
    exact (h a (by simp)).app (flat_bys f l (fun x hx => h x (by simp [hx])))
theorem putV_bys {x : Val} (h : VBy x) : Bys (putV x) := by
  cases x with
  | small x => exact be_bys _ _
  | great x => exact be_bys _ _
  | flag b => exact be_bys _ _
  | path s => exact txB_bys s
  | name s => exact txB_bys s
  | content d => exact dtB_bys h
  | attr i k z c => exact (((be_bys _ _).app (be_bys _ _)).app (be_bys _ _)).app (be_bys _ _)
  | entries l => exact (be_bys _ _).app (flat_bys _ _ fun e _ => ((txB_bys _).app (be_bys _ _)).app (be_bys _ _))
theorem putAll_bys {gs : List (Int × Val)} (h : ∀ g ∈ gs, VBy g.2) : Bys (putAll gs) := flat_bys _ _ fun g hg => putV_bys (h g hg)
theorem putV_len {x : Val} (h : Small x) : (putV x).length ≤ 20000 := by
  cases x with
  | small x => simp [putV, be_length]
  | great x => simp [putV, be_length]
  | flag b => simp [putV, be_length]
  | path s => have h1 := txB_length s; have h2 := padN_le s.size; have h3 : s.size ≤ 1000 := h; simp only [putV]; omega
  | name s => have h1 := txB_length s; have h2 := padN_le s.size; have h3 : s.size ≤ 1000 := h; simp only [putV]; omega
  | content d => have h1 := dtB_length d; have h2 := padN_le d.length; have h3 : d.length ≤ 2000 := h; simp only [putV]; omega
  | attr i k z c => simp [putV, be_length]
  | entries l =>
    obtain ⟨h1, h2⟩ : l.length ≤ 16 ∧ ∀ e ∈ l, e.name.size ≤ 1000 := h
    have h3 := flat_len l 1100 (fun e he => by have h5 := txB_length e.name; have h6 := padN_le e.name.size; have h7 := h2 e he; simp [entB, be_length]; omega)
    simp only [putV, List.length_append, be_length]
    omega
theorem putAll_len {gs : List (Int × Val)} (h : ∀ g ∈ gs, Small g.2) : (putAll gs).length ≤ gs.length * 20000 := by
  induction gs with
  | nil => simp [putAll]
  | cons g gs ih =>
    have h1 := putV_len (h g (by simp))
    have h2 := ih (fun x hx => h x (by simp [hx]))
    simp only [putAll, List.flatMap_cons, List.length_append, List.length_cons, Nat.add_mul] at *
    omega

/-- A new list of these bytes, all of it the call's own. -/
def Got (w : World) (e : Ending) (w' : World) (X : List Int) : Prop :=
  ∃ g n cap, e = .returned (.slice (some ⟨g, 0, none⟩) n cap) ∧ w'.ownsRow w.heap.size 5 1 (.slice (some ⟨g, 0, none⟩) n cap) n (X.map (Value.int .u8)) ∧ Below w.heap.size w w'
/-- A datagram of these bytes. -/
def closeB (X : List Int) : List Int := X ++ be (sumOf X) 8

set_option maxHeartbeats 1000000 in
theorem encode_any (s : ByteArray) (hd bd : List (Int × Val)) (h1 : Option Addr) (n1 c1 : Nat) (h2 : Option Addr) (n2 c2 : Nat) (w : World) (hs : s.size ≤ 4) (hl1 : (putAll hd).length ≤ 100)
    (hF1 : FLies w h1 n1 c1 hd) (hF2 : FLies w h2 n2 c2 bd) (hn1 : n1 ≤ 5) (hn2 : n2 ≤ 8) (hS1 : ∀ g ∈ hd, Small g.2) (hS2 : ∀ g ∈ bd, Small g.2) (hB1 : ∀ g ∈ hd, VBy g.2) (hB2 : ∀ g ∈ bd, VBy g.2) :
    Calls Tryz.prog 48 #[.string s, .slice h1 n1 c1, .slice h2 n2 c2] w fun e w' => Got w e w' (closeB (nums s ++ putAll hd ++ putAll bd)) := by
  have hcv := Lib.run_convert_string_bytes (P := Tryz.prog) w 9 22 5 s Tryz.underlying9 Tryz.underlying22 Tryz.underlying5
  have hb0 := bytesWorld_below w s
  go_enter Tryz.func48, Tryz.ntmps48
  go_wp2_with fail
  refine (putAll_any hd h1 n1 c1 _ _ _ (nums s) _ (by omega) (bytesWorld_lies w s) (hF1.below hb0 (Nat.le_refl _)) (by omega) hS1).mono ?_
  rintro e w1 ⟨a1, m1, k1, rfl, hL1, hq1⟩
  have hq1 := hb0.trans (hq1.mono hb0.size)
  have l1 : m1 ≤ 104 := by have h := hL1.hlen; have h4 := nums_length s; have h5 := hF1.hlen; simp at h; omega
  go_wp2_with fail
  refine (putAll_any bd h2 n2 c2 _ _ _ _ _ (by omega) hL1 (hF2.below hq1 (Nat.le_refl _)) (by omega) hS2).mono ?_
  rintro e w2 ⟨a2, m2, k2, rfl, hL2, hq2⟩
  have hq2 := hq1.trans (hq2.mono hq1.size)
  have l2 : m2 ≤ 104 + 8 * 20000 := by have h := hL2.hlen; have h4 := nums_length s; have h5 := hF1.hlen; have h6 := putAll_len hS2; have h7 := hF2.hlen; simp at h; omega
  have hby : Bys (nums s ++ putAll hd ++ putAll bd) := ((nums_bys s).app (putAll_bys hB1)).app (putAll_bys hB2)
  generalize hX : nums s ++ putAll hd ++ putAll bd = X at *
  have HX : Hid (nums s ++ putAll hd ++ putAll bd = X) := hX
  clear hX
  have hsm := sumOf_bd X
  go_wp2_with fail
  refine (S2.sum_any _ _ _ X _ (by omega) hL2 hby).mono ?_
  rintro e w3 ⟨rfl, hw3⟩
  subst w3
  have hP := putSum_any a2 m2 k2 (sumOf X) X w2 hsm.1 hsm.2 (by omega) hL2
  go_wp2_with fail
  refine hP.mono ?_
  rintro e w4 ⟨g4, k4, rfl, ho4, hb4⟩
  have hq4 := hq2.trans (hb4.mono hq2.size)
  have ho5 := ownsRow_mono ho4 hq2.size
  clear hP ho4
  go_wp2
  go_ret
  refine ⟨g4, _, k4, rfl, ?_, hq4⟩
  have := HX.out
  rw [this]
  exact ho5
end Go.Proofs.YtdkcplndplhblaaGreatDoor

/- EncodeRequest and EncodeReply by their contracts. -/
namespace Go.Proofs.YtdkcplndplhblaaGreatDoor
open Go.RowKit
set_option maxRecDepth 100000

theorem pick_mem {l : List Int} {gs : List (Int × Val)} {g : Int × Val} (h : g ∈ pick l gs) : g ∈ gs ∧ g.1 ∈ l := by
  simpa [pick] using h
theorem pick_len (l : List Int) (gs : List (Int × Val)) : (pick l gs).length ≤ gs.length := List.length_filter_le _ _
theorem name_small {s : ByteArray} (h : nameB s = true) : s.size ≤ 23 := by
  have := (N3.okName_len h).2; rw [N3.size_bs]; exact this
theorem may_small {op no : Int} {x : Val} (h : mayB op no x = true) : Small x := by
  cases x with
  | path s =>
    have h1 : N3.splitE (N3.bs s) = 0 := by simpa [mayB] using h
    obtain ⟨h2, h3⟩ := N3.path_split h1
    have h4 := N3.pathT_len h2
    rw [h3] at h4
    show s.size ≤ 1000
    rw [N3.size_bs]; omega
  | name s =>
    show s.size ≤ 1000
    simp only [mayB, Bool.or_eq_true, Bool.and_eq_true, decide_eq_true_eq] at h
    rcases h with h | h
    · omega
    · have := name_small h; omega
  | content d =>
    show d.length ≤ 2000
    simp only [mayB, Bool.and_eq_true, decide_eq_true_eq] at h
    omega
  | entries l =>
    show l.length ≤ 16 ∧ _
    simp only [mayB, listB, Bool.and_eq_true, decide_eq_true_eq] at h
    refine ⟨h.1, fun e he => ?_⟩
    obtain ⟨k, hk, rfl⟩ := List.getElem_of_mem he
    have h2 := h.2 k hk
    have h3 : entOk l[k] = true := by
      cases h4 : entOk l[k]
      · rw [okAt_ent hk h4] at h2; cases h2
      · rfl
    simp only [entOk, Bool.and_eq_true] at h3
    have := name_small h3.1.1
    omega
  | _ => trivial
theorem judge_small {op : Int} {l : List Int} {gs : List (Int × Val)} (h : judgeE op l gs = 0) : ∀ g ∈ pick l gs, Small g.2 := by
  intro g hg
  obtain ⟨h1, h2⟩ := pick_mem hg
  have h3 : gs.all (fieldB op l) = true := by
    unfold judgeE at h
    by_cases hx : gs.all (fieldB op l) = true
    · exact hx
    · rw [if_neg hx] at h; cases h
  have h4 := List.all_eq_true.1 h3 g h1
  unfold fieldB at h4
  rw [if_pos h2] at h4
  exact may_small h4

/-- The bytes of a request's datagram. -/
def rqB (r : Req) : List Int := closeB (nums ⟨#[65, 78, 81, 49]⟩ ++ putAll (rqHead r) ++ putAll (pick (hasRq r.op) (rqAny r)))
def rpB (r : Rep) : List Int := closeB (nums ⟨#[65, 78, 82, 49]⟩ ++ putAll (rpHead r) ++ putAll (pick (hasRp r.op r.status) (rpAny r)))
/-- What an Encode leaves: nothing and the error, or a new datagram. -/
def EncR (w : World) (e : Ending) (w' : World) (E : Int) (X : List Int) : Prop :=
  (E ≠ 0 ∧ e = .returned (.tuple #[.slice none 0 0, .int .i64 E]) ∧ Below w.heap.size w w') ∨
  (E = 0 ∧ ∃ g n cap, e = .returned (.tuple #[.slice (some ⟨g, 0, none⟩) n cap, .int .i64 0]) ∧ w'.ownsRow w.heap.size 5 1 (.slice (some ⟨g, 0, none⟩) n cap) n (X.map (Value.int .u8)) ∧ Below w.heap.size w w')

theorem rqE_zero {r : Req} (h : rqE r = 0) : judgeE r.op (hasRq r.op) (rqAny r) = 0 := by
  unfold rqE at h
  by_cases h1 : rqHeadE r = 0
  · rw [if_pos h1] at h; exact h
  · rw [if_neg h1] at h; exact absurd h h1
theorem requestHead_bys (r : Req) : (∀ g ∈ rqHead r, VBy g.2) ∧ (∀ g ∈ rqHead r, Small g.2) ∧ (putAll (rqHead r)).length ≤ 100 := by
  refine ⟨?_, ?_, ?_⟩
  · intro g hg; simp only [rqHead, List.mem_cons, List.not_mem_nil, or_false] at hg; rcases hg with rfl | rfl | rfl | rfl | rfl <;> trivial
  · intro g hg; simp only [rqHead, List.mem_cons, List.not_mem_nil, or_false] at hg; rcases hg with rfl | rfl | rfl | rfl | rfl <;> trivial
  · simp [rqHead, putAll, putV, be_length]
theorem requestBody_bys (r : Req) (h : Bys r.data) : ∀ g ∈ rqAny r, VBy g.2 := by
  intro g hg
  simp only [rqAny, List.mem_cons, List.not_mem_nil, or_false] at hg
  rcases hg with rfl | rfl | rfl | rfl | rfl | rfl | rfl | rfl <;> first | trivial | exact h

set_option maxHeartbeats 4000000 in
theorem EncodeRequest_any (r : Req) (ao : Option Addr) (n c : Nat) (w : World) (hD : Lies w ao n c r.data) (hp : r.path.size ≤ 281474976710656) (hby : Bys r.data) :
    Calls Tryz.prog 18 #[rqV r ao n c] w fun e w' => EncR w e w' (rqE r) (rqB r) := by
  have hB0 := RqBox.new w r ao n c
  by_cases h0 : rqE r = 0
  · have hj := rqE_zero h0
    have hsm := judge_small hj
    have hvb : ∀ g ∈ pick (hasRq r.op) (rqAny r), VBy g.2 := fun g hg => requestBody_bys r hby g (pick_mem hg).1
    obtain ⟨hh1, hh2, hh3⟩ := requestHead_bys r
    have H0 : Hid (rqE r = 0) := h0
    go_enter Tryz.func18, Tryz.ntmps18
    go_wp2_with fail
    refine (checkRequest_any r ao n c _ (hD.boxed _) hp).mono ?_
    rintro e w1 ⟨rfl, hb1⟩
    rw [h0]
    clear h0 hj
    have hB1 := RqBox.later hB0 hb1 (Nat.le_refl _)
    have hq1 : Below w.heap.size w w1 := (newBox w _).trans (hb1.mono (by simp))
    clear hB0 hb1
    go_wp2_with fail
    replace hB1 : RqBox w1.drew w.heap.size r ao n c := hB1
    replace hq1 : Below w.heap.size w w1.drew := drw hq1
    go_region_held3 (fun w' => w'.cell? ⟨w.heap.size, 0, none⟩ = some (.int .i64 r.client) ∧ w'.cell? ⟨w.heap.size, 1, none⟩ = some (.int .i64 r.seq) ∧ w'.cell? ⟨w.heap.size, 2, none⟩ = some (.int .i64 r.ack) ∧ w'.cell? ⟨w.heap.size, 3, none⟩ = some (.int .i64 r.epoch) ∧ w'.cell? ⟨w.heap.size, 4, none⟩ = some (.int .i64 r.op) ∧ w'.cell? ⟨w.heap.size, 5, none⟩ = some (.int .i64 r.id) ∧ w'.cell? ⟨w.heap.size, 6, none⟩ = some (.int .i64 r.id2) ∧ w'.cell? ⟨w.heap.size, 7, none⟩ = some (.int .i64 r.off) ∧ w'.cell? ⟨w.heap.size, 8, none⟩ = some (.int .i64 r.len) ∧ w'.cell? ⟨w.heap.size, 9, none⟩ = some (.string r.path) ∧ w'.cell? ⟨w.heap.size, 10, none⟩ = some (.string r.name) ∧ w'.cell? ⟨w.heap.size, 11, none⟩ = some (.string r.name2) ∧ w'.cell? ⟨w.heap.size, 12, none⟩ = some (.slice ao n c))
      (first | exact hB1 | exact hB2 | exact hB3 | exact hB4)
      (first
        | (go_at_call 49; refine (requestHead_any r ao n c _).mono ?_; rintro e w2 ⟨fo2, k2, rfl, hF2, hb2⟩; have hB2 := RqBox.later hB1 hb2 (Nat.le_refl _); have hq2 := hq1.trans (hb2.mono hq1.size))
        | (go_at_call 50; refine (requestBody_any r ao n c _ (hD.below hq2 (Nat.le_refl _))).mono ?_; rintro e w3 ⟨fo3, m3, k3, rfl, hF3, hb3⟩; have hB3 := RqBox.later hB2 hb3 (Nat.le_refl _); have hq3 := hq2.trans (hb3.mono hq2.size))
        | (go_at_call 48; refine (encode_any ⟨#[65, 78, 81, 49]⟩ (rqHead r) (pick (hasRq r.op) (rqAny r)) fo2 5 k2 fo3 m3 k3 _ (by decide) hh3 (hF2.below hb3 (Nat.le_refl _)) hF3 (by omega) (by have h1 := hF3.hlen; have h2 := pick_len (hasRq r.op) (rqAny r); have h3 : (rqAny r).length = 8 := rfl; omega) hh2 hsm hh1 hvb).mono ?_; rintro e w4 ⟨g4, m4, k4, rfl, ho4, hb4⟩; have hB4 := RqBox.later hB3 hb4 (Nat.le_refl _)))
    have hq4 := hq3.trans (hb4.mono hq3.size)
    have ho5 := ownsRow_mono ho4 hq3.size
    clear hB1 hB2 hB3 hB4 ho4
    go_wp2
    go_ret2
    exact .inr ⟨H0.out, g4, m4, k4, rfl, ho5, hq4⟩
  · have h1 : (rqE r != 0) = true := by simpa using h0
    have H0 : Hid (rqE r ≠ 0) := h0
    go_enter Tryz.func18, Tryz.ntmps18
    go_wp2_with fail
    refine (checkRequest_any r ao n c _ (hD.boxed _) hp).mono ?_
    rintro e w1 ⟨rfl, hb1⟩
    have hq1 : Below w.heap.size w w1 := (newBox w _).trans (hb1.mono (by simp))
    clear hB0 hb1
    go_wp2
    go_ret2
    exact .inl ⟨H0.out, rfl, hq1⟩

theorem rpE_zero {r : Rep} (h : rpE r = 0) : judgeE r.op (hasRp r.op r.status) (rpAny r) = 0 := by
  unfold rpE at h
  by_cases h1 : rpHeadE r = 0
  · rw [if_pos h1] at h
    unfold rpBodyE at h
    by_cases h2 : (r.more && decide (r.list.length = 0)) = true
    · rw [if_pos h2] at h; cases h
    · rw [if_neg h2] at h; exact h
  · rw [if_neg h1] at h; exact absurd h h1
theorem replyHead_bys (r : Rep) : (∀ g ∈ rpHead r, VBy g.2) ∧ (∀ g ∈ rpHead r, Small g.2) ∧ (putAll (rpHead r)).length ≤ 100 := by
  refine ⟨?_, ?_, ?_⟩
  · intro g hg; simp only [rpHead, List.mem_cons, List.not_mem_nil, or_false] at hg; rcases hg with rfl | rfl | rfl | rfl | rfl <;> trivial
  · intro g hg; simp only [rpHead, List.mem_cons, List.not_mem_nil, or_false] at hg; rcases hg with rfl | rfl | rfl | rfl | rfl <;> trivial
  · simp [rpHead, putAll, putV, be_length]
theorem replyBody_bys (r : Rep) (h : Bys r.data) : ∀ g ∈ rpAny r, VBy g.2 := by
  intro g hg
  simp only [rpAny, List.mem_cons, List.not_mem_nil, or_false] at hg
  rcases hg with rfl | rfl | rfl | rfl <;> first | trivial | exact h

set_option maxHeartbeats 4000000 in
theorem EncodeReply_any (r : Rep) (ao : Option Addr) (n c : Nat) (lo : Option Addr) (ln lc : Nat) (w : World) (hD : Lies w ao n c r.data) (hE : CLies w lo ln lc 3 (entCells r.list)) (hel : r.list.length = ln) (hby : Bys r.data) :
    Calls Tryz.prog 20 #[rpV r ao n c lo ln lc] w fun e w' => EncR w e w' (rpE r) (rpB r) := by
  have hB0 := RpBox.new w r ao n c lo ln lc
  have HEL : Hid (r.list.length = ln) := hel
  clear hel
  by_cases h0 : rpE r = 0
  · have hj := rpE_zero h0
    have hsm := judge_small hj
    have hvb : ∀ g ∈ pick (hasRp r.op r.status) (rpAny r), VBy g.2 := fun g hg => replyBody_bys r hby g (pick_mem hg).1
    obtain ⟨hh1, hh2, hh3⟩ := replyHead_bys r
    have H0 : Hid (rpE r = 0) := h0
    go_enter Tryz.func20, Tryz.ntmps20
    go_wp2_with fail
    refine (checkReply_any r ao n c lo ln lc _ (hD.boxed _) (hE.boxed _) HEL.out).mono ?_
    rintro e w1 ⟨rfl, hb1⟩
    rw [h0]
    clear h0 hj
    have hB1 := RpBox.later hB0 hb1 (Nat.le_refl _)
    have hq1 : Below w.heap.size w w1 := (newBox w _).trans (hb1.mono (by simp))
    clear hB0 hb1
    go_wp2_with fail
    replace hB1 : RpBox w1.drew w.heap.size r ao n c lo ln lc := hB1
    replace hq1 : Below w.heap.size w w1.drew := drw hq1
    go_region_held3 (fun w' => w'.cell? ⟨w.heap.size, 0, none⟩ = some (.int .i64 r.client) ∧ w'.cell? ⟨w.heap.size, 1, none⟩ = some (.int .i64 r.seq) ∧ w'.cell? ⟨w.heap.size, 2, none⟩ = some (.int .i64 r.epoch) ∧ w'.cell? ⟨w.heap.size, 3, none⟩ = some (.int .i64 r.op) ∧ w'.cell? ⟨w.heap.size, 4, none⟩ = some (.int .i64 r.status) ∧ w'.cell? ⟨w.heap.size, 5, none⟩ = some (.int .i64 r.ai) ∧ w'.cell? ⟨w.heap.size, 6, none⟩ = some (.int .i64 r.ak) ∧ w'.cell? ⟨w.heap.size, 7, none⟩ = some (.int .i64 r.az) ∧ w'.cell? ⟨w.heap.size, 8, none⟩ = some (.int .i64 r.ac) ∧ w'.cell? ⟨w.heap.size, 9, none⟩ = some (.slice ao n c) ∧ w'.cell? ⟨w.heap.size, 10, none⟩ = some (.slice lo ln lc) ∧ w'.cell? ⟨w.heap.size, 11, none⟩ = some (.bool r.more))
      (first | exact hB1 | exact hB2 | exact hB3 | exact hB4)
      (first
        | (go_at_call 53; refine (replyHead_any r ao n c lo ln lc _).mono ?_; rintro e w2 ⟨fo2, k2, rfl, hF2, hb2⟩; have hB2 := RpBox.later hB1 hb2 (Nat.le_refl _); have hq2 := hq1.trans (hb2.mono hq1.size))
        | (go_at_call 54; refine (replyBody_any r ao n c lo ln lc _ (hD.below hq2 (Nat.le_refl _)) (hE.below hq2 (Nat.le_refl _)) HEL.out).mono ?_; rintro e w3 ⟨fo3, m3, k3, rfl, hF3, hb3⟩; have hB3 := RpBox.later hB2 hb3 (Nat.le_refl _); have hq3 := hq2.trans (hb3.mono hq2.size))
        | (go_at_call 48; refine (encode_any ⟨#[65, 78, 82, 49]⟩ (rpHead r) (pick (hasRp r.op r.status) (rpAny r)) fo2 5 k2 fo3 m3 k3 _ (by decide) hh3 (hF2.below hb3 (Nat.le_refl _)) hF3 (by omega) (by have h1 := hF3.hlen; have h2 := pick_len (hasRp r.op r.status) (rpAny r); have h3 : (rpAny r).length = 4 := rfl; omega) hh2 hsm hh1 hvb).mono ?_; rintro e w4 ⟨g4, m4, k4, rfl, ho4, hb4⟩; have hB4 := RpBox.later hB3 hb4 (Nat.le_refl _)))
    have hq4 := hq3.trans (hb4.mono hq3.size)
    have ho5 := ownsRow_mono ho4 hq3.size
    clear hB1 hB2 hB3 hB4 ho4
    go_wp2
    go_ret2
    exact .inr ⟨H0.out, g4, m4, k4, rfl, ho5, hq4⟩
  · have h1 : (rpE r != 0) = true := by simpa using h0
    have H0 : Hid (rpE r ≠ 0) := h0
    go_enter Tryz.func20, Tryz.ntmps20
    go_wp2_with fail
    refine (checkReply_any r ao n c lo ln lc _ (hD.boxed _) (hE.boxed _) HEL.out).mono ?_
    rintro e w1 ⟨rfl, hb1⟩
    have hq1 : Below w.heap.size w w1 := (newBox w _).trans (hb1.mono (by simp))
    clear hB0 hb1
    go_wp2
    go_ret2
    exact .inl ⟨H0.out, rfl, hq1⟩

end Go.Proofs.YtdkcplndplhblaaGreatDoor

/- Requests, replies and entries that came in, opened once. -/
namespace Go.Proofs.YtdkcplndplhblaaGreatDoor
open Go.ChangeShapes Go.WideShapes Go.ChangeAt Go.RowKit Go.Deep
set_option maxRecDepth 100000

theorem cellsS : Tryz.prog.cellsOf 9 = 1 := by kernel_rfl
theorem cellsB : Tryz.prog.cellsOf 22 = 1 := by kernel_rfl
theorem cellsL : Tryz.prog.cellsOf 28 = 1 := by kernel_rfl
theorem cellsF : Tryz.prog.cellsOf 4 = 1 := by kernel_rfl
theorem cellsN : Tryz.prog.cellsOf 25 = 1 := by kernel_rfl
theorem cellsRq : Tryz.prog.cellsOf 24 = 13 := by kernel_rfl
theorem cellsRp : Tryz.prog.cellsOf 30 = 12 := by kernel_rfl
theorem cellsEnt : Tryz.prog.cellsOf 86 = 3 := by kernel_rfl
theorem cellsAttr : Tryz.prog.cellsOf 27 = 4 := by kernel_rfl

theorem bytes_of {H : Type} {enc : TypeId × Value → H} {W : World} {fuel : Nat} {cs : List Value} {y : DataW H × List MemPlace}
    (hf : DataW.trod enc Tryz.prog W 0 (fun _ => true) true fuel 22 cs = some y) :
    ∃ a0 len cap Z, cs = [.slice a0 len cap] ∧ Lies W a0 len cap Z ∧ (∀ x ∈ Z, 0 ≤ x ∧ x ≤ 255) ∧ (len = 0 ∨ ∃ sp, y.1 = .slice (lits .u8 Z) sp) := by
  have hcs : ∃ a0 len cap, cs = [.slice a0 len cap] := by
    rcases open_ints Tryz.underlying22 Tryz.underlying5 cells5 hf with ⟨h, _⟩ | ⟨a, len', cap', zs, h, _⟩
    · exact ⟨_, _, _, h⟩
    · exact ⟨_, _, _, h⟩
  obtain ⟨a0, len, cap, rfl⟩ := hcs
  obtain ⟨d, p⟩ := y
  obtain ⟨Z, h1, h2, h3⟩ := view_bytes (a0 := a0) (len := len) (cap := cap) (d := d) (p := p) (fuel := fuel) hf
  exact ⟨a0, len, cap, Z, rfl, h1, h2, h3⟩

theorem ent_of {H : Type} {enc : TypeId × Value → H} {W : World} {fuel : Nat} {cs : List Value} {y : DataW H × List MemPlace} {a : Addr}
    (hc : W.cells? 0 a 3 = some cs) (hf : DataW.trod enc Tryz.prog W 0 (fun _ => true) true fuel 86 cs = some y) :
    ∃ x : Ent, ∀ j v, [Value.string x.name, .int .i64 x.id, .int .i64 x.kind][j]? = some v → W.cell? (a.add j) = some v := by
  obtain ⟨xs, n, _, _, hl, hn, hfs⟩ := DataW.trod_struct Tryz.underlying86 hf
  rw [cellsEnt] at hl
  obtain ⟨_, hlen, hcell⟩ := World.cells?_some hc
  match cs, hl with
  | [c0, c1, c2], _ =>
    match xs, hn with
    | [y0, y1, y2], _ =>
      have f0 : DataW.trod enc Tryz.prog W 0 (fun _ => true) true n 9 (([c0, c1, c2].drop 0).take (Tryz.prog.cellsOf 9)) = some y0 := hfs 0 _ rfl
      have f1 : DataW.trod enc Tryz.prog W 0 (fun _ => true) true n 3 (([c0, c1, c2].drop 1).take (Tryz.prog.cellsOf 3)) = some y1 := hfs 1 _ rfl
      have f2 : DataW.trod enc Tryz.prog W 0 (fun _ => true) true n 3 (([c0, c1, c2].drop 2).take (Tryz.prog.cellsOf 3)) = some y2 := hfs 2 _ rfl
      rw [cellsS] at f0
      rw [cells3] at f1 f2
      obtain ⟨s, e0, _, _⟩ := DataW.trod_string Tryz.underlying9 f0
      obtain ⟨X, e1, _, _⟩ := DataW.trod_int Tryz.underlying3 f1
      obtain ⟨K, e2, _, _⟩ := DataW.trod_int Tryz.underlying3 f2
      simp at e0 e1 e2
      subst e0 e1 e2
      refine ⟨⟨s, X, K⟩, fun j v hv => ?_⟩
      have hj : j < 3 := (List.getElem?_eq_some_iff.1 hv).1
      rw [hcell j hj]
      exact hv

theorem entCells_get3 : ∀ (l : List Ent) (t : Nat) (u : Value), (entCells l)[t]? = some u → ∃ h : t / 3 < l.length, [Value.string l[t / 3].name, .int .i64 l[t / 3].id, .int .i64 l[t / 3].kind][t % 3]? = some u
  | [], t, u, h => by simp [entCells] at h
  | e :: l, t, u, h => by
    by_cases ht : t < 3
    · have h0 : t / 3 = 0 := by omega
      have h1 : t % 3 = t := by omega
      refine ⟨by simp [h0], ?_⟩
      simp only [h0, h1, List.getElem_cons_zero]
      simp only [entCells, List.flatMap_cons] at h
      rwa [List.getElem?_append_left (by simpa using ht)] at h
    · obtain ⟨s, rfl⟩ : ∃ s, t = s + 3 := ⟨t - 3, by omega⟩
      have h2 : (s + 3) / 3 = s / 3 + 1 := by omega
      have h3 : (s + 3) % 3 = s % 3 := by omega
      have h4 : (entCells l)[s]? = some u := by
        simp only [entCells, List.flatMap_cons] at h
        rw [List.getElem?_append_right (by simp)] at h
        simpa [entCells] using h
      obtain ⟨h5, h6⟩ := entCells_get3 l s u h4
      refine ⟨by simp [h2]; omega, ?_⟩
      simp only [h2, h3, List.getElem_cons_succ]
      exact h6

theorem view_ents {H : Type} {enc : TypeId × Value → H} {W : World} {fuel : Nat} {cs : List Value} {y : DataW H × List MemPlace}
    (hf : DataW.trod enc Tryz.prog W 0 (fun _ => true) true fuel 28 cs = some y) :
    ∃ a0 len cap, ∃ l : List Ent, cs = [.slice a0 len cap] ∧ CLies W a0 len cap 3 (entCells l) ∧ l.length = len ∧ (len = 0 ∨ ∃ el sp, y.1 = .slice el sp ∧ el.length = len) := by
  rcases open_slice Tryz.underlying28 hf with ⟨hcs, hx⟩ | ⟨a, len, cap, m, n, D, Pl, hcs, _, hl, hm, hmm, hx, hel⟩
  · exact ⟨none, 0, 0, [], hcs, CLies.nil W 3, rfl, .inl rfl⟩
  · simp only [if_true] at hmm
    rw [cellsEnt] at hel
    have hinh : Inhabited Ent := ⟨⟨⟨#[]⟩, 0, 0⟩⟩
    obtain ⟨X, hX⟩ := choose_lt (α := Ent) (p := fun i x => ∀ j v, [Value.string x.name, .int .i64 x.id, .int .i64 x.kind][j]? = some v → W.cell? ((a.add (i * 3)).add j) = some v) (n := len) (fun i hi => by
      obtain ⟨cs', h1, h2⟩ := hel i (by omega)
      exact ent_of h1 h2)
    refine ⟨some a, len, cap, (List.range len).map X, hcs, ⟨by simp [entCells_length], hl, (fun h => by cases h), fun ad had t u hu => ?_⟩, by simp, .inr ⟨_, _, by rw [hx], by simp⟩⟩
    obtain rfl := Option.some.inj had
    obtain ⟨h1, h2⟩ := entCells_get3 _ t u hu
    simp at h1 h2
    have := hX (t / 3) h1 (t % 3) u h2
    have h0 := hX 0 (by omega) 0 _ rfl
    obtain ⟨b, o, spot⟩ := a
    have hspot : spot = none := by simpa [Addr.add] using World.cell?_spot h0
    subst hspot
    rw [Addr.add_lit, Addr.add_lit, show o + t / 3 * 3 + t % 3 = o + t by omega] at this
    rw [Addr.add_lit]
    exact this

theorem view_rq {H : Type} {enc : TypeId × Value → H} {W : World} {fuel : Nat} {cs : Array Value} {d : DataW H} {p : List MemPlace}
    (hf : DataW.trod enc Tryz.prog W 0 (fun _ => true) true fuel 24 (Value.agg cs).cells.toList = some (d, p)) :
    ∃ (r : Req) (ao : Option Addr) (k c : Nat), Value.agg cs = rqV r ao k c ∧ Lies W ao k c r.data ∧ Bys r.data ∧ (∀ n ∈ [r.path.size, r.name.size, r.name2.size], n ∈ d.weights Tryz.prog 24) := by
  obtain ⟨cs⟩ := cs
  replace hf : DataW.trod enc Tryz.prog W 0 (fun _ => true) true fuel 24 cs = some (d, p) := hf
  obtain ⟨xs, n, _, hd, hl, hn, hfs⟩ := DataW.trod_struct Tryz.underlying24 hf
  rw [cellsRq] at hl
  match cs, hl with
  | [c0, c1, c2, c3, c4, c5, c6, c7, c8, c9, c10, c11, c12], _ =>
    match xs, hn with
    | [y0, y1, y2, y3, y4, y5, y6, y7, y8, y9, y10, y11, y12], _ =>
      have f0 : DataW.trod enc Tryz.prog W 0 (fun _ => true) true n 3 (([c0, c1, c2, c3, c4, c5, c6, c7, c8, c9, c10, c11, c12].drop 0).take (Tryz.prog.cellsOf 3)) = some y0 := hfs 0 _ rfl
      have f1 : DataW.trod enc Tryz.prog W 0 (fun _ => true) true n 3 (([c0, c1, c2, c3, c4, c5, c6, c7, c8, c9, c10, c11, c12].drop 1).take (Tryz.prog.cellsOf 3)) = some y1 := hfs 1 _ rfl
      have f2 : DataW.trod enc Tryz.prog W 0 (fun _ => true) true n 3 (([c0, c1, c2, c3, c4, c5, c6, c7, c8, c9, c10, c11, c12].drop 2).take (Tryz.prog.cellsOf 3)) = some y2 := hfs 2 _ rfl
      have f3 : DataW.trod enc Tryz.prog W 0 (fun _ => true) true n 3 (([c0, c1, c2, c3, c4, c5, c6, c7, c8, c9, c10, c11, c12].drop 3).take (Tryz.prog.cellsOf 3)) = some y3 := hfs 3 _ rfl
      have f4 : DataW.trod enc Tryz.prog W 0 (fun _ => true) true n 3 (([c0, c1, c2, c3, c4, c5, c6, c7, c8, c9, c10, c11, c12].drop 4).take (Tryz.prog.cellsOf 3)) = some y4 := hfs 4 _ rfl
      have f5 : DataW.trod enc Tryz.prog W 0 (fun _ => true) true n 3 (([c0, c1, c2, c3, c4, c5, c6, c7, c8, c9, c10, c11, c12].drop 5).take (Tryz.prog.cellsOf 3)) = some y5 := hfs 5 _ rfl
      have f6 : DataW.trod enc Tryz.prog W 0 (fun _ => true) true n 3 (([c0, c1, c2, c3, c4, c5, c6, c7, c8, c9, c10, c11, c12].drop 6).take (Tryz.prog.cellsOf 3)) = some y6 := hfs 6 _ rfl
      have f7 : DataW.trod enc Tryz.prog W 0 (fun _ => true) true n 3 (([c0, c1, c2, c3, c4, c5, c6, c7, c8, c9, c10, c11, c12].drop 7).take (Tryz.prog.cellsOf 3)) = some y7 := hfs 7 _ rfl
      have f8 : DataW.trod enc Tryz.prog W 0 (fun _ => true) true n 3 (([c0, c1, c2, c3, c4, c5, c6, c7, c8, c9, c10, c11, c12].drop 8).take (Tryz.prog.cellsOf 3)) = some y8 := hfs 8 _ rfl
      have f9 : DataW.trod enc Tryz.prog W 0 (fun _ => true) true n 9 (([c0, c1, c2, c3, c4, c5, c6, c7, c8, c9, c10, c11, c12].drop 9).take (Tryz.prog.cellsOf 9)) = some y9 := hfs 9 _ rfl
      have f10 : DataW.trod enc Tryz.prog W 0 (fun _ => true) true n 9 (([c0, c1, c2, c3, c4, c5, c6, c7, c8, c9, c10, c11, c12].drop 10).take (Tryz.prog.cellsOf 9)) = some y10 := hfs 10 _ rfl
      have f11 : DataW.trod enc Tryz.prog W 0 (fun _ => true) true n 9 (([c0, c1, c2, c3, c4, c5, c6, c7, c8, c9, c10, c11, c12].drop 11).take (Tryz.prog.cellsOf 9)) = some y11 := hfs 11 _ rfl
      have f12 : DataW.trod enc Tryz.prog W 0 (fun _ => true) true n 22 (([c0, c1, c2, c3, c4, c5, c6, c7, c8, c9, c10, c11, c12].drop 12).take (Tryz.prog.cellsOf 22)) = some y12 := hfs 12 _ rfl
      rw [cells3] at f0
      rw [cells3] at f1
      rw [cells3] at f2
      rw [cells3] at f3
      rw [cells3] at f4
      rw [cells3] at f5
      rw [cells3] at f6
      rw [cells3] at f7
      rw [cells3] at f8
      rw [cellsS] at f9
      rw [cellsS] at f10
      rw [cellsS] at f11
      rw [cellsB] at f12
      obtain ⟨x0, e0, _, _⟩ := DataW.trod_int Tryz.underlying3 f0
      obtain ⟨x1, e1, _, _⟩ := DataW.trod_int Tryz.underlying3 f1
      obtain ⟨x2, e2, _, _⟩ := DataW.trod_int Tryz.underlying3 f2
      obtain ⟨x3, e3, _, _⟩ := DataW.trod_int Tryz.underlying3 f3
      obtain ⟨x4, e4, _, _⟩ := DataW.trod_int Tryz.underlying3 f4
      obtain ⟨x5, e5, _, _⟩ := DataW.trod_int Tryz.underlying3 f5
      obtain ⟨x6, e6, _, _⟩ := DataW.trod_int Tryz.underlying3 f6
      obtain ⟨x7, e7, _, _⟩ := DataW.trod_int Tryz.underlying3 f7
      obtain ⟨x8, e8, _, _⟩ := DataW.trod_int Tryz.underlying3 f8
      obtain ⟨x9, e9, k9, _⟩ := DataW.trod_string Tryz.underlying9 f9
      obtain ⟨x10, e10, k10, _⟩ := DataW.trod_string Tryz.underlying9 f10
      obtain ⟨x11, e11, k11, _⟩ := DataW.trod_string Tryz.underlying9 f11
      obtain ⟨ao, dl, dc, Z, e12, hL, hs, hZ⟩ := bytes_of f12
      simp at e0 e1 e2 e3 e4 e5 e6 e7 e8 e9 e10 e11 e12
      subst e0 e1 e2 e3 e4 e5 e6 e7 e8 e9 e10 e11 e12
      simp only [Prod.mk.injEq] at hd
      have hw : ∀ (j : Nat) (t : TypeId) (q : DataW H) (m : Nat), ([3, 3, 3, 3, 3, 3, 3, 3, 3, 9, 9, 9, 22] : List TypeId)[j]? = some t → [y0.1, y1.1, y2.1, y3.1, y4.1, y5.1, y6.1, y7.1, y8.1, y9.1, y10.1, y11.1, y12.1][j]? = some q → m ∈ q.weights Tryz.prog t → m ∈ d.weights Tryz.prog 24 := fun j t q m h1 h2 h3 => by
        rw [hd.1]
        simp only [DataW.weights, Tryz.underlying24]
        exact DataW.weights_mem_each h1 h2 m h3
      refine ⟨⟨x0, x1, x2, x3, x4, x5, x6, x7, x8, x9, x10, x11, Z⟩, ao, dl, dc, rfl, hL, hs, fun m hm => ?_⟩
      simp only [List.mem_cons, List.not_mem_nil, or_false] at hm
      rcases hm with rfl | rfl | rfl
      · exact (hw 9 _ _ _ rfl rfl (by rw [k9]; exact List.mem_singleton.2 rfl))
      · exact (hw 10 _ _ _ rfl rfl (by rw [k10]; exact List.mem_singleton.2 rfl))
      · exact (hw 11 _ _ _ rfl rfl (by rw [k11]; exact List.mem_singleton.2 rfl))

theorem attr_of {H : Type} {enc : TypeId × Value → H} {W : World} {fuel : Nat} {c0 c1 c2 c3 : Value} {y : DataW H × List MemPlace}
    (hf : DataW.trod enc Tryz.prog W 0 (fun _ => true) true fuel 27 [c0, c1, c2, c3] = some y) :
    ∃ i k z c : Int, c0 = .int .i64 i ∧ c1 = .int .i64 k ∧ c2 = .int .i64 z ∧ c3 = .int .i64 c := by
  obtain ⟨xs, n, _, hd, hl, hn, hfs⟩ := DataW.trod_struct Tryz.underlying27 hf
  match xs, hn with
  | [y0, y1, y2, y3], _ =>
    have f0 : DataW.trod enc Tryz.prog W 0 (fun _ => true) true n 3 (([c0, c1, c2, c3].drop 0).take (Tryz.prog.cellsOf 3)) = some y0 := hfs 0 _ rfl
    have f1 : DataW.trod enc Tryz.prog W 0 (fun _ => true) true n 3 (([c0, c1, c2, c3].drop 1).take (Tryz.prog.cellsOf 3)) = some y1 := hfs 1 _ rfl
    have f2 : DataW.trod enc Tryz.prog W 0 (fun _ => true) true n 3 (([c0, c1, c2, c3].drop 2).take (Tryz.prog.cellsOf 3)) = some y2 := hfs 2 _ rfl
    have f3 : DataW.trod enc Tryz.prog W 0 (fun _ => true) true n 3 (([c0, c1, c2, c3].drop 3).take (Tryz.prog.cellsOf 3)) = some y3 := hfs 3 _ rfl
    rw [cells3] at f0 f1 f2 f3
    obtain ⟨x0, e0, _, _⟩ := DataW.trod_int Tryz.underlying3 f0
    obtain ⟨x1, e1, _, _⟩ := DataW.trod_int Tryz.underlying3 f1
    obtain ⟨x2, e2, _, _⟩ := DataW.trod_int Tryz.underlying3 f2
    obtain ⟨x3, e3, _, _⟩ := DataW.trod_int Tryz.underlying3 f3
    simp at e0 e1 e2 e3
    exact ⟨x0, x1, x2, x3, e0, e1, e2, e3⟩

theorem view_rp {H : Type} {enc : TypeId × Value → H} {W : World} {fuel : Nat} {cs : Array Value} {d : DataW H} {p : List MemPlace}
    (hf : DataW.trod enc Tryz.prog W 0 (fun _ => true) true fuel 30 (Value.agg cs).cells.toList = some (d, p)) :
    ∃ (r : Rep) (ao : Option Addr) (k c : Nat) (lo : Option Addr) (ln lc : Nat), Value.agg cs = rpV r ao k c lo ln lc ∧ Lies W ao k c r.data ∧ Bys r.data ∧ CLies W lo ln lc 3 (entCells r.list) ∧ r.list.length = ln := by
  obtain ⟨cs⟩ := cs
  replace hf : DataW.trod enc Tryz.prog W 0 (fun _ => true) true fuel 30 cs = some (d, p) := hf
  obtain ⟨xs, n, _, hd, hl, hn, hfs⟩ := DataW.trod_struct Tryz.underlying30 hf
  rw [cellsRp] at hl
  match cs, hl with
  | [c0, c1, c2, c3, c4, c5, c6, c7, c8, c9, c10, c11], _ =>
    match xs, hn with
    | [y0, y1, y2, y3, y4, y5, y6, y7, y8], _ =>
      have f0 : DataW.trod enc Tryz.prog W 0 (fun _ => true) true n 3 (([c0, c1, c2, c3, c4, c5, c6, c7, c8, c9, c10, c11].drop 0).take (Tryz.prog.cellsOf 3)) = some y0 := hfs 0 _ rfl
      have f1 : DataW.trod enc Tryz.prog W 0 (fun _ => true) true n 3 (([c0, c1, c2, c3, c4, c5, c6, c7, c8, c9, c10, c11].drop 1).take (Tryz.prog.cellsOf 3)) = some y1 := hfs 1 _ rfl
      have f2 : DataW.trod enc Tryz.prog W 0 (fun _ => true) true n 3 (([c0, c1, c2, c3, c4, c5, c6, c7, c8, c9, c10, c11].drop 2).take (Tryz.prog.cellsOf 3)) = some y2 := hfs 2 _ rfl
      have f3 : DataW.trod enc Tryz.prog W 0 (fun _ => true) true n 3 (([c0, c1, c2, c3, c4, c5, c6, c7, c8, c9, c10, c11].drop 3).take (Tryz.prog.cellsOf 3)) = some y3 := hfs 3 _ rfl
      have f4 : DataW.trod enc Tryz.prog W 0 (fun _ => true) true n 25 (([c0, c1, c2, c3, c4, c5, c6, c7, c8, c9, c10, c11].drop 4).take (Tryz.prog.cellsOf 25)) = some y4 := hfs 4 _ rfl
      have f5 : DataW.trod enc Tryz.prog W 0 (fun _ => true) true n 27 (([c0, c1, c2, c3, c4, c5, c6, c7, c8, c9, c10, c11].drop 5).take (Tryz.prog.cellsOf 27)) = some y5 := hfs 5 _ rfl
      have f6 : DataW.trod enc Tryz.prog W 0 (fun _ => true) true n 22 (([c0, c1, c2, c3, c4, c5, c6, c7, c8, c9, c10, c11].drop 9).take (Tryz.prog.cellsOf 22)) = some y6 := hfs 6 _ rfl
      have f7 : DataW.trod enc Tryz.prog W 0 (fun _ => true) true n 28 (([c0, c1, c2, c3, c4, c5, c6, c7, c8, c9, c10, c11].drop 10).take (Tryz.prog.cellsOf 28)) = some y7 := hfs 7 _ rfl
      have f8 : DataW.trod enc Tryz.prog W 0 (fun _ => true) true n 4 (([c0, c1, c2, c3, c4, c5, c6, c7, c8, c9, c10, c11].drop 11).take (Tryz.prog.cellsOf 4)) = some y8 := hfs 8 _ rfl
      rw [cells3] at f0
      rw [cells3] at f1
      rw [cells3] at f2
      rw [cells3] at f3
      rw [cellsN] at f4
      rw [cellsAttr] at f5
      rw [cellsB] at f6
      rw [cellsL] at f7
      rw [cellsF] at f8
      obtain ⟨x0, e0, _, _⟩ := DataW.trod_int Tryz.underlying3 f0
      obtain ⟨x1, e1, _, _⟩ := DataW.trod_int Tryz.underlying3 f1
      obtain ⟨x2, e2, _, _⟩ := DataW.trod_int Tryz.underlying3 f2
      obtain ⟨x3, e3, _, _⟩ := DataW.trod_int Tryz.underlying3 f3
      obtain ⟨x4, e4, _, _⟩ := DataW.trod_int Tryz.underlying25 f4
      obtain ⟨g0, g1, g2, g3, u0, u1, u2, u3⟩ := attr_of (c0 := c5) (c1 := c6) (c2 := c7) (c3 := c8) f5
      obtain ⟨ao, dl, dc, Z, e6, hL, hs, hZ⟩ := bytes_of f6
      obtain ⟨lo, ln, lc, l, e7, hN, hel, hl⟩ := view_ents f7
      obtain ⟨x8, e8, _⟩ := DataW.trod_bool Tryz.underlying4 f8
      simp at e0 e1 e2 e3 e4 e6 e7 e8
      subst e0 e1 e2 e3 e4 e6 e7 e8 u0 u1 u2 u3
      exact ⟨⟨x0, x1, x2, x3, x4, g0, g1, g2, g3, Z, l, x8⟩, ao, dl, dc, lo, ln, lc, rfl, hL, hs, hN, hel⟩
end Go.Proofs.YtdkcplndplhblaaGreatDoor

/- How long the lists of a request and of a reply that came in can be. -/
namespace Go.Proofs.YtdkcplndplhblaaGreatDoor
open Go.ChangeShapes Go.WideShapes Go.ChangeAt Go.RowKit Go.Deep
set_option maxRecDepth 100000

theorem bytesEnt : Tryz.prog.bytesOf 86 = 32 := by kernel_rfl
theorem bytes_reach {H : Type} {enc : TypeId × Value → H} {W : World} {fuel : Nat} {ao : Option Addr} {k c : Nat} {y : DataW H × List MemPlace}
    (hf : DataW.trod enc Tryz.prog W 0 (fun _ => true) true fuel 22 [.slice ao k c] = some y) (hall : ∀ n ∈ y.1.weights Tryz.prog 22, n ≤ reachBytes) : k ≤ reachBytes := by
  obtain ⟨a', l', c', Z, e, hL, _, hZ⟩ := bytes_of hf
  cases e
  rcases hZ with h | ⟨sp, h⟩
  · omega
  · have h1 := hall (((lits (H := H) .u8 Z).length + sp.length) * Tryz.prog.bytesOf 5) (by rw [h]; simp [DataW.weights, Tryz.underlying22])
    have h2 : (lits (H := H) .u8 Z).length = k := by simp [lits, hL.hlen]
    rw [bytes5, h2] at h1
    omega
theorem ents_reach {H : Type} {enc : TypeId × Value → H} {W : World} {fuel : Nat} {ao : Option Addr} {k c : Nat} {y : DataW H × List MemPlace}
    (hf : DataW.trod enc Tryz.prog W 0 (fun _ => true) true fuel 28 [.slice ao k c] = some y) (hall : ∀ n ∈ y.1.weights Tryz.prog 28, n ≤ reachBytes) : k ≤ reachBytes := by
  obtain ⟨a', l', c', l, e, _, _, hZ⟩ := view_ents hf
  cases e
  rcases hZ with h | ⟨el, sp, h, hel⟩
  · omega
  · have h1 := hall ((el.length + sp.length) * Tryz.prog.bytesOf 86) (by rw [h]; simp [DataW.weights, Tryz.underlying28])
    rw [bytesEnt, hel] at h1
    omega
theorem rq_data {H : Type} {enc : TypeId × Value → H} {W : World} {fuel : Nat} {r : Req} {ao : Option Addr} {k c : Nat} {d : DataW H} {p : List MemPlace}
    (hf : DataW.trod enc Tryz.prog W 0 (fun _ => true) true fuel 24 (rqV r ao k c).cells.toList = some (d, p)) (hall : ∀ n ∈ d.weights Tryz.prog 24, n ≤ reachBytes) : k ≤ reachBytes := by
  obtain ⟨xs, n, _, hd, _, hn, hfs⟩ := DataW.trod_struct Tryz.underlying24 hf
  have f : DataW.trod enc Tryz.prog W 0 (fun _ => true) true n 22 (((rqV r ao k c).cells.toList.drop 12).take (Tryz.prog.cellsOf 22)) = xs[12]? := hfs 12 _ rfl
  rw [cellsB] at f
  replace f : DataW.trod enc Tryz.prog W 0 (fun _ => true) true n 22 [.slice ao k c] = xs[12]? := f
  have h12 : 12 < xs.length := by rw [hn]; decide
  have hy : xs[12]? = some xs[12] := by simp [h12]
  rw [hy] at f
  simp only [Prod.mk.injEq] at hd
  refine bytes_reach f fun m hm => hall m ?_
  rw [hd.1]
  simp only [DataW.weights, Tryz.underlying24]
  exact DataW.weights_mem_each (j := 12) (t := 22) (d := xs[12].1) rfl (by simp [h12]) m hm
theorem rp_data {H : Type} {enc : TypeId × Value → H} {W : World} {fuel : Nat} {r : Rep} {ao : Option Addr} {k c : Nat} {lo : Option Addr} {ln lc : Nat} {d : DataW H} {p : List MemPlace}
    (hf : DataW.trod enc Tryz.prog W 0 (fun _ => true) true fuel 30 (rpV r ao k c lo ln lc).cells.toList = some (d, p)) (hall : ∀ n ∈ d.weights Tryz.prog 30, n ≤ reachBytes) : k ≤ reachBytes ∧ ln ≤ reachBytes := by
  obtain ⟨xs, n, _, hd, _, hn, hfs⟩ := DataW.trod_struct Tryz.underlying30 hf
  have f : DataW.trod enc Tryz.prog W 0 (fun _ => true) true n 22 (((rpV r ao k c lo ln lc).cells.toList.drop 9).take (Tryz.prog.cellsOf 22)) = xs[6]? := hfs 6 _ rfl
  have g : DataW.trod enc Tryz.prog W 0 (fun _ => true) true n 28 (((rpV r ao k c lo ln lc).cells.toList.drop 10).take (Tryz.prog.cellsOf 28)) = xs[7]? := hfs 7 _ rfl
  rw [cellsB] at f
  rw [cellsL] at g
  replace f : DataW.trod enc Tryz.prog W 0 (fun _ => true) true n 22 [.slice ao k c] = xs[6]? := f
  replace g : DataW.trod enc Tryz.prog W 0 (fun _ => true) true n 28 [.slice lo ln lc] = xs[7]? := g
  have h6 : 6 < xs.length := by rw [hn]; decide
  have h7 : 7 < xs.length := by rw [hn]; decide
  have hy : xs[6]? = some xs[6] := by simp [h6]
  have hz : xs[7]? = some xs[7] := by simp [h7]
  rw [hy] at f
  rw [hz] at g
  simp only [Prod.mk.injEq] at hd
  refine ⟨bytes_reach f fun m hm => hall m ?_, ents_reach g fun m hm => hall m ?_⟩
  · rw [hd.1]
    simp only [DataW.weights, Tryz.underlying30]
    exact DataW.weights_mem_each (j := 6) (t := 22) (d := xs[6].1) rfl (by simp [h6]) m hm
  · rw [hd.1]
    simp only [DataW.weights, Tryz.underlying30]
    exact DataW.weights_mem_each (j := 7) (t := 28) (d := xs[7].1) rfl (by simp [h7]) m hm
theorem each_reach {H : Type} {ts : List TypeId} {ds : List (DataW H)} (hsz : (DataW.weightsEach Tryz.prog ts ds).all (· ≤ reachBytes) = true) {j : Nat} {t : TypeId} {d : DataW H} (ht : ts[j]? = some t) (hd : ds[j]? = some d) : ∀ n ∈ d.weights Tryz.prog t, n ≤ reachBytes := fun n hn => by
  simpa using List.all_eq_true.1 hsz n (DataW.weights_mem_each ht hd n hn)
end Go.Proofs.YtdkcplndplhblaaGreatDoor

/- A request and a reply that came in, and how much they weigh. -/
namespace Go.Proofs.YtdkcplndplhblaaGreatDoor
open Go.ChangeShapes Go.WideShapes Go.ChangeAt Go.RowKit Go.Deep
set_option maxRecDepth 100000

theorem bulk_one {H : Type} (d : DataW H) : 1 ≤ Rows.uptoBulk d := by
  cases d with
  | lit l => cases l <;> simp [Rows.uptoBulk]
  | nil => simp [Rows.uptoBulk]
  | ptr d => simp [Rows.uptoBulk]
  | slice elems spare => simp [Rows.uptoBulk]
  | agg parts => simp [Rows.uptoBulk]
  | iface t d => simp [Rows.uptoBulk]
  | map entries => simp [Rows.uptoBulk]
  | held h => simp [Rows.uptoBulk]
theorem bulk_length {H : Type} (l : List (DataW H)) : l.length ≤ Rows.uptoBulkAll l := by
  induction l with
  | nil => simp
  | cons x r ih => have := bulk_one x; simp only [Rows.uptoBulkAll, List.length_cons]; omega
theorem bulk_slice {H : Type} (el sp : List (DataW H)) : Rows.uptoBulkAll el + 1 ≤ Rows.uptoBulk (.slice el sp) := by
  simp only [Rows.uptoBulk]; omega
theorem bulk_at {H : Type} : ∀ (l : List (DataW H)) (j : Nat) (x : DataW H), l[j]? = some x → Rows.uptoBulk x ≤ Rows.uptoBulkAll l
  | [], j, x, h => by simp at h
  | y :: l, 0, x, h => by simp at h; subst h; simp only [Rows.uptoBulkAll]; omega
  | y :: l, j + 1, x, h => by
    have := bulk_at l j x (by simpa using h)
    simp only [Rows.uptoBulkAll]; omega
theorem bulk_agg {H : Type} (l : List (DataW H)) (j : Nat) (x : DataW H) (h : l[j]? = some x) : Rows.uptoBulk x + 1 ≤ Rows.uptoBulk (.agg l) := by
  have := bulk_at l j x h
  simp only [Rows.uptoBulk]; omega
theorem bytes_bulk {H : Type} {enc : TypeId × Value → H} {W : World} {fuel : Nat} {ao : Option Addr} {k c : Nat} {y : DataW H × List MemPlace}
    (hf : DataW.trod enc Tryz.prog W 0 (fun _ => true) true fuel 22 [.slice ao k c] = some y) : k + 1 ≤ Rows.uptoBulk y.1 := by
  obtain ⟨a', l', c', Z, e, hL, _, hZ⟩ := bytes_of hf
  cases e
  rcases hZ with h | ⟨sp, h⟩
  · have := bulk_one y.1; omega
  · have e1 := bulk_slice (H := H) (lits .u8 Z) sp
    have e2 := bulk_length (H := H) (lits .u8 Z)
    have e3 : (lits (H := H) .u8 Z).length = k := by simp [lits, hL.hlen]
    rw [h]; omega
theorem ents_bulk {H : Type} {enc : TypeId × Value → H} {W : World} {fuel : Nat} {ao : Option Addr} {k c : Nat} {y : DataW H × List MemPlace}
    (hf : DataW.trod enc Tryz.prog W 0 (fun _ => true) true fuel 28 [.slice ao k c] = some y) : k + 1 ≤ Rows.uptoBulk y.1 := by
  obtain ⟨a', l', c', l, e, _, _, hZ⟩ := view_ents hf
  cases e
  rcases hZ with h | ⟨el, sp, h, hel⟩
  · have := bulk_one y.1; omega
  · have e1 := bulk_slice (H := H) el sp
    have e2 := bulk_length (H := H) el
    rw [h]; omega
theorem rq_bulk {H : Type} {enc : TypeId × Value → H} {W : World} {fuel : Nat} {r : Req} {ao : Option Addr} {k c : Nat} {d : DataW H} {p : List MemPlace}
    (hf : DataW.trod enc Tryz.prog W 0 (fun _ => true) true fuel 24 (rqV r ao k c).cells.toList = some (d, p)) : k ≤ Rows.uptoBulk d ∧ r.path.size ≤ Rows.uptoBulk d := by
  obtain ⟨xs, n, _, hd, _, hn, hfs⟩ := DataW.trod_struct Tryz.underlying24 hf
  have f : DataW.trod enc Tryz.prog W 0 (fun _ => true) true n 22 (((rqV r ao k c).cells.toList.drop 12).take (Tryz.prog.cellsOf 22)) = xs[12]? := hfs 12 _ rfl
  have g : DataW.trod enc Tryz.prog W 0 (fun _ => true) true n 9 (((rqV r ao k c).cells.toList.drop 9).take (Tryz.prog.cellsOf 9)) = xs[9]? := hfs 9 _ rfl
  rw [cellsB] at f
  rw [cellsS] at g
  replace f : DataW.trod enc Tryz.prog W 0 (fun _ => true) true n 22 [.slice ao k c] = xs[12]? := f
  replace g : DataW.trod enc Tryz.prog W 0 (fun _ => true) true n 9 [.string r.path] = xs[9]? := g
  have h12 : 12 < xs.length := by rw [hn]; decide
  have h9 : 9 < xs.length := by rw [hn]; decide
  have hy : xs[12]? = some xs[12] := by simp [h12]
  have hz : xs[9]? = some xs[9] := by simp [h9]
  rw [hy] at f
  rw [hz] at g
  simp only [Prod.mk.injEq] at hd
  have b1 := bytes_bulk f
  obtain ⟨x9, e9, k9, _⟩ := DataW.trod_string Tryz.underlying9 g
  cases e9
  have b2 : r.path.size ≤ Rows.uptoBulk xs[9].1 := by
    rw [k9]
    simp only [Rows.uptoBulk]
    rw [N3.size_bs]
    exact Nat.le_succ _
  have a1 := bulk_agg (xs.map (·.1)) 12 xs[12].1 (by simp [h12])
  have a2 := bulk_agg (xs.map (·.1)) 9 xs[9].1 (by simp [h9])
  rw [hd.1]
  omega
theorem rp_bulk {H : Type} {enc : TypeId × Value → H} {W : World} {fuel : Nat} {r : Rep} {ao : Option Addr} {k c : Nat} {lo : Option Addr} {ln lc : Nat} {d : DataW H} {p : List MemPlace}
    (hf : DataW.trod enc Tryz.prog W 0 (fun _ => true) true fuel 30 (rpV r ao k c lo ln lc).cells.toList = some (d, p)) : k ≤ Rows.uptoBulk d ∧ ln ≤ Rows.uptoBulk d := by
  obtain ⟨xs, n, _, hd, _, hn, hfs⟩ := DataW.trod_struct Tryz.underlying30 hf
  have f : DataW.trod enc Tryz.prog W 0 (fun _ => true) true n 22 (((rpV r ao k c lo ln lc).cells.toList.drop 9).take (Tryz.prog.cellsOf 22)) = xs[6]? := hfs 6 _ rfl
  have g : DataW.trod enc Tryz.prog W 0 (fun _ => true) true n 28 (((rpV r ao k c lo ln lc).cells.toList.drop 10).take (Tryz.prog.cellsOf 28)) = xs[7]? := hfs 7 _ rfl
  rw [cellsB] at f
  rw [cellsL] at g
  replace f : DataW.trod enc Tryz.prog W 0 (fun _ => true) true n 22 [.slice ao k c] = xs[6]? := f
  replace g : DataW.trod enc Tryz.prog W 0 (fun _ => true) true n 28 [.slice lo ln lc] = xs[7]? := g
  have h6 : 6 < xs.length := by rw [hn]; decide
  have h7 : 7 < xs.length := by rw [hn]; decide
  have hy : xs[6]? = some xs[6] := by simp [h6]
  have hz : xs[7]? = some xs[7] := by simp [h7]
  rw [hy] at f
  rw [hz] at g
  simp only [Prod.mk.injEq] at hd
  have b1 := bytes_bulk f
  have b2 := ents_bulk g
  have a1 := bulk_agg (xs.map (·.1)) 6 xs[6].1 (by simp [h6])
  have a2 := bulk_agg (xs.map (·.1)) 7 xs[7].1 (by simp [h7])
  rw [hd.1]
  omega
end Go.Proofs.YtdkcplndplhblaaGreatDoor

/- Err by its contract. -/
namespace Go.Proofs.YtdkcplndplhblaaGreatDoor
open Go.RowKit
set_option maxRecDepth 100000

set_option maxHeartbeats 400000 in
theorem err_any (rb g n cap : Nat) (pl code : Int) (bs : List Int) (w : World) (hR : Rdr w rb g n cap pl code bs) :
    Calls Tryz.prog 128 #[.pointer (some ⟨rb, 0, none⟩)] w fun e w' => e = .returned (.tuple #[.int .i64 code, .int .i64 pl]) ∧ ∃ m, w' = w.drewN m := by
  have c1 := hR.c1
  have c2 := hR.c2
  go_enter Tryz.func128, Tryz.ntmps128
  go_wp2
  go_quiet (fail)
  go_wp2
  go_ret2
  exact ⟨rfl, _, rfl⟩
end Go.Proofs.YtdkcplndplhblaaGreatDoor

/- A reader and the memory beside it; what a field's reading gives. -/
namespace Go.Proofs.YtdkcplndplhblaaGreatDoor
open Go.RowKit
set_option maxRecDepth 100000

/-- A reader at a place, its bytes, its errors; no error lies in its block. -/
structure Rd (w : World) (rb g n : Nat) (bs : List Int) (er : Nat → Addr) (st : Nat × Int) : Prop where
  r : Rdr w rb g n n st.1 st.2 bs
  e : Errs w er
  p : st.1 ≤ n
  n0 : n ≤ 100000
  by' : Bys bs
  apart : ∀ i, i < 5 → some (gvar i) ≠ some rb ∧ some (er i).block ≠ some rb

theorem Rd.kept {w w' : World} {rb g n : Nat} {bs : List Int} {er : Nat → Addr} {st : Nat × Int} (h : Rd w rb g n bs er st) (hb : Below w.heap.size w w') : Rd w' rb g n bs er st :=
  ⟨h.r.kept (row := none) ⟨hb.os, hb.tape, hb.output, hb.size, fun i hi _ => hb.block i hi⟩ (by simp) (by simp), h.e.below hb (Nat.le_refl _), h.p, h.n0, h.by', h.apart⟩
theorem Rd.went {w w' : World} {rb g n : Nat} {bs : List Int} {er : Nat → Addr} {st st' : Nat × Int} (h : Rd w rb g n bs er st) (hw : Went w w' rb g n n st'.1 st'.2 bs) (hp : st'.1 ≤ n) : Rd w' rb g n bs er st' ∧ w.grownBy w' (some rb) :=
  ⟨⟨hw.1, h.e.grown hw.2 h.apart, hp, h.n0, h.by', h.apart⟩, hw.2⟩

theorem rdNum_le (k n : Nat) (bs : List Int) (pl : Nat) (code M : Int) (h : pl ≤ n) : (rdNum k n bs pl code M).2.1 ≤ n := by
  unfold rdNum; split
  · exact h
  · split
    · exact h
    · split
      · exact h
      · simp only; omega
theorem rdFlag_le (n : Nat) (bs : List Int) (pl : Nat) (code : Int) (h : pl ≤ n) : (rdFlag n bs pl code).2.1 ≤ n := by
  unfold rdFlag; split
  · exact h
  · split
    · exact h
    · split
      · exact h
      · simp only; omega
theorem rdSum_le (n : Nat) (bs : List Int) (pl : Nat) (code : Int) (h : pl ≤ n) : (rdSum n bs pl code).2.1 ≤ n := by
  unfold rdSum; split
  · exact h
  · split
    · exact h
    · simp only; omega
theorem rdText_le (n : Nat) (bs : List Int) (pl : Nat) (code M : Int) (h : pl ≤ n) : (rdText n bs pl code M).2.1 ≤ n := by
  unfold rdText; split
  · exact h
  · split
    · exact h
    · split
      · exact h
      · split
        · exact h
        · split
          · exact h
          · simp only; omega

theorem rd_u32 {rb g n : Nat} {bs : List Int} {er : Nat → Addr} {st : Nat × Int} (M : Int) (w : World) (h : Rd w rb g n bs er st) (hM : M ≤ 9223372036854775807) :
    Calls Tryz.prog 193 #[.pointer (some ⟨rb, 0, none⟩), .int .i64 M] w fun e w' => e = .returned (.int .i64 (rdNum 4 n bs st.1 st.2 M).1) ∧ Rd w' rb g n bs er (rdNum 4 n bs st.1 st.2 M).2 ∧ w.grownBy w' (some rb) := by
  have h0 := h.n0
  refine (u32_any rb g n n st.1 st.2 M bs er w h.r h.e h.p (by omega) h.by' hM).mono ?_
  rintro e w' ⟨he, hw⟩
  exact ⟨he, h.went hw (rdNum_le _ _ _ _ _ _ h.p)⟩
theorem rd_u64 {rb g n : Nat} {bs : List Int} {er : Nat → Addr} {st : Nat × Int} (M : Int) (w : World) (h : Rd w rb g n bs er st) (hM : M ≤ 9223372036854775807) :
    Calls Tryz.prog 200 #[.pointer (some ⟨rb, 0, none⟩), .int .i64 M] w fun e w' => e = .returned (.int .i64 (rdNum 8 n bs st.1 st.2 M).1) ∧ Rd w' rb g n bs er (rdNum 8 n bs st.1 st.2 M).2 ∧ w.grownBy w' (some rb) := by
  have h0 := h.n0
  refine (u64_any rb g n n st.1 st.2 M bs er w h.r h.e h.p (by omega) h.by' hM).mono ?_
  rintro e w' ⟨he, hw⟩
  exact ⟨he, h.went hw (rdNum_le _ _ _ _ _ _ h.p)⟩
theorem rd_flag {rb g n : Nat} {bs : List Int} {er : Nat → Addr} {st : Nat × Int} (w : World) (h : Rd w rb g n bs er st) :
    Calls Tryz.prog 189 #[.pointer (some ⟨rb, 0, none⟩)] w fun e w' => e = .returned (.bool (rdFlag n bs st.1 st.2).1) ∧ Rd w' rb g n bs er (rdFlag n bs st.1 st.2).2 ∧ w.grownBy w' (some rb) := by
  have h0 := h.n0
  refine (flag_any rb g n n st.1 st.2 bs er w h.r h.e h.p (by omega) h.by').mono ?_
  rintro e w' ⟨he, hw⟩
  exact ⟨he, h.went hw (rdFlag_le _ _ _ _ h.p)⟩
theorem rd_sum {rb g n : Nat} {bs : List Int} {er : Nat → Addr} {st : Nat × Int} (w : World) (h : Rd w rb g n bs er st) :
    Calls Tryz.prog 127 #[.pointer (some ⟨rb, 0, none⟩)] w fun e w' => e = .returned (.int .u64 (rdSum n bs st.1 st.2).1) ∧ Rd w' rb g n bs er (rdSum n bs st.1 st.2).2 ∧ w.grownBy w' (some rb) := by
  have h0 := h.n0
  refine (sum_any rb g n n st.1 st.2 bs er w h.r h.e h.p (by omega) h.by').mono ?_
  rintro e w' ⟨he, hw⟩
  exact ⟨he, h.went hw (rdSum_le _ _ _ _ h.p)⟩
theorem rd_text {rb g n : Nat} {bs : List Int} {er : Nat → Addr} {st : Nat × Int} (M : Int) (w : World) (h : Rd w rb g n bs er st) (hM : M ≤ 9223372036854775807) :
    Calls Tryz.prog 205 #[.pointer (some ⟨rb, 0, none⟩), .int .i64 M] w fun e w' => e = .returned (.string (txt (rdText n bs st.1 st.2 M).1)) ∧ Rd w' rb g n bs er (rdText n bs st.1 st.2 M).2 ∧ w.grownBy w' (some rb) := by
  have h0 := h.n0
  refine (text17_any rb g n n st.1 st.2 M bs er w h.r h.e h.p (by omega) h.by' hM).mono ?_
  rintro e w' ⟨he, hw⟩
  exact ⟨he, h.went hw (rdText_le _ _ _ _ _ h.p)⟩
theorem rd_bytes {rb g n : Nat} {bs : List Int} {er : Nat → Addr} {st : Nat × Int} (M : Int) (w : World) (h : Rd w rb g n bs er st) (hM : M ≤ 9223372036854775807) :
    Calls Tryz.prog 214 #[.pointer (some ⟨rb, 0, none⟩), .int .i64 M] w fun e w' => (∃ ao m c, e = .returned (.slice ao m c) ∧ w'.ownsRow w.heap.size 5 1 (.slice ao m c) m ((rdText n bs st.1 st.2 M).1.map (Value.int .u8))) ∧ Rd w' rb g n bs er (rdText n bs st.1 st.2 M).2 ∧ w.grownBy w' (some rb) := by
  have h0 := h.n0
  refine (bytes_any rb g n n st.1 st.2 M bs er w h.r h.e h.p (by omega) h.by' hM).mono ?_
  rintro e w' ⟨⟨ao, c, he, ho⟩, hw⟩
  exact ⟨⟨ao, _, c, he, ho⟩, h.went hw (rdText_le _ _ _ _ _ h.p)⟩
theorem rd_err {rb g n : Nat} {bs : List Int} {er : Nat → Addr} {st : Nat × Int} (w : World) (h : Rd w rb g n bs er st) :
    Calls Tryz.prog 128 #[.pointer (some ⟨rb, 0, none⟩)] w fun e w' => e = .returned (.tuple #[.int .i64 st.2, .int .i64 st.1]) ∧ ∃ m, w' = w.drewN m := err_any rb g n n st.1 st.2 bs w h.r
theorem rd_close {rb g n : Nat} {bs : List Int} {er : Nat → Addr} {st : Nat × Int} (w : World) (h : Rd w rb g n bs er st) :
    Calls Tryz.prog 131 #[.pointer (some ⟨rb, 0, none⟩)] w fun e w' => e = .returned (.int .i64 (rdClose n st.1 st.2)) ∧ Rd w' rb g n bs er (st.1, rdClose n st.1 st.2) ∧ w.grownBy w' (some rb) := by
  refine (close_any rb g n n st.1 st.2 bs w h.r).mono ?_
  rintro e w' ⟨he, hw⟩
  exact ⟨he, h.went (st' := (st.1, rdClose n st.1 st.2)) hw h.p⟩
end Go.Proofs.YtdkcplndplhblaaGreatDoor
