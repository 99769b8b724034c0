/- Names and paths as lists of bytes: what a name is, what stands between slashes, and what is put together again. -/
import Derived.Test.YtdkcplndplhblaaGreatDoorChecked
import Derived.Lib.Join
import Derived.Lib.Bytealg
import Derived.WalkKit
import Derived.WalkSpells
import Derived.WalkLawsBesides
import Derived.BigQuiet
import Derived.Deep.QuietTactic
import Derived.OpenShut
import Derived.Laws.BitsAllLaws
import Derived.Test.YtdkcplndplhblaaGreatDoorShelf
import Derived.Lib.Strings
import Derived.Lib.Walk
import Derived.Shelf.RegionOpenPlain
import Derived.RangeFuncNested
import Derived.RangeFuncBound
import Derived.RangeFuncCalls
import Derived.RangeFuncLeaves
import Derived.RangeFuncBox
import Derived.Maps.AppendAt
import Derived.Shelf.Abstract
import Derived.Shelf.RegionOpen
import Derived.OwnWalkIn
import Derived.TacticsInMore
import Derived.LoopNIn
import Derived.LoopIn
import Derived.Laws.RangeAny
import Derived.LoopTactic
namespace Go.Proofs.YtdkcplndplhblaaGreatDoor.N3

/-- The bytes of a text. -/
abbrev bs (s : ByteArray) : List UInt8 := s.data.toList
/-- A text of these bytes. -/
abbrev tx (l : List UInt8) : ByteArray := ⟨l.toArray⟩
theorem bs_tx (l : List UInt8) : bs (tx l) = l := by simp
theorem tx_bs (s : ByteArray) : tx (bs s) = s := by cases s; simp
theorem bs_inj {s t : ByteArray} (h : bs s = bs t) : s = t := by rw [← tx_bs s, ← tx_bs t, h]
theorem size_bs (s : ByteArray) : s.size = (bs s).length := (Array.length_toList (xs := s.data)).symm

/-- No byte of a text is a slash or 0. -/
def plain (s : List UInt8) : Bool := s.all (fun b => b != 47 && b != 0)
/-- A text that is a name. -/
def okName (s : List UInt8) : Bool := !(s.isEmpty || decide (23 < s.length) || s == [46] || s == [46, 46]) && plain s
/-- Check's answer. -/
def checkN (s : List UInt8) : Int := if okName s = true then 0 else 31
/-- What stands between slashes. -/
def cuts : List UInt8 → List (List UInt8)
  | [] => [[]]
  | b :: r => if b = 47 then [] :: cuts r else match cuts r with
    | [] => [[b]]
    | x :: xs => (b :: x) :: xs
/-- Are these names, and not too many? -/
def judge (l : List (List UInt8)) : Int := if 16 < l.length then 33 else if l.all okName = true then 0 else 31
/-- Split's error. -/
def splitE (p : List UInt8) : Int := if p.head? = some 47 then (if p = [47] then 0 else judge (cuts p.tail)) else 32
/-- Split's list. -/
def splitL (p : List UInt8) : List (List UInt8) := if splitE p = 0 ∧ p ≠ [47] then cuts p.tail else []
/-- The path of names. -/
def pathT (l : List (List UInt8)) : List UInt8 := 47 :: Lib.join l [47]
/-- Join's text. -/
def joinT (l : List (List UInt8)) : List UInt8 := if judge l = 0 then pathT l else []

theorem cuts_ne (l : List UInt8) : cuts l ≠ [] := by
  cases l with
  | nil => simp [cuts]
  | cons b r => unfold cuts; split <;> (try simp); split <;> simp
theorem cuts_free {l : List UInt8} (h : (47 : UInt8) ∉ l) : cuts l = [l] := by
  induction l with
  | nil => rfl
  | cons b r ih =>
    have hb : b ≠ 47 := fun e => h (by simp [e])
    have hr : (47 : UInt8) ∉ r := fun e => h (by simp [e])
    simp [cuts, hb, ih hr]
theorem cuts_slash {a : List UInt8} (b : List UInt8) (h : (47 : UInt8) ∉ a) : cuts (a ++ 47 :: b) = a :: cuts b := by
  induction a with
  | nil => simp [cuts]
  | cons c r ih =>
    have hb : c ≠ 47 := fun e => h (by simp [e])
    have hr : (47 : UInt8) ∉ r := fun e => h (by simp [e])
    simp [cuts, hb, ih hr]

/-- Where the first slash is. -/
theorem index_free {l : List UInt8} (h : Lib.indexByte l 47 = -1) : (47 : UInt8) ∉ l := by
  induction l with
  | nil => simp
  | cons b r ih =>
    unfold Lib.indexByte at h
    by_cases hb : b == 47
    · simp [hb] at h
    · have hb' : b ≠ 47 := by simpa using hb
      rw [if_neg hb] at h
      by_cases hr : Lib.indexByte r 47 = -1
      · simp [ih hr]; exact fun e => hb' e.symm
      · have hg := Lib.indexByte_ge r 47
        rw [if_neg (by simpa using hr)] at h
        omega
theorem index_found {l : List UInt8} {i : Nat} (h : Lib.indexByte l 47 = i) : i < l.length ∧ (47 : UInt8) ∉ l.take i ∧ l = l.take i ++ 47 :: l.drop (i + 1) := by
  induction l generalizing i with
  | nil => simp [Lib.indexByte] at h
  | cons b r ih =>
    unfold Lib.indexByte at h
    by_cases hb : b == 47
    · rw [if_pos hb] at h
      obtain rfl : i = 0 := by omega
      simp at hb
      simp [hb]
    · rw [if_neg hb] at h
      have hb' : b ≠ 47 := by simpa using hb
      by_cases hr : Lib.indexByte r 47 = -1
      · rw [if_pos (by simpa using hr)] at h; omega
      · have hg := Lib.indexByte_ge r 47
        rw [if_neg (by simpa using hr)] at h
        obtain ⟨j, rfl⟩ : ∃ j, i = j + 1 := ⟨i - 1, by omega⟩
        obtain ⟨h1, h2, h3⟩ := ih (i := j) (by omega)
        refine ⟨by simp; omega, by simp [h2]; exact fun e => hb' e.symm, ?_⟩
        simp
        exact h3

theorem okName_free {s : List UInt8} (h : okName s = true) : (47 : UInt8) ∉ s := by
  simp only [okName, plain, Bool.and_eq_true, List.all_eq_true] at h
  intro hm
  have := (h.2 47 hm).1
  simp at this
theorem okName_len {s : List UInt8} (h : okName s = true) : 1 ≤ s.length ∧ s.length ≤ 23 := by
  simp only [okName, Bool.and_eq_true, Bool.not_eq_true', Bool.or_eq_false_iff, decide_eq_false_iff_not] at h
  obtain ⟨⟨⟨⟨h1, h2⟩, _⟩, _⟩, _⟩ := h
  refine ⟨?_, by omega⟩
  cases s with
  | nil => simp at h1
  | cons => simp

theorem join_cons2 (x y : List UInt8) (r : List (List UInt8)) : Lib.join (x :: y :: r) [47] = x ++ 47 :: Lib.join (y :: r) [47] := by
  simp [Lib.join_cons, Lib.joinTail]
theorem join_cuts (l : List UInt8) : Lib.join (cuts l) [47] = l := by
  induction l with
  | nil => simp [cuts, Lib.join_one]
  | cons b r ih =>
    unfold cuts
    by_cases hb : b = 47
    · rw [if_pos hb]
      cases hc : cuts r with
      | nil => exact absurd hc (cuts_ne r)
      | cons x xs => rw [join_cons2, ← hc, ih, hb]; rfl
    · rw [if_neg hb]
      cases hc : cuts r with
      | nil => exact absurd hc (cuts_ne r)
      | cons x xs =>
        rw [hc] at ih
        simp only []
        cases xs with
        | nil => rw [Lib.join_one] at ih ⊢; rw [ih]
        | cons y ys => rw [join_cons2] at ih ⊢; rw [List.cons_append, ih]
theorem cuts_join {l : List (List UInt8)} (hn : l ≠ []) (h : ∀ x, x ∈ l → (47 : UInt8) ∉ x) : cuts (Lib.join l [47]) = l := by
  induction l with
  | nil => exact absurd rfl hn
  | cons x r ih =>
    cases r with
    | nil => rw [Lib.join_one, cuts_free (h x (by simp))]
    | cons y r => rw [join_cons2, cuts_slash _ (h x (by simp)), ih (by simp) (fun z hz => h z (by simp [hz]))]

theorem judge_zero {l : List (List UInt8)} : judge l = 0 ↔ l.length ≤ 16 ∧ ∀ x, x ∈ l → okName x = true := by
  unfold judge
  by_cases h1 : 16 < l.length
  · rw [if_pos h1]; constructor
    · intro h; omega
    · intro h; omega
  · rw [if_neg h1]
    by_cases h2 : l.all okName = true
    · rw [if_pos h2]; exact ⟨fun _ => ⟨by omega, by simpa using h2⟩, fun _ => rfl⟩
    · rw [if_neg h2]; exact ⟨fun h => by omega, fun h => absurd (by simpa using h.2) h2⟩
theorem judge_cases (l : List (List UInt8)) : judge l = 0 ∨ judge l = 31 ∨ judge l = 33 := by
  unfold judge; split
  · simp
  · split <;> simp

theorem join_len {l : List (List UInt8)} (hn : l ≠ []) (h : ∀ x, x ∈ l → x.length ≤ 23) : (Lib.join l [47]).length + 1 ≤ 24 * l.length := by
  induction l with
  | nil => exact absurd rfl hn
  | cons x r ih =>
    have hx := h x (by simp)
    cases r with
    | nil => rw [Lib.join_one]; simp; omega
    | cons y r =>
      have hr := ih (by simp) (fun z hz => h z (by simp [hz]))
      rw [join_cons2]; simp at hr ⊢; omega
theorem pathT_len {l : List (List UInt8)} (h : judge l = 0) : (pathT l).length ≤ 384 := by
  obtain ⟨h1, h2⟩ := judge_zero.1 h
  cases l with
  | nil => simp [pathT, Lib.join_nil]
  | cons x r =>
    have hr := join_len (l := x :: r) (by simp) (fun z hz => (okName_len (h2 z hz)).2)
    simp only [pathT, List.length_cons] at hr h1 ⊢
    omega

theorem pathT_nil : pathT [] = [47] := rfl
theorem join_ne {l : List (List UInt8)} (hn : l ≠ []) (h : ∀ x, x ∈ l → okName x = true) : Lib.join l [47] ≠ [] := by
  cases l with
  | nil => exact absurd rfl hn
  | cons x r =>
    have hx := (okName_len (h x (by simp))).1
    cases r with
    | nil => rw [Lib.join_one]; intro e; rw [e] at hx; simp at hx
    | cons y r => rw [join_cons2]; simp
/-- Split of what Join puts together: the list again. -/
theorem split_path {l : List (List UInt8)} (h : judge l = 0) : splitE (pathT l) = 0 ∧ splitL (pathT l) = l := by
  obtain ⟨h1, h2⟩ := judge_zero.1 h
  cases l with
  | nil => exact ⟨by decide, by decide⟩
  | cons x r =>
    have hc : cuts (Lib.join (x :: r) [47]) = x :: r := cuts_join (by simp) (fun z hz => okName_free (h2 z hz))
    have hne : pathT (x :: r) ≠ [47] := by
      intro e; exact join_ne (l := x :: r) (by simp) h2 (by simpa [pathT] using e)
    have hE : splitE (pathT (x :: r)) = 0 := by
      unfold splitE
      rw [if_pos (show (pathT (x :: r)).head? = some 47 from rfl), if_neg hne]
      show judge (cuts (Lib.join (x :: r) [47])) = 0
      rw [hc]; exact h
    refine ⟨hE, ?_⟩
    unfold splitL
    rw [if_pos ⟨hE, hne⟩]
    exact hc
/-- What Split takes apart is put together again. -/
theorem path_split {p : List UInt8} (h : splitE p = 0) : judge (splitL p) = 0 ∧ pathT (splitL p) = p := by
  unfold splitE at h
  by_cases h0 : p.head? = some 47
  · rw [if_pos h0] at h
    by_cases h1 : p = [47]
    · subst h1; exact ⟨by decide, by decide⟩
    · rw [if_neg h1] at h
      have hE : splitE p = 0 := by unfold splitE; rw [if_pos h0, if_neg h1]; exact h
      have hL : splitL p = cuts p.tail := by unfold splitL; rw [if_pos ⟨hE, h1⟩]
      rw [hL]
      refine ⟨h, ?_⟩
      unfold pathT
      rw [join_cuts]
      cases p with
      | nil => simp at h0
      | cons b r => simp at h0; simp [h0]
  · rw [if_neg h0] at h; omega
theorem splitL_err {p : List UInt8} (h : splitE p ≠ 0) : splitL p = [] := by
  unfold splitL; rw [if_neg (fun e => h e.1)]
theorem splitE_cases (p : List UInt8) : splitE p = 0 ∨ splitE p = 31 ∨ splitE p = 32 ∨ splitE p = 33 := by
  unfold splitE
  split
  · split
    · simp
    · rcases judge_cases (cuts p.tail) with h | h | h <;> simp [h]
  · simp
end Go.Proofs.YtdkcplndplhblaaGreatDoor.N3

/- A list of texts in memory, and plain words on worlds. -/
namespace Go.Proofs.YtdkcplndplhblaaGreatDoor.N3
open Go.RowKit
set_option maxRecDepth 100000

theorem Tryz.info9 : (Tryz.prog.info? 9).map (fun i => (i.zero, i.size, i.bytes)) = some (some (.string ⟨#[]⟩), 1, 16) := by kernel_rfl

/-- A fact kept from the walk's simplifier. -/
structure Hid (p : Prop) : Prop where
  out : p

/-- The slice value '.slice ao len cap' reads as the texts xs. -/
structure Lies (w : World) (ao : Option Addr) (len cap : Nat) (xs : List ByteArray) : Prop where
  hlen : xs.length = len
  hle : len ≤ cap
  hnone : ao = none → len = 0 ∧ cap = 0
  hcells : ∀ ad, ao = some ad → ∀ t u, (xs.map Value.string)[t]? = some u → w.cell? (ad.add t) = some u

theorem add_block (a : Addr) (t : Nat) : (a.add t).block = a.block := by cases a; simp [Addr.add]; try (split <;> rfl)
theorem Lies.below {B : Nat} {w w' : World} {ao : Option Addr} {len cap : Nat} {xs : List ByteArray} (h : Lies w ao len cap xs) (hb : Below B w w') (hB : w.heap.size ≤ B) : Lies w' ao len cap xs :=
  ⟨h.hlen, h.hle, h.hnone, fun ad had t u hu => by
    have hc := h.hcells ad had t u hu
    exact (hb.cell (Nat.lt_of_lt_of_le (World.block_lt_of_cell? w _ hc) hB)).trans hc⟩
theorem Lies.grown {w w' : World} {row : Option Nat} {ao : Option Addr} {len cap : Nat} {xs : List ByteArray} (h : Lies w ao len cap xs) (hg : w.grownBy w' row) (hne : ∀ ad, ao = some ad → some ad.block ≠ row) : Lies w' ao len cap xs :=
  ⟨h.hlen, h.hle, h.hnone, fun ad had t u hu => hg.cell (h.hcells ad had t u hu) (by rw [add_block]; exact hne ad had)⟩
theorem Lies.nil (w : World) : Lies w Option.none 0 0 [] := ⟨rfl, Nat.le_refl _, fun _ => ⟨rfl, rfl⟩, fun _ h => by cases h⟩

/-- A row of the call's own reads as its texts. -/
theorem Lies.owned {w : World} {base n cap : Nat} {ao : Option Addr} {xs : List ByteArray} (h : w.ownsRow base 9 1 (.slice ao n cap) n (xs.map Value.string)) : Lies w ao n cap xs := by
  have hl : xs.length = n := by simpa using h.1
  rcases h.2 with ⟨hv, hn⟩ | ⟨g', cap', cur, hv, _, _, hnc, _⟩
  · cases hv
    obtain rfl := List.eq_nil_of_length_eq_zero (by omega : xs.length = 0)
    exact Lies.nil w
  · cases hv
    refine ⟨hl, hnc, (fun h => by cases h), fun ad had t u hu => ?_⟩
    obtain rfl := Option.some.inj had
    have ht : t < n := by
      have := (List.getElem?_eq_some_iff.1 hu).1
      simpa [hl] using this
    rw [Addr.add_lit, Nat.zero_add, h.cellAt t (by omega)]
    exact hu
theorem own_len {w : World} {base n : Nat} {v : Value} {xs : List ByteArray} (h : w.ownsRow base 9 1 v n (xs.map Value.string)) : ∃ ao c, v = .slice ao n c := by
  rcases h.2 with ⟨hv, rfl⟩ | ⟨g', cap', cur, hv, _⟩
  · exact ⟨none, 0, hv⟩
  · exact ⟨_, _, hv⟩
theorem ownsRow_mono {w : World} {base base' : Nat} {e : TypeId} {size : Nat} {v : Value} {n : Nat} {xs : List Value} (h : w.ownsRow base e size v n xs) (hb : base' ≤ base) : w.ownsRow base' e size v n xs := by
  obtain ⟨h1, h2⟩ := h
  refine ⟨h1, ?_⟩
  rcases h2 with h2 | ⟨g, cap, cur, hv, hg, r⟩
  · exact Or.inl h2
  · exact Or.inr ⟨g, cap, cur, hv, Nat.le_trans hb hg, r⟩

/-- The address of a list that is not empty, written out. -/
theorem Lies.at {w : World} {ao : Option Addr} {len cap : Nat} {xs : List ByteArray} (h : Lies w ao len cap xs) (hp : 0 < len) :
    ∃ b o, ao = some ⟨b, o, none⟩ ∧ b < w.heap.size ∧ ∀ t (ht : t < xs.length), w.cell? ⟨b, o + t, none⟩ = some (.string xs[t]) := by
  cases ao with
  | none => have := (h.hnone rfl).1; omega
  | some ad =>
    have hc : ∀ i (hi : i < xs.length), w.cell? (ad.add i) = some (.string xs[i]) := fun i hi => h.hcells ad rfl i _ (by simp [hi])
    obtain ⟨b, off, spot⟩ := ad
    have h0 := hc 0 (by rw [h.hlen]; exact hp)
    have hspot : spot = none := by simpa [Addr.add] using World.cell?_spot h0
    subst hspot
    refine ⟨b, off, rfl, ?_, fun t ht => by rw [← Go.WideShapes.add_plain]; exact hc t ht⟩
    have := World.block_lt_of_cell? w _ h0
    simpa [add_block] using this
end Go.Proofs.YtdkcplndplhblaaGreatDoor.N3

/- strings.HasPrefix and strings.Cut at a slash, strings.Clone, names.pathOf. -/
namespace Go.Proofs.YtdkcplndplhblaaGreatDoor.N3
open Go.RowKit
set_option maxRecDepth 100000

abbrev slash : ByteArray := ⟨#[47]⟩

theorem ext_bs (s : ByteArray) (a b : Nat) : bs (s.extract a b) = ((bs s).drop a).take (b - a) := by
  rw [Lib.extract_eq]
theorem head_ext {s : ByteArray} (h : 1 ≤ s.size) : ((s.extract 0 1).toList == [47]) = decide ((bs s).head? = some 47) := by
  rw [ByteArray.toList_eq]
  show (bs (s.extract 0 1) == [47]) = _
  rw [ext_bs]
  rw [size_bs] at h
  cases hl : bs s with
  | nil => rw [hl] at h; simp at h
  | cons c r => simp; by_cases hc : c = 47 <;> simp [hc]

set_option maxHeartbeats 1000000 in
theorem lhas_any (s : ByteArray) (w : World) :
    Calls Tryz.prog 157 #[.string s, .string slash] w fun e w' => e = .returned (.bool (decide ((bs s).head? = some 47))) ∧ w' = w := by
  go_enter Tryz.func157, Tryz.ntmps157
  by_cases h : 1 ≤ s.size
  · have h' : (1 : Int) ≤ s.size := by omega
    go_wp2
    go_ret
    exact ⟨by rw [← head_ext h]; rfl, rfl⟩
  · have h' : ¬ (1 : Int) ≤ s.size := by omega
    have h0 : bs s = [] := List.eq_nil_of_length_eq_zero (by rw [← size_bs]; omega)
    go_wp2
    go_ret
    exact ⟨by first | rfl | (rw [h0]; rfl), rfl⟩

set_option maxHeartbeats 1000000 in
theorem has_any (s : ByteArray) (w : World) :
    Calls Tryz.prog 147 #[.string s, .string slash] w fun e w' => e = .returned (.bool (decide ((bs s).head? = some 47))) ∧ w' = w := by
  go_enter Tryz.func147, Tryz.ntmps147
  go_wp2_with (go_at_call 157; refine (lhas_any _ _).mono ?_; rintro e w' ⟨rfl, rfl⟩)
  go_ret
  exact ⟨rfl, rfl⟩

set_option maxHeartbeats 1000000 in
theorem index_any (s : ByteArray) (w : World) :
    Calls Tryz.prog 166 #[.string s, .string slash] w fun e w' => e = .returned (.int .i64 (Lib.indexByte (bs s) 47)) ∧ w' = w := by
  go_enter Tryz.func166, Tryz.ntmps166
  by_cases h : s.toList = [47]
  · have h1 : ([47] == s.toList) = true := by rw [h]; rfl
    go_wp2
    go_ret
    refine ⟨?_, rfl⟩
    rw [ByteArray.toList_eq] at h
    rw [show bs s = [47] from h]
    rfl
  · have h1 : ([47] == s.toList) = false := by simp; exact fun e => h e.symm
    go_wp2_with (go_at_call 167; refine (Tryz.stringslite_IndexByte _ _ _).mono ?_; rintro e w' ⟨rfl, rfl⟩)
    go_ret
    exact ⟨rfl, rfl⟩

theorem cut_at {s : ByteArray} {i : Nat} (h : Lib.indexByte (bs s) 47 = i) : i < s.size ∧ (47 : UInt8) ∉ bs (s.extract 0 i) ∧ bs s = bs (s.extract 0 i) ++ 47 :: bs (s.extract (i + 1) s.size) := by
  obtain ⟨h1, h2, h3⟩ := index_found h
  have e1 : bs (s.extract 0 i) = (bs s).take i := by rw [ext_bs]; simp
  have e2 : bs (s.extract (i + 1) s.size) = (bs s).drop (i + 1) := by
    rw [ext_bs, List.take_of_length_le]
    rw [List.length_drop, ← size_bs]; exact Nat.le_refl _
  rw [e1, e2]
  exact ⟨by rw [size_bs]; exact h1, h2, h3⟩

set_option maxHeartbeats 1000000 in
theorem lcut_free (s : ByteArray) (w : World) (h : Lib.indexByte (bs s) 47 = -1) :
    Calls Tryz.prog 162 #[.string s, .string slash] w fun e w' => e = .returned (.tuple #[.string s, .string ⟨#[]⟩, .bool false]) ∧ w' = w := by
  go_enter Tryz.func162, Tryz.ntmps162
  go_wp2_with (go_at_call 166; refine (index_any _ _).mono ?_; rintro e w' ⟨rfl, rfl⟩; rw [h])
  go_ret3
  exact ⟨rfl, rfl⟩

set_option maxHeartbeats 1000000 in
theorem lcut_found (s : ByteArray) (i : Nat) (w : World) (h : Lib.indexByte (bs s) 47 = i) (hs : s.size ≤ 281474976710656) :
    Calls Tryz.prog 162 #[.string s, .string slash] w fun e w' => e = .returned (.tuple #[.string (s.extract 0 i), .string (s.extract (i + 1) s.size), .bool true]) ∧ ∃ n, w' = w.drewN n := by
  obtain ⟨hi, _⟩ := cut_at h
  have c1 : (0 : Int) ≤ ↑i := by omega
  have c2 : (↑i : Int) ≤ ↑s.size := by omega
  have c3 : (0 : Int) ≤ ↑i + 1 := by omega
  have c4 : (↑i + 1 : Int) ≤ ↑s.size := by omega
  have c5 : IntKind.i64.wrap (↑i + 1) = ↑i + 1 := by
    rw [IntKind.wrap_i64]; omega
  go_enter Tryz.func162, Tryz.ntmps162
  go_wp2_with (go_at_call 166; refine (index_any _ _).mono ?_; rintro e w' ⟨rfl, rfl⟩; rw [h])
  go_quiet (fail)
  go_wp2
  go_ret3
  exact ⟨rfl, _, rfl⟩

set_option maxHeartbeats 1000000 in
theorem cut_free (s : ByteArray) (w : World) (h : Lib.indexByte (bs s) 47 = -1) :
    Calls Tryz.prog 159 #[.string s, .string slash] w fun e w' => e = .returned (.tuple #[.string s, .string ⟨#[]⟩, .bool false]) ∧ w' = w := by
  go_enter Tryz.func159, Tryz.ntmps159
  go_wp2_with (go_at_call 162; refine (lcut_free _ _ h).mono ?_; rintro e w' ⟨rfl, rfl⟩)
  go_ret3
  exact ⟨rfl, rfl⟩
set_option maxHeartbeats 1000000 in
theorem cut_found (s : ByteArray) (i : Nat) (w : World) (h : Lib.indexByte (bs s) 47 = i) (hs : s.size ≤ 281474976710656) :
    Calls Tryz.prog 159 #[.string s, .string slash] w fun e w' => e = .returned (.tuple #[.string (s.extract 0 i), .string (s.extract (i + 1) s.size), .bool true]) ∧ ∃ n, w' = w.drewN n := by
  go_enter Tryz.func159, Tryz.ntmps159
  go_wp2_with (go_at_call 162; refine (lcut_found _ _ _ h hs).mono ?_; rintro e w' ⟨rfl, n, rfl⟩)
  go_ret3
  exact ⟨rfl, _, rfl⟩

/-- Cut at a slash: what is cut off, what is left, whether. -/
theorem cut_any (s : ByteArray) (w : World) (hs : s.size ≤ 281474976710656) :
    Calls Tryz.prog 159 #[.string s, .string slash] w fun e w' => ∃ (a b : ByteArray) (m : Bool), e = .returned (.tuple #[.string a, .string b, .bool m]) ∧ (∃ n, w' = w.drewN n) ∧
      cuts (bs s) = bs a :: (if m = true then cuts (bs b) else []) ∧ a.size ≤ s.size ∧ b.size + (if m = true then 1 else 0) ≤ s.size ∧ (m = true → bs s = bs a ++ 47 :: bs b) := by
  by_cases h : Lib.indexByte (bs s) 47 = -1
  · refine (cut_free s w h).mono ?_
    rintro e w' ⟨rfl, rfl⟩
    exact ⟨s, ⟨#[]⟩, false, rfl, ⟨0, rfl⟩, by rw [cuts_free (index_free h)]; rfl, Nat.le_refl _, Nat.zero_le _, fun h => by cases h⟩
  · have hg := Lib.indexByte_ge (bs s) 47
    obtain ⟨i, hi⟩ : ∃ i : Nat, Lib.indexByte (bs s) 47 = i := ⟨(Lib.indexByte (bs s) 47).toNat, by omega⟩
    obtain ⟨h1, h2, h3⟩ := cut_at hi
    refine (cut_found s i w hi hs).mono ?_
    rintro e w' ⟨rfl, hn⟩
    have hl := congrArg List.length h3
    simp only [List.length_append, List.length_cons, ← size_bs] at hl
    exact ⟨_, _, true, rfl, hn, by rw [h3, cuts_slash _ h2]; rfl, by omega, by simp only [if_true]; omega, fun _ => h3⟩

theorem clone_any (s : ByteArray) (w : World) (hlim : s.size ≤ 281474976710656) :
    Calls Tryz.prog 160 #[.string s] w fun e w' => e = .returned (.string s) ∧ Below w.heap.size w w' := by
  go_enter Tryz.func160, Tryz.ntmps160
  go_wp2_with (go_at_call 163; refine (Tryz.stringslite_Clone _ _ hlim).mono ?_; rintro e w' ⟨rfl, hb⟩)
  go_ret
  exact ⟨rfl, hb⟩
end Go.Proofs.YtdkcplndplhblaaGreatDoor.N3

/- The iterator of names.parts: at a path it hands out what stands between the slashes, in its order. -/
namespace Go.Proofs.YtdkcplndplhblaaGreatDoor.N3
open Go.RowKit Go.Shelf
set_option maxRecDepth 100000

attribute [local go_sem] Oper.semAt_some

/-- What stands between the slashes, as texts. -/
def cutsB (l : List UInt8) : List ByteArray := (cuts l).map tx
/-- The texts that are still to come. -/
def toCome (b : ByteArray) (m : Bool) : List ByteArray := if m = true then cutsB (bs b) else []
/-- The measure: how much is still to come. -/
def mes (r m : Value) : Nat := match r, m with
  | .string s, .bool b => if b = true then s.size + 1 else 0
  | _, _ => 0

theorem start_cut {p a b : ByteArray} {m : Bool} (hp : (bs p).head? = some 47) (hc : cuts (bs p) = bs a :: (if m = true then cuts (bs b) else [])) (hm : m = true → bs p = bs a ++ 47 :: bs b) : toCome b m = cutsB (bs p).tail := by
  cases hl : bs p with
  | nil => rw [hl] at hp; simp at hp
  | cons c t =>
    rw [hl] at hp hc
    simp at hp
    subst hp
    have h1 : cuts (47 :: t) = [] :: cuts t := by simp [cuts]
    rw [h1] at hc
    have ha : bs a = [] := (List.cons.inj hc).1.symm
    cases m with
    | false => exact absurd (List.cons.inj hc).2 (cuts_ne t)
    | true =>
      have := hm rfl
      rw [ha, hl] at this
      simp at this
      simp [toCome, this]
theorem step_cut {s a b : ByteArray} {m : Bool} (hc : cuts (bs s) = bs a :: (if m = true then cuts (bs b) else [])) : toCome s true = a :: toCome b m := by
  unfold toCome cutsB
  rw [if_pos rfl, hc, List.map_cons, tx_bs]
  cases m <;> simp

set_option maxHeartbeats 2000000 in
theorem parts1_in (n : Nat) (_hn : 1 ≤ n) (l Bn n₀ : Nat) (p : ByteArray) (xs : List ByteArray) (J Jx : List ByteArray → World → Prop)
    (hJ : ∀ s W m, J s W → J s (W.drewN m))
    (hY : ∀ pre x W, J pre W → pre.length < xs.length → YieldAt Fence.wide (n - 1) Tryz.prog l #[.string x] W fun e W' =>
      (e = .returned (.bool true) ∧ J (pre ++ [x]) W' ∧ Below n₀ W W') ∨ (e = .returned (.bool false) ∧ Jx (pre ++ [x]) W'))
    (W : World) (hBn : W.cell? ⟨Bn, 0, none⟩ = some (.string p)) (hs : p.size ≤ 281474976710656) (hp : (bs p).head? = some 47) (hx : cutsB (bs p).tail = xs) (h0 : J [] W) :
    CallsIn Fence.wide n Tryz.prog 158 #[.func (.yield l) #[] #[], .pointer (some ⟨Bn, 0, none⟩)] W fun e W' => (∃ v, e = .returned v) ∧
      ((∃ ys, ys = xs ∧ J ys W') ∨ (∃ pre, pre <+: xs ∧ Jx pre W')) := by
  refine callsIn_of_wp Tryz.func158 rfl trivial ?_ rfl
  simp only [Tryz.ntmps158, List.size_toArray, List.length_cons, List.length_nil, Nat.reduceAdd, Nat.reduceSub, Array.replicate_succ, Array.replicate_zero, List.push_toArray, List.append_toArray, List.nil_append, List.cons_append]
  gi_wp2_with (refine ⟨trivial, ?_⟩; gi_at_call 159; refine (callsIn_wide.2 (cut_any _ _ hs)).mono ?_; rintro e w' ⟨a, b, m, rfl, ⟨q, rfl⟩, hc, ha, hb, hm⟩)
  have hst := start_cut hp hc hm
  rw [hx] at hst
  have HJ0 : Hid (J [] (W.drewN q)) := ⟨hJ _ _ _ h0⟩
  have hsb : b.size ≤ 281474976710656 := by split at hb <;> omega
  clear hc ha hb hm hx hp hs hBn h0
  gi_loopw [4, 5] (fun r mm wr => ∃ (pre : List ByteArray) (s : ByteArray) (m : Bool), r = .string s ∧ mm = .bool m ∧ xs = pre ++ toCome s m ∧ s.size ≤ 281474976710656 ∧ Hid (J pre wr)) (fun r mm _ => mes r mm)
  case atStart => exact ⟨[], b, m, rfl, rfl, by simp [hst], hsb, HJ0⟩
  case round =>
    obtain ⟨pre, s, m1, rfl, rfl, hx, hs, hJs⟩ := hrel
    clear hst hsb
    cases m1 with
    | false =>
      gi_wp2
      go_end0
      exact ⟨⟨_, rfl⟩, .inl ⟨pre, by simp [hx, toCome], hJs.out⟩⟩
    | true =>
      gi_wp2_with fail
      refine ⟨trivial, (callsIn_wide.2 (cut_any _ _ hs)).mono ?_⟩
      rintro e w' ⟨a2, b2, m2, rfl, ⟨q2, rfl⟩, hc, ha, hb, hm⟩
      have hst := step_cut hc
      rw [hst] at hx
      have hsb : b2.size ≤ 281474976710656 := by split at hb <;> omega
      have hmes : mes (.string b2) (.bool m2) < mes (.string s) (.bool true) := by
        unfold mes
        cases m2 <;> simp at hb ⊢ <;> omega
      obtain ⟨fn, tmps, assign, body, hy, hR⟩ := hY pre a2 _ (hJ _ _ q2 hJs.out) (by rw [hx]; simp)
      clear hc ha hb hm hst
      gi_wp2
      refine hR.mono ?_
      rintro e W3 (⟨rfl, hJ3, hk3⟩ | ⟨rfl, hJx3⟩)
      · clear hR hy
        have HJ3 : Hid (J (pre ++ [a2]) W3) := ⟨hJ3⟩
        clear hJ3
        gi_wp2
        go_roundw
        case rel => exact ⟨pre ++ [a2], b2, m2, rfl, rfl, by simp [hx], hsb, HJ3⟩
        case measure => exact hmes
      · clear hR hy
        gi_wp2
        refine bodyPost_ret (results_none rfl _ _ _) rfl ?_
        exact ⟨⟨_, rfl⟩, .inr ⟨pre ++ [a2], ⟨toCome b2 m2, by simp [hx]⟩, hJx3⟩⟩

set_option maxHeartbeats 1000000 in
/-- parts(path): the path is boxed; the function value captures the box. -/
theorem parts_in (n : Nat) (p : ByteArray) (w : World) :
    CallsIn Fence.wide n Tryz.prog 148 #[.string p] w fun e w' => e = .returned (.func (.func 158) #[] #[.pointer (some ⟨w.heap.size, 0, none⟩)]) ∧ w' = w.alloc (.cells #[.string p] 9) := by
  refine callsIn_of_wp Tryz.func148 rfl trivial ?_ rfl
  simp only [Tryz.ntmps148, List.size_toArray, List.length_cons, List.length_nil, Nat.reduceAdd, Nat.reduceSub, Array.replicate_succ, Array.replicate_zero, List.push_toArray, List.append_toArray, List.nil_append, List.cons_append]
  gi_wp2
  go_ret
  exact ⟨rfl, rfl⟩

theorem parts_stops (n : Nat) (hn : 1 ≤ n) (Bn n₀ : Nat) (p : ByteArray) (w : World) (hBn : Bn < w.heap.size) (hc : w.cell? ⟨Bn, 0, none⟩ = some (.string p)) (hs : p.size ≤ 281474976710656) (hp : (bs p).head? = some 47) :
    SeqStopsK Fence.wide n Tryz.prog 158 #[.pointer (some ⟨Bn, 0, none⟩)] (fun x : ByteArray => #[Value.string x]) (Below n₀) (fun ys => ys = cutsB (bs p).tail) (fun pre => pre <+: cutsB (bs p).tail) (cutsB (bs p).tail).length w := fun l J Jx W hW hJ _ hY h0 =>
  parts1_in n hn l Bn n₀ p _ J Jx (fun s W m h => hJ s W (W.drewN m) none h ⟨rfl, rfl, rfl, Nat.le_refl _, fun _ _ _ => rfl⟩ (fun r e => by cases e)) hY W ((hW.cell (p := ⟨Bn, 0, none⟩) hBn).trans hc) hs hp rfl h0
end Go.Proofs.YtdkcplndplhblaaGreatDoor.N3

/- names.Check: it answers as checkN says, whatever the text; what lay stands. -/
namespace Go.Proofs.YtdkcplndplhblaaGreatDoor.N3
open Go.RowKit
set_option maxRecDepth 100000

/-- Behind a byte of 128 or more the whole rune's bytes are such. -/
theorem decode_run (s : ByteArray) (pos : Nat) (h : pos < s.size) (hb : 128 ≤ (s[pos]'h).toNat) (k : Nat) (hk : k < (Utf8.decode s pos).2) : ∃ h' : pos + k < s.size, 128 ≤ (s[pos + k]'h').toNat := by
  cases k with
  | zero => exact ⟨h, hb⟩
  | succ k =>
    have hg : ∀ j (hj : pos + j < s.size), s.get! (pos + j) = s[pos + j]'hj := fun j hj => by
      show s.get! (pos + j) = _
      simp [ByteArray.get!, getElem!_pos, hj]
      rfl
    have hc : ∀ j, (decide (pos + j < s.size) && (s.get! (pos + j)).toNat / 64 == 2) = true → ∃ h' : pos + j < s.size, 128 ≤ (s[pos + j]'h').toNat := by
      intro j hj
      simp only [Bool.and_eq_true, decide_eq_true_eq, beq_iff_eq] at hj
      refine ⟨hj.1, ?_⟩
      have := hj.2
      rw [hg j hj.1] at this
      omega
    have hn : ¬ (s[pos]'h).toNat < 128 := by omega
    simp only [Utf8.decode, get_at s pos h, hn, if_false] at hk
    split at hk
    · rename_i h1
      simp only [Bool.and_eq_true] at h1
      have h1' := hc 1 (by simpa using h1.2)
      split at hk
      · have : k = 0 := by simp at hk; omega
        subst this; exact h1'
      · simp at hk
    · split at hk
      · rename_i h1
        simp only [Bool.and_eq_true] at h1
        have h1' := hc 1 (by simpa using h1.1.2)
        have h2' := hc 2 (by simpa using h1.2)
        split at hk
        · have : k = 0 ∨ k = 1 := by simp at hk; omega
          rcases this with rfl | rfl
          · exact h1'
          · exact h2'
        · simp at hk
      · split at hk
        · rename_i h1
          simp only [Bool.and_eq_true] at h1
          have h1' := hc 1 (by simpa using h1.1.1.2)
          have h2' := hc 2 (by simpa using h1.1.2)
          have h3' := hc 3 (by simpa using h1.2)
          split at hk
          · have : k = 0 ∨ k = 1 ∨ k = 2 := by simp at hk; omega
            rcases this with rfl | rfl | rfl
            · exact h1'
            · exact h2'
            · exact h3'
          · simp at hk
        · simp at hk

theorem width_pos (s : ByteArray) (pos : Nat) (h : pos < s.size) : 1 ≤ (Utf8.decode s pos).2 := by
  by_cases ha : (s[pos]'h).toNat < 128
  · rw [decode_ascii s pos h ha]
    exact Nat.le_refl _
  · exact (decode_high s pos h (by omega)).2

/-- All bytes below pos are neither a slash nor 0. -/
def PlainTo (s : ByteArray) (pos : Nat) : Prop := ∀ k (h : k < s.size), k < pos → (s[k]'h).toNat ≠ 47 ∧ (s[k]'h).toNat ≠ 0
theorem PlainTo.step {s : ByteArray} {pos : Nat} (h : PlainTo s pos) (hp : pos < s.size) (h1 : (Utf8.decode s pos).1 ≠ 47) (h2 : (Utf8.decode s pos).1 ≠ 0) : PlainTo s (pos + (Utf8.decode s pos).2) := by
  intro k hk hlt
  by_cases hl : k < pos
  · exact h k hk hl
  · by_cases ha : (s[pos]'hp).toNat < 128
    · rw [decode_ascii s pos hp ha] at hlt h1 h2
      obtain rfl : k = pos := by simp at hlt; omega
      exact ⟨h1, h2⟩
    · obtain ⟨j, rfl⟩ : ∃ j, k = pos + j := ⟨k - pos, by omega⟩
      obtain ⟨_, h3⟩ := decode_run s pos hp (by omega) j (by omega)
      omega
theorem PlainTo.all {s : ByteArray} {pos : Nat} (h : PlainTo s pos) (hp : ¬ pos < s.size) : plain (bs s) = true := by
  unfold plain
  rw [List.all_eq_true]
  intro b hb
  obtain ⟨k, hk, rfl⟩ := List.mem_iff_getElem.1 hb
  have hk' : k < s.size := by rw [size_bs]; exact hk
  have := h k hk' (by omega)
  have he : (bs s)[k] = s[k]'hk' := by simp [ByteArray.getElem_eq_getElem_data]
  rw [he]
  simp only [Bool.and_eq_true, bne_iff_ne, ne_eq]
  exact ⟨fun e => this.1 (by rw [e]; rfl), fun e => this.2 (by rw [e]; rfl)⟩
theorem notPlain {s : ByteArray} {pos : Nat} (hp : pos < s.size) (h : (Utf8.decode s pos).1 = 47 ∨ (Utf8.decode s pos).1 = 0) : plain (bs s) = false := by
  have ha : (s[pos]'hp).toNat < 128 := by
    by_cases ha : (s[pos]'hp).toNat < 128
    · exact ha
    · have := (decode_high s pos hp (by omega)).1
      omega
  rw [decode_ascii s pos hp ha] at h
  simp only at h
  have hk : pos < (bs s).length := by rw [← size_bs]; exact hp
  have he : (bs s)[pos] = s[pos]'hp := by simp [ByteArray.getElem_eq_getElem_data]
  have hm : s[pos]'hp ∈ bs s := by rw [← he]; exact List.getElem_mem hk
  rcases Bool.eq_false_or_eq_true (plain (bs s)) with hpl | hpl
  · unfold plain at hpl
    rw [List.all_eq_true] at hpl
    have := hpl _ hm
    simp only [Bool.and_eq_true, bne_iff_ne, ne_eq] at this
    rcases h with h | h
    · exact absurd (UInt8.toNat_inj.1 h) this.1
    · exact absurd (UInt8.toNat_inj.1 h) this.2
  · exact hpl

theorem check_bad {s : ByteArray} (h : s.toList = [] ∨ (23 : Int) < s.size ∨ s.toList = [46] ∨ s.toList = [46, 46]) : checkN (bs s) = 31 := by
  unfold checkN
  rw [if_neg]
  intro hk
  have hl := okName_len hk
  rw [← size_bs] at hl
  rw [ByteArray.toList_eq] at h
  rcases h with h | h | h | h
  · have : (bs s).length = 0 := by rw [show bs s = [] from h]; rfl
    rw [← size_bs] at this; omega
  · omega
  · rw [show bs s = [46] from h] at hk; exact absurd hk (by decide)
  · rw [show bs s = [46, 46] from h] at hk; exact absurd hk (by decide)
theorem check_plain {s : ByteArray} (h1 : ¬ s.toList = []) (h2 : (s.size : Int) ≤ 23) (h3 : ¬ s.toList = [46]) (h4 : ¬ s.toList = [46, 46]) : checkN (bs s) = if plain (bs s) = true then 0 else 31 := by
  rw [ByteArray.toList_eq] at h1 h3 h4
  have e : okName (bs s) = plain (bs s) := by
    unfold okName
    have h2' : ¬ 23 < (bs s).length := by rw [← size_bs]; omega
    have i1 : (bs s).isEmpty = false := by cases h : bs s with | nil => exact absurd h h1 | cons => rfl
    have i3 : (bs s == [46]) = false := by simpa using h3
    have i4 : (bs s == [46, 46]) = false := by simpa using h4
    rw [i1, i3, i4]
    simp
    intro _; omega
  unfold checkN
  rw [e]

set_option maxHeartbeats 1000000 in
theorem check_any (s : ByteArray) (w : World) :
    Calls Tryz.prog 151 #[.string s] w fun e w' => e = .returned (.int .i64 (checkN (bs s))) ∧ Below w.heap.size w w' := by
  go_enter Tryz.func151, Tryz.ntmps151
  by_cases h1 : s.toList = []
  · go_wp2
    go_ret
    exact ⟨by rw [check_bad (Or.inl h1)]; rfl, Below.refl _ _⟩
  by_cases h2 : (23 : Int) < s.size
  · go_wp2
    go_ret
    exact ⟨by rw [check_bad (Or.inr (Or.inl h2))]; rfl, Below.refl _ _⟩
  by_cases h3 : s.toList = [46]
  · have h2' : (s.size : Int) ≤ 23 := by omega
    go_wp2
    go_ret
    exact ⟨by rw [check_bad (Or.inr (Or.inr (Or.inl h3)))]; rfl, Below.refl _ _⟩
  by_cases h4 : s.toList = [46, 46]
  · have h2' : (s.size : Int) ≤ 23 := by omega
    go_wp2
    go_ret
    exact ⟨by rw [check_bad (Or.inr (Or.inr (Or.inr h4)))]; rfl, Below.refl _ _⟩
  have h2' : (s.size : Int) ≤ 23 := by omega
  have i1 : s.toList.isEmpty = false := by cases h : s.toList with | nil => exact absurd h h1 | cons => rfl
  have i3 : (s.toList == [46]) = false := by simpa using h3
  have i4 : (s.toList == [46, 46]) = false := by simpa using h4
  go_wp2
  go_loopw [] (fun w' => ∃ pos : Nat, w' = w.iter s pos ∧ PlainTo s pos) (fun w' => s.size - w'.iterPos w.heap.size)
  case atStart => exact ⟨0, rfl, fun k _ h => by omega⟩
  case round =>
    obtain ⟨pos, rfl, hpl⟩ := hrel
    by_cases hlt : pos < s.size
    · have hnx : ∀ ty, (Instr.next (.pointer (some ⟨w.heap.size, 0, none⟩)) true ty).run Tryz.prog (w.iter s pos) = _ := fun ty => run_next_any w s pos ty hlt
      have hwd := width_pos s pos hlt
      by_cases e1 : (Utf8.decode s pos).1 = 47
      · have hn := notPlain hlt (Or.inl e1)
        have e1' : ((Utf8.decode s pos).1 : Int) = 47 := by omega
        go_wp2
        go_ret
        exact ⟨by rw [check_plain h1 h2' h3 h4, hn]; rfl, (Below.refl _ w).alloc (Nat.le_refl _) _⟩
      by_cases e2 : (Utf8.decode s pos).1 = 0
      · have hn := notPlain hlt (Or.inr e2)
        have e1' : ¬ ((Utf8.decode s pos).1 : Int) = 47 := by omega
        have e2' : ((Utf8.decode s pos).1 : Int) = 0 := by omega
        go_wp2
        go_ret
        exact ⟨by rw [check_plain h1 h2' h3 h4, hn]; rfl, (Below.refl _ w).alloc (Nat.le_refl _) _⟩
      have e1' : (((Utf8.decode s pos).1 : Int) == 47) = false := by simp; omega
      have e2' : (((Utf8.decode s pos).1 : Int) == 0) = false := by simp; omega
      go_wp2
      exact ⟨⟨_, rfl, hpl.step hlt e1 e2⟩, by simp; omega⟩
    · have hnx : ∀ ty, (Instr.next (.pointer (some ⟨w.heap.size, 0, none⟩)) true ty).run Tryz.prog (w.iter s pos) = _ := fun ty => run_next_end w s pos ty hlt
      go_wp2
      go_ret
      exact ⟨by rw [check_plain h1 h2' h3 h4, hpl.all hlt]; rfl, (Below.refl _ w).alloc (Nat.le_refl _) _⟩
end Go.Proofs.YtdkcplndplhblaaGreatDoor.N3

/- names.checkAll: the first name that is none tells its error. -/
namespace Go.Proofs.YtdkcplndplhblaaGreatDoor.N3
open Go.RowKit
set_option maxRecDepth 100000

/-- checkAll's answer. -/
def allN (l : List ByteArray) : Int := if l.all (fun s => okName (bs s)) = true then 0 else 31

theorem checkN_ok {l : List UInt8} : checkN l = 0 ↔ okName l = true := by
  unfold checkN; split
  · simp [*]
  · simp [*]
theorem all_step {xs : List ByteArray} {k : Nat} (h : (xs.take k).all (fun s => okName (bs s)) = true) (hk : k < xs.length) (h1 : checkN (bs xs[k]) = 0) : (xs.take (k + 1)).all (fun s => okName (bs s)) = true := by
  rw [List.take_succ_eq_append_getElem hk, List.all_append, h]
  simp [checkN_ok.1 h1]
theorem all_bad {xs : List ByteArray} {k : Nat} (hk : k < xs.length) (h1 : checkN (bs xs[k]) = 31) : allN xs = 31 := by
  unfold allN
  rw [if_neg]
  intro h
  rw [List.all_eq_true] at h
  have := checkN_ok.2 (h _ (List.getElem_mem hk))
  omega

set_option maxHeartbeats 1000000 in
theorem checkAll_pos (b o c n : Nat) (xs : List ByteArray) (w : World) (hn : n ≤ 200000000000000) (hla : xs.length = n) (_hc : n ≤ c) (hbw : b < w.heap.size)
    (ha : ∀ t (ht : t < xs.length), w.cell? ⟨b, o + t, none⟩ = some (.string xs[t])) :
    Calls Tryz.prog 149 #[.slice (some ⟨b, o, none⟩) n c] w fun e w' => e = .returned (.int .i64 (allN xs)) ∧ Below w.heap.size w w' := by
  have hni : (n : Int) ≤ 200000000000000 := by omega
  go_enter Tryz.func149, Tryz.ntmps149
  go_wp2
  go_loopw [8] (fun i wr => ∃ k : Nat, k ≤ n ∧ i = .int .i64 k ∧ Below w.heap.size w wr ∧ (xs.take k).all (fun s => okName (bs s)) = true) (fun i _ => n - (intOf i).toNat)
  case atStart => exact ⟨0, Nat.zero_le _, rfl, Below.refl _ _, by simp⟩
  case round =>
    obtain ⟨k, hk, rfl, hbl, htk⟩ := hrel
    have HT : Hid ((xs.take k).all (fun s => okName (bs s)) = true) := ⟨htk⟩
    clear htk
    by_cases hlt : k < n
    · have hk' : k < xs.length := by omega
      have ga := (hbl.cell (p := ⟨b, o + k, none⟩) hbw).trans (ha k hk')
      clear ha
      have hok : checkN (bs xs[k]) = 0 ∨ checkN (bs xs[k]) = 31 := by unfold checkN; split <;> simp
      go_wp2_with fail
      refine (check_any _ _).mono ?_
      rintro e w2 ⟨rfl, hb2⟩
      have hb3 := hbl.trans (hb2.mono hbl.size)
      rcases hok with hok | hok
      · rw [hok]
        go_wp2
        go_roundw
        case rel => exact ⟨k + 1, by omega, by go_num, hb3, all_step HT.out hk' hok⟩
        case measure => simp [intOf]; omega
      · rw [hok]
        go_wp2
        go_ret
        exact ⟨by rw [all_bad hk' hok]; rfl, hb3⟩
    · clear ha
      go_wp2
      go_ret
      refine ⟨?_, hbl⟩
      have := HT.out
      rw [List.take_of_length_le (by omega)] at this
      simp [allN, this]

set_option maxHeartbeats 400000 in
theorem checkAll_zero (ao : Option Addr) (c : Nat) (w : World) :
    Calls Tryz.prog 149 #[.slice ao 0 c] w fun e w' => e = .returned (.int .i64 0) ∧ w' = w := by
  go_enter Tryz.func149, Tryz.ntmps149
  go_wp2
  refine wp_loop_rounds 1 ?_
  rw [rounds_succ]
  go_wp2
  go_ret
  exact ⟨rfl, rfl⟩

theorem checkAll_any (ao : Option Addr) (n c : Nat) (xs : List ByteArray) (w : World) (hn : n ≤ 200000000000000) (hA : Lies w ao n c xs) :
    Calls Tryz.prog 149 #[.slice ao n c] w fun e w' => e = .returned (.int .i64 (allN xs)) ∧ Below w.heap.size w w' := by
  by_cases h0 : 0 < n
  · obtain ⟨b, o, rfl, hbw, ha⟩ := hA.at h0
    exact checkAll_pos b o c n xs w hn hA.hlen hA.hle hbw ha
  · obtain rfl : n = 0 := by omega
    refine (checkAll_zero ao c w).mono ?_
    rintro e w' ⟨rfl, rfl⟩
    have e1 : xs = [] := List.eq_nil_of_length_eq_zero hA.hlen
    subst e1
    exact ⟨by simp [allN], Below.refl _ _⟩
end Go.Proofs.YtdkcplndplhblaaGreatDoor.N3

/- names.pathOf, names.ownTexts, slices.Equal. -/
namespace Go.Proofs.YtdkcplndplhblaaGreatDoor.N3
open Go.RowKit
set_option maxRecDepth 100000

theorem slash_app (l : List UInt8) : slash ++ tx l = tx (47 :: l) := by
  apply bs_inj
  simp [bs, tx]

theorem set_same (c : Array Value) (i : Nat) (v : Value) (h : c[i]? = some v) : c.setIfInBounds i v = c := by
  obtain ⟨hlt, rfl⟩ := Array.getElem?_eq_some_iff.1 h
  apply Array.ext
  · simp
  · intro j h1 h2
    rw [Array.getElem_setIfInBounds]
    split
    · rename_i e; subst e; rfl
    · rfl
theorem setCell_id {w : World} {a : Addr} {v : Value} (h : w.cell? a = some v) : w.setCell a v = w := by
  have hheap : (w.setCell a v).heap = w.heap := by
    unfold World.cell? at h
    apply Array.ext
    · simp [World.setCell]
    · intro i h1 h2
      simp only [World.setCell, Array.getElem_modify]
      split
      · rename_i e
        subst e
        have hb : w.heap[a.block]? = some w.heap[a.block] := by simp [h2]
        rw [hb] at h
        cases ho : w.heap[a.block] with
        | cells c e f =>
          rw [ho] at h
          simp only at h ⊢
          by_cases hs : a.spot.isSome = true
          · rw [if_pos hs]
          · rw [if_neg hs] at h ⊢
            rw [set_same c _ v h]
        | _ => rfl
      · rfl
  have : w.setCell a v = { w with heap := (w.setCell a v).heap } := rfl
  rw [this, hheap]

set_option maxHeartbeats 1000000 in
/-- ownTexts of a list of the call's own: the same texts; nothing has turned. -/
theorem ownTexts_pos (base g c : Nat) (n : Nat) (xs : List ByteArray) (w : World) (hn : n ≤ 16) (hx : ∀ x, x ∈ xs → x.size ≤ 23) (hg : g < w.heap.size)
    (hA : w.ownsRow base 9 1 (.slice (some ⟨g, 0, none⟩) n c) n (xs.map Value.string)) :
    Calls Tryz.prog 150 #[.slice (some ⟨g, 0, none⟩) n c] w fun e w' => e = .returned (.slice (some ⟨g, 0, none⟩) n c) ∧ Below w.heap.size w w' := by
  have hl : xs.length = n := by simpa using hA.1
  have hnc : n ≤ c := by
    rcases hA.2 with ⟨hv, _⟩ | ⟨g', cap', cur, hv, _, _, hnc, _⟩
    · cases hv
    · cases hv; exact hnc
  go_enter Tryz.func150, Tryz.ntmps150
  go_wp2
  go_loopw [7] (fun i wr => ∃ k : Nat, k ≤ n ∧ i = .int .i64 k ∧ Below w.heap.size w wr) (fun i _ => n - (intOf i).toNat)
  case atStart => exact ⟨0, Nat.zero_le _, rfl, Below.refl _ _⟩
  case round =>
    obtain ⟨k, hk, rfl, hbl⟩ := hrel
    by_cases hlt : k < n
    · have hk' : k < xs.length := by omega
      have hc0 : w.cell? ⟨g, k, none⟩ = some (.string xs[k]) := by
        rw [hA.cellAt k (by omega)]; simp [hk']
      have hc := (hbl.cell (p := ⟨g, k, none⟩) hg).trans hc0
      have hs := hx _ (List.getElem_mem hk')
      have hf := (hbl.frozen (p := ⟨g, k, none⟩) hg).trans (hA.frozenAt k)
      go_wp2_with fail
      refine (clone_any _ _ (by omega)).mono ?_
      rintro e w2 ⟨rfl, hb2⟩
      have hgr : g < wr.heap.size := Nat.lt_of_lt_of_le hg hbl.size
      have hc2 := (hb2.cell (p := ⟨g, k, none⟩) hgr).trans hc
      have hf2 := (hb2.frozen (p := ⟨g, k, none⟩) hgr).trans hf
      have hb3 := hbl.trans (hb2.mono hbl.size)
      clear hc hf
      go_wp2
      rw [setCell_id hc2]
      go_roundw
      case rel => exact ⟨k + 1, by omega, by go_num, hb3⟩
      case measure => simp [intOf]; omega
    · go_wp2
      go_ret
      exact ⟨rfl, hbl⟩
end Go.Proofs.YtdkcplndplhblaaGreatDoor.N3
