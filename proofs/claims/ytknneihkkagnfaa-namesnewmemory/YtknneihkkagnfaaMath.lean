/- Names and paths as lists of bytes: what a name is, what stands between slashes, and what is put together again. -/
import Derived.Lib.Join
import Derived.Lib.Bytealg
import Derived.Test.YtknneihkkagnfaaChecked
namespace Go.Proofs.Ytknneihkkagnfaa

/-- The bytes of a text. -/
abbrev bs (s : ByteArray) : List UInt8 := s.data.toList
/-- A text of these bytes. -/
abbrev tx (l : List UInt8) : ByteArray := ⟨l.toArray⟩
theorem bs_tx (l : List UInt8) : bs (tx l) = l := by simp
theorem tx_bs (s : ByteArray) : tx (bs s) = s := by cases s; simp
theorem bs_inj {s t : ByteArray} (h : bs s = bs t) : s = t := by rw [← tx_bs s, ← tx_bs t, h]
theorem size_bs (s : ByteArray) : s.size = (bs s).length := (Array.length_toList (xs := s.data)).symm

/-- No byte of a text is a slash or 0. -/
def plain (s : List UInt8) : Bool := s.all (fun b => b != 47 && b != 0)
/-- A text that is a name. -/
def okName (s : List UInt8) : Bool := !(s.isEmpty || decide (23 < s.length) || s == [46] || s == [46, 46]) && plain s
/-- Check's answer. -/
def checkN (s : List UInt8) : Int := if okName s = true then 0 else 31
/-- What stands between slashes. -/
def cuts : List UInt8 → List (List UInt8)
  | [] => [[]]
  | b :: r => if b = 47 then [] :: cuts r else match cuts r with
    | [] => [[b]]
    | x :: xs => (b :: x) :: xs
/-- Are these names, and not too many? -/
def judge (l : List (List UInt8)) : Int := if 16 < l.length then 33 else if l.all okName = true then 0 else 31
/-- Split's error. -/
def splitE (p : List UInt8) : Int := if p.head? = some 47 then (if p = [47] then 0 else judge (cuts p.tail)) else 32
/-- Split's list. -/
def splitL (p : List UInt8) : List (List UInt8) := if splitE p = 0 ∧ p ≠ [47] then cuts p.tail else []
/-- The path of names. -/
def pathT (l : List (List UInt8)) : List UInt8 := 47 :: Lib.join l [47]
/-- Join's text. -/
def joinT (l : List (List UInt8)) : List UInt8 := if judge l = 0 then pathT l else []

theorem cuts_ne (l : List UInt8) : cuts l ≠ [] := by
  cases l with
  | nil => simp [cuts]
  | cons b r => unfold cuts; split <;> (try simp); split <;> simp
theorem cuts_free {l : List UInt8} (h : (47 : UInt8) ∉ l) : cuts l = [l] := by
  induction l with
  | nil => rfl
  | cons b r ih =>
    have hb : b ≠ 47 := fun e => h (by simp [e])
    have hr : (47 : UInt8) ∉ r := fun e => h (by simp [e])
    simp [cuts, hb, ih hr]
theorem cuts_slash {a : List UInt8} (b : List UInt8) (h : (47 : UInt8) ∉ a) : cuts (a ++ 47 :: b) = a :: cuts b := by
  induction a with
  | nil => simp [cuts]
  | cons c r ih =>
    have hb : c ≠ 47 := fun e => h (by simp [e])
    have hr : (47 : UInt8) ∉ r := fun e => h (by simp [e])
    simp [cuts, hb, ih hr]

/-- Where the first slash is. -/
theorem index_free {l : List UInt8} (h : Lib.indexByte l 47 = -1) : (47 : UInt8) ∉ l := by
  induction l with
  | nil => simp
  | cons b r ih =>
    unfold Lib.indexByte at h
    by_cases hb : b == 47
    · simp [hb] at h
    · have hb' : b ≠ 47 := by simpa using hb
      rw [if_neg hb] at h
      by_cases hr : Lib.indexByte r 47 = -1
      · simp [ih hr]; exact fun e => hb' e.symm
      · have hg := Lib.indexByte_ge r 47
        rw [if_neg (by simpa using hr)] at h
        omega
theorem index_found {l : List UInt8} {i : Nat} (h : Lib.indexByte l 47 = i) : i < l.length ∧ (47 : UInt8) ∉ l.take i ∧ l = l.take i ++ 47 :: l.drop (i + 1) := by
  induction l generalizing i with
  | nil => simp [Lib.indexByte] at h
  | cons b r ih =>
    unfold Lib.indexByte at h
    by_cases hb : b == 47
    · rw [if_pos hb] at h
      obtain rfl : i = 0 := by omega
      simp at hb
      simp [hb]
    · rw [if_neg hb] at h
      have hb' : b ≠ 47 := by simpa using hb
      by_cases hr : Lib.indexByte r 47 = -1
      · rw [if_pos (by simpa using hr)] at h; omega
      · have hg := Lib.indexByte_ge r 47
        rw [if_neg (by simpa using hr)] at h
        obtain ⟨j, rfl⟩ : ∃ j, i = j + 1 := ⟨i - 1, by omega⟩
        obtain ⟨h1, h2, h3⟩ := ih (i := j) (by omega)
        refine ⟨by simp; omega, by simp [h2]; exact fun e => hb' e.symm, ?_⟩
        simp
        exact h3

theorem okName_free {s : List UInt8} (h : okName s = true) : (47 : UInt8) ∉ s := by
  simp only [okName, plain, Bool.and_eq_true, List.all_eq_true] at h
  intro hm
  have := (h.2 47 hm).1
  simp at this
theorem okName_len {s : List UInt8} (h : okName s = true) : 1 ≤ s.length ∧ s.length ≤ 23 := by
  simp only [okName, Bool.and_eq_true, Bool.not_eq_true', Bool.or_eq_false_iff, decide_eq_false_iff_not] at h
  obtain ⟨⟨⟨⟨h1, h2⟩, _⟩, _⟩, _⟩ := h
  refine ⟨?_, by omega⟩
  cases s with
  | nil => simp at h1
  | cons => simp

theorem join_cons2 (x y : List UInt8) (r : List (List UInt8)) : Lib.join (x :: y :: r) [47] = x ++ 47 :: Lib.join (y :: r) [47] := by
  simp [Lib.join_cons, Lib.joinTail]
theorem join_cuts (l : List UInt8) : Lib.join (cuts l) [47] = l := by
  induction l with
  | nil => simp [cuts, Lib.join_one]
  | cons b r ih =>
    unfold cuts
    by_cases hb : b = 47
    · rw [if_pos hb]
      cases hc : cuts r with
      | nil => exact absurd hc (cuts_ne r)
      | cons x xs => rw [join_cons2, ← hc, ih, hb]; rfl
    · rw [if_neg hb]
      cases hc : cuts r with
      | nil => exact absurd hc (cuts_ne r)
      | cons x xs =>
        rw [hc] at ih
        simp only []
        cases xs with
        | nil => rw [Lib.join_one] at ih ⊢; rw [ih]
        | cons y ys => rw [join_cons2] at ih ⊢; rw [List.cons_append, ih]
theorem cuts_join {l : List (List UInt8)} (hn : l ≠ []) (h : ∀ x, x ∈ l → (47 : UInt8) ∉ x) : cuts (Lib.join l [47]) = l := by
  induction l with
  | nil => exact absurd rfl hn
  | cons x r ih =>
    cases r with
    | nil => rw [Lib.join_one, cuts_free (h x (by simp))]
    | cons y r => rw [join_cons2, cuts_slash _ (h x (by simp)), ih (by simp) (fun z hz => h z (by simp [hz]))]

theorem judge_zero {l : List (List UInt8)} : judge l = 0 ↔ l.length ≤ 16 ∧ ∀ x, x ∈ l → okName x = true := by
  unfold judge
  by_cases h1 : 16 < l.length
  · rw [if_pos h1]; constructor
    · intro h; omega
    · intro h; omega
  · rw [if_neg h1]
    by_cases h2 : l.all okName = true
    · rw [if_pos h2]; exact ⟨fun _ => ⟨by omega, by simpa using h2⟩, fun _ => rfl⟩
    · rw [if_neg h2]; exact ⟨fun h => by omega, fun h => absurd (by simpa using h.2) h2⟩
theorem judge_cases (l : List (List UInt8)) : judge l = 0 ∨ judge l = 31 ∨ judge l = 33 := by
  unfold judge; split
  · simp
  · split <;> simp

theorem join_len {l : List (List UInt8)} (hn : l ≠ []) (h : ∀ x, x ∈ l → x.length ≤ 23) : (Lib.join l [47]).length + 1 ≤ 24 * l.length := by
  induction l with
  | nil => exact absurd rfl hn
  | cons x r ih =>
    have hx := h x (by simp)
    cases r with
    | nil => rw [Lib.join_one]; simp; omega
    | cons y r =>
      have hr := ih (by simp) (fun z hz => h z (by simp [hz]))
      rw [join_cons2]; simp at hr ⊢; omega
theorem pathT_len {l : List (List UInt8)} (h : judge l = 0) : (pathT l).length ≤ 384 := by
  obtain ⟨h1, h2⟩ := judge_zero.1 h
  cases l with
  | nil => simp [pathT, Lib.join_nil]
  | cons x r =>
    have hr := join_len (l := x :: r) (by simp) (fun z hz => (okName_len (h2 z hz)).2)
    simp only [pathT, List.length_cons] at hr h1 ⊢
    omega

theorem pathT_nil : pathT [] = [47] := rfl
theorem join_ne {l : List (List UInt8)} (hn : l ≠ []) (h : ∀ x, x ∈ l → okName x = true) : Lib.join l [47] ≠ [] := by
  cases l with
  | nil => exact absurd rfl hn
  | cons x r =>
    have hx := (okName_len (h x (by simp))).1
    cases r with
    | nil => rw [Lib.join_one]; intro e; rw [e] at hx; simp at hx
    | cons y r => rw [join_cons2]; simp
/-- Split of what Join puts together: the list again. -/
theorem split_path {l : List (List UInt8)} (h : judge l = 0) : splitE (pathT l) = 0 ∧ splitL (pathT l) = l := by
  obtain ⟨h1, h2⟩ := judge_zero.1 h
  cases l with
  | nil => exact ⟨by decide, by decide⟩
  | cons x r =>
    have hc : cuts (Lib.join (x :: r) [47]) = x :: r := cuts_join (by simp) (fun z hz => okName_free (h2 z hz))
    have hne : pathT (x :: r) ≠ [47] := by
      intro e; exact join_ne (l := x :: r) (by simp) h2 (by simpa [pathT] using e)
    have hE : splitE (pathT (x :: r)) = 0 := by
      unfold splitE
      rw [if_pos (show (pathT (x :: r)).head? = some 47 from rfl), if_neg hne]
      show judge (cuts (Lib.join (x :: r) [47])) = 0
      rw [hc]; exact h
    refine ⟨hE, ?_⟩
    unfold splitL
    rw [if_pos ⟨hE, hne⟩]
    exact hc
/-- What Split takes apart is put together again. -/
theorem path_split {p : List UInt8} (h : splitE p = 0) : judge (splitL p) = 0 ∧ pathT (splitL p) = p := by
  unfold splitE at h
  by_cases h0 : p.head? = some 47
  · rw [if_pos h0] at h
    by_cases h1 : p = [47]
    · subst h1; exact ⟨by decide, by decide⟩
    · rw [if_neg h1] at h
      have hE : splitE p = 0 := by unfold splitE; rw [if_pos h0, if_neg h1]; exact h
      have hL : splitL p = cuts p.tail := by unfold splitL; rw [if_pos ⟨hE, h1⟩]
      rw [hL]
      refine ⟨h, ?_⟩
      unfold pathT
      rw [join_cuts]
      cases p with
      | nil => simp at h0
      | cons b r => simp at h0; simp [h0]
  · rw [if_neg h0] at h; omega
theorem splitL_err {p : List UInt8} (h : splitE p ≠ 0) : splitL p = [] := by
  unfold splitL; rw [if_neg (fun e => h e.1)]
theorem splitE_cases (p : List UInt8) : splitE p = 0 ∨ splitE p = 31 ∨ splitE p = 32 ∨ splitE p = 33 := by
  unfold splitE
  split
  · split
    · simp
    · rcases judge_cases (cuts p.tail) with h | h | h <;> simp [h]
  · simp
end Go.Proofs.Ytknneihkkagnfaa
