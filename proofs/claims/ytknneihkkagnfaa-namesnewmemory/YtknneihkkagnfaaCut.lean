/- strings.HasPrefix and strings.Cut at a slash, strings.Clone, names.pathOf. -/
import Derived.Test.YtknneihkkagnfaaBase
import Derived.Test.YtknneihkkagnfaaShelf
import Derived.Lib.Strings
import Derived.Lib.Walk
import Derived.Shelf.RegionOpenPlain
namespace Go.Proofs.Ytknneihkkagnfaa
open Go.RowKit
set_option maxRecDepth 100000

abbrev slash : ByteArray := ⟨#[47]⟩

theorem ext_bs (s : ByteArray) (a b : Nat) : bs (s.extract a b) = ((bs s).drop a).take (b - a) := by
  rw [Lib.extract_eq]
theorem head_ext {s : ByteArray} (h : 1 ≤ s.size) : ((s.extract 0 1).toList == [47]) = decide ((bs s).head? = some 47) := by
  rw [ByteArray.toList_eq]
  show (bs (s.extract 0 1) == [47]) = _
  rw [ext_bs]
  rw [size_bs] at h
  cases hl : bs s with
  | nil => rw [hl] at h; simp at h
  | cons c r => simp; by_cases hc : c = 47 <;> simp [hc]

set_option maxHeartbeats 1000000 in
theorem lhas_any (s : ByteArray) (w : World) :
    Calls Try.prog 29 #[.string s, .string slash] w fun e w' => e = .returned (.bool (decide ((bs s).head? = some 47))) ∧ w' = w := by
  go_enter Try.func29, Try.ntmps29
  by_cases h : 1 ≤ s.size
  · have h' : (1 : Int) ≤ s.size := by omega
    go_wp2
    go_ret
    exact ⟨by rw [← head_ext h]; rfl, rfl⟩
  · have h' : ¬ (1 : Int) ≤ s.size := by omega
    have h0 : bs s = [] := List.eq_nil_of_length_eq_zero (by rw [← size_bs]; omega)
    go_wp2
    go_ret
    exact ⟨by first | rfl | (rw [h0]; rfl), rfl⟩

set_option maxHeartbeats 1000000 in
theorem has_any (s : ByteArray) (w : World) :
    Calls Try.prog 24 #[.string s, .string slash] w fun e w' => e = .returned (.bool (decide ((bs s).head? = some 47))) ∧ w' = w := by
  go_enter Try.func24, Try.ntmps24
  go_wp2_with (go_at_call 29; refine (lhas_any _ _).mono ?_; rintro e w' ⟨rfl, rfl⟩)
  go_ret
  exact ⟨rfl, rfl⟩

set_option maxHeartbeats 1000000 in
theorem index_any (s : ByteArray) (w : World) :
    Calls Try.prog 40 #[.string s, .string slash] w fun e w' => e = .returned (.int .i64 (Lib.indexByte (bs s) 47)) ∧ w' = w := by
  go_enter Try.func40, Try.ntmps40
  by_cases h : s.toList = [47]
  · have h1 : ([47] == s.toList) = true := by rw [h]; rfl
    go_wp2
    go_ret
    refine ⟨?_, rfl⟩
    rw [ByteArray.toList_eq] at h
    rw [show bs s = [47] from h]
    rfl
  · have h1 : ([47] == s.toList) = false := by simp; exact fun e => h e.symm
    go_wp2_with (go_at_call 43; refine (Try.stringslite_IndexByte _ _ _).mono ?_; rintro e w' ⟨rfl, rfl⟩)
    go_ret
    exact ⟨rfl, rfl⟩

theorem cut_at {s : ByteArray} {i : Nat} (h : Lib.indexByte (bs s) 47 = i) : i < s.size ∧ (47 : UInt8) ∉ bs (s.extract 0 i) ∧ bs s = bs (s.extract 0 i) ++ 47 :: bs (s.extract (i + 1) s.size) := by
  obtain ⟨h1, h2, h3⟩ := index_found h
  have e1 : bs (s.extract 0 i) = (bs s).take i := by rw [ext_bs]; simp
  have e2 : bs (s.extract (i + 1) s.size) = (bs s).drop (i + 1) := by
    rw [ext_bs, List.take_of_length_le]
    rw [List.length_drop, ← size_bs]; exact Nat.le_refl _
  rw [e1, e2]
  exact ⟨by rw [size_bs]; exact h1, h2, h3⟩

set_option maxHeartbeats 1000000 in
theorem lcut_free (s : ByteArray) (w : World) (h : Lib.indexByte (bs s) 47 = -1) :
    Calls Try.prog 36 #[.string s, .string slash] w fun e w' => e = .returned (.tuple #[.string s, .string ⟨#[]⟩, .bool false]) ∧ w' = w := by
  go_enter Try.func36, Try.ntmps36
  go_wp2_with (go_at_call 40; refine (index_any _ _).mono ?_; rintro e w' ⟨rfl, rfl⟩; rw [h])
  go_ret3
  exact ⟨rfl, rfl⟩

set_option maxHeartbeats 1000000 in
theorem lcut_found (s : ByteArray) (i : Nat) (w : World) (h : Lib.indexByte (bs s) 47 = i) (hs : s.size ≤ 281474976710656) :
    Calls Try.prog 36 #[.string s, .string slash] w fun e w' => e = .returned (.tuple #[.string (s.extract 0 i), .string (s.extract (i + 1) s.size), .bool true]) ∧ ∃ n, w' = w.drewN n := by
  obtain ⟨hi, _⟩ := cut_at h
  have c1 : (0 : Int) ≤ ↑i := by omega
  have c2 : (↑i : Int) ≤ ↑s.size := by omega
  have c3 : (0 : Int) ≤ ↑i + 1 := by omega
  have c4 : (↑i + 1 : Int) ≤ ↑s.size := by omega
  have c5 : IntKind.i64.wrap (↑i + 1) = ↑i + 1 := by
    rw [IntKind.wrap_i64]; omega
  go_enter Try.func36, Try.ntmps36
  go_wp2_with (go_at_call 40; refine (index_any _ _).mono ?_; rintro e w' ⟨rfl, rfl⟩; rw [h])
  go_quiet (fail)
  go_wp2
  go_ret3
  exact ⟨rfl, _, rfl⟩

set_option maxHeartbeats 1000000 in
theorem cut_free (s : ByteArray) (w : World) (h : Lib.indexByte (bs s) 47 = -1) :
    Calls Try.prog 31 #[.string s, .string slash] w fun e w' => e = .returned (.tuple #[.string s, .string ⟨#[]⟩, .bool false]) ∧ w' = w := by
  go_enter Try.func31, Try.ntmps31
  go_wp2_with (go_at_call 36; refine (lcut_free _ _ h).mono ?_; rintro e w' ⟨rfl, rfl⟩)
  go_ret3
  exact ⟨rfl, rfl⟩
set_option maxHeartbeats 1000000 in
theorem cut_found (s : ByteArray) (i : Nat) (w : World) (h : Lib.indexByte (bs s) 47 = i) (hs : s.size ≤ 281474976710656) :
    Calls Try.prog 31 #[.string s, .string slash] w fun e w' => e = .returned (.tuple #[.string (s.extract 0 i), .string (s.extract (i + 1) s.size), .bool true]) ∧ ∃ n, w' = w.drewN n := by
  go_enter Try.func31, Try.ntmps31
  go_wp2_with (go_at_call 36; refine (lcut_found _ _ _ h hs).mono ?_; rintro e w' ⟨rfl, n, rfl⟩)
  go_ret3
  exact ⟨rfl, _, rfl⟩

/-- Cut at a slash: what is cut off, what is left, whether. -/
theorem cut_any (s : ByteArray) (w : World) (hs : s.size ≤ 281474976710656) :
    Calls Try.prog 31 #[.string s, .string slash] w fun e w' => ∃ (a b : ByteArray) (m : Bool), e = .returned (.tuple #[.string a, .string b, .bool m]) ∧ (∃ n, w' = w.drewN n) ∧
      cuts (bs s) = bs a :: (if m = true then cuts (bs b) else []) ∧ a.size ≤ s.size ∧ b.size + (if m = true then 1 else 0) ≤ s.size ∧ (m = true → bs s = bs a ++ 47 :: bs b) := by
  by_cases h : Lib.indexByte (bs s) 47 = -1
  · refine (cut_free s w h).mono ?_
    rintro e w' ⟨rfl, rfl⟩
    exact ⟨s, ⟨#[]⟩, false, rfl, ⟨0, rfl⟩, by rw [cuts_free (index_free h)]; rfl, Nat.le_refl _, Nat.zero_le _, fun h => by cases h⟩
  · have hg := Lib.indexByte_ge (bs s) 47
    obtain ⟨i, hi⟩ : ∃ i : Nat, Lib.indexByte (bs s) 47 = i := ⟨(Lib.indexByte (bs s) 47).toNat, by omega⟩
    obtain ⟨h1, h2, h3⟩ := cut_at hi
    refine (cut_found s i w hi hs).mono ?_
    rintro e w' ⟨rfl, hn⟩
    have hl := congrArg List.length h3
    simp only [List.length_append, List.length_cons, ← size_bs] at hl
    exact ⟨_, _, true, rfl, hn, by rw [h3, cuts_slash _ h2]; rfl, by omega, by simp only [if_true]; omega, fun _ => h3⟩

theorem clone_any (s : ByteArray) (w : World) (hlim : s.size ≤ 281474976710656) :
    Calls Try.prog 32 #[.string s] w fun e w' => e = .returned (.string s) ∧ Below w.heap.size w w' := by
  go_enter Try.func32, Try.ntmps32
  go_wp2_with (go_at_call 37; refine (Try.stringslite_Clone _ _ hlim).mono ?_; rintro e w' ⟨rfl, hb⟩)
  go_ret
  exact ⟨rfl, hb⟩
end Go.Proofs.Ytknneihkkagnfaa
