/- A heap of timers whose keys are texts: the kind, and what is ahead. -/
import Derived.Test.YtbopghpfghaoeaaH1
import Derived.Deep.OwnRows
import Derived.BigQuiet
import Derived.Deep.QuietTactic
import Derived.StringKeys
import Derived.Lib.Strings
namespace Go.Proofs.Ytbopghpfghaoeaa
open Go.RowKit Go.Maps
set_option maxRecDepth 100000

theorem bl_irr : ∀ a : List UInt8, Op.bytesLess a a = false
  | [] => rfl
  | x :: a => by simp [Op.bytesLess, bl_irr a]
theorem bl_tr : ∀ a b c : List UInt8, Op.bytesLess a b = true → Op.bytesLess b c = true → Op.bytesLess a c = true
  | _, [], c, h, _ => by cases h' : ‹List UInt8› <;> simp [Op.bytesLess] at h
  | _, _ :: _, [], _, h => by simp [Op.bytesLess] at h
  | [], _ :: _, _ :: _, _, _ => rfl
  | x :: a, y :: b, z :: c, h, k => by
    simp only [Op.bytesLess, Bool.or_eq_true, decide_eq_true_eq, Bool.and_eq_true, beq_iff_eq] at h k ⊢
    rcases h with h | ⟨rfl, h⟩
    · rcases k with k | ⟨rfl, k⟩
      · exact Or.inl (UInt8.lt_trans h k)
      · exact Or.inl h
    · rcases k with k | ⟨rfl, k⟩
      · exact Or.inl k
      · exact Or.inr ⟨rfl, bl_tr a b c h k⟩
theorem bl_tot : ∀ a b : List UInt8, Op.bytesLess a b = false → Op.bytesLess b a = false → a = b
  | [], [], _, _ => rfl
  | [], _ :: _, h, _ => by simp [Op.bytesLess] at h
  | _ :: _, [], _, h => by simp [Op.bytesLess] at h
  | x :: a, y :: b, h, k => by
    simp only [Op.bytesLess, Bool.or_eq_false_iff, decide_eq_false_iff_not, Bool.and_eq_false_imp, beq_iff_eq] at h k
    have e : x = y := UInt8.le_antisymm (UInt8.not_lt.1 k.1) (UInt8.not_lt.1 h.1)
    subst e
    rw [bl_tot a b (h.2 rfl) (k.2 rfl)]
theorem ba_data (a : ByteArray) : a.toList = a.data.toList := Lib.toList_data a
/-- The order of texts. -/
def OS : Kord ByteArray := ⟨fun a b => Op.bytesLess a.toList b.toList, fun a => bl_irr _, fun a b c h k => bl_tr _ _ _ h k, fun a b h k => by
  have := bl_tot _ _ h k
  rw [ba_data, ba_data] at this
  exact ByteArray.ext (Array.ext' this)⟩
theorem Try.infoTS : (Try.prog.info? 111).map (fun i => (i.zero, i.size, i.bytes)) = some (some (.agg #[.string ⟨#[]⟩, .int .i64 0]), 2, 24) := by kernel_rfl
theorem Try.infoKS : (Try.prog.info? 9).map (fun i => (i.zero, i.size, i.bytes)) = some (some (.string ⟨#[]⟩), 1, 16) := by kernel_rfl
/-- A heap whose keys are texts. -/
def KS : Kd ByteArray where
  O := OS
  val := fun k => .string k
  lit := fun k => .string k.data.toList
  ok := fun k => k.size ≤ maxLen
  ta := 105
  tt := 111
  kt := 9
  fv := .func (.func 48) #[] #[]
  inj := fun a b h => by injection h with h; exact ByteArray.ext (Array.ext' h)
  key := fun a h => WideMaps.keyOf_string_mk Try.underlying9 h
  isk := fun a => trivial
  law := string_keyed Try.underlying9
  ne := by decide
set_option maxHeartbeats 1000000 in
theorem ahead_S (x y : ByteArray × Int) (w : World) : Calls Try.prog 48 #[.agg #[.string x.1, .int .i64 x.2], .agg #[.string y.1, .int .i64 y.2]] w fun e w' => e = .returned (.bool (ah OS x y)) ∧ Below w.heap.size w w' := by
  obtain ⟨k1, a1⟩ := x
  obtain ⟨k2, a2⟩ := y
  have hb : ∀ o o', Below w.heap.size w ((w.alloc o).alloc o') := fun o o' => ((Below.refl _ w).alloc (Nat.le_refl _) o).alloc (by simp) o'
  by_cases h : a1 < a2
  · have e : ah OS (k1, a1) (k2, a2) = true := (ah_iff _ _ _).2 (Or.inl h)
    rw [e]
    go_enter Try.func48, Try.ntmps48
    go_wp2
    go_ret
    exact ⟨rfl, hb _ _⟩
  · by_cases h2 : a1 = a2
    · subst h2
      have e : ah OS (k1, a1) (k2, a1) = OS.lt k1 k2 := by simp [ah]
      rw [e]
      clear h e
      go_enter Try.func48, Try.ntmps48
      go_wp2
      go_ret
      exact ⟨rfl, hb _ _⟩
    · have e : ah OS (k1, a1) (k2, a2) = false := by
        cases q : ah OS (k1, a1) (k2, a2)
        · rfl
        · rw [ah_iff] at q
          rcases q with q | ⟨q, _⟩
          · exact absurd q h
          · exact absurd q h2
      rw [e]
      have h3 : (a1 == a2) = false := by simpa using h2
      clear e h2
      go_enter Try.func48, Try.ntmps48
      go_wp2
      go_ret
      exact ⟨rfl, hb _ _⟩
end Go.Proofs.Ytbopghpfghaoeaa
