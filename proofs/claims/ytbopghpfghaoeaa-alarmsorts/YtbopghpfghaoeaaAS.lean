/- The calls of two alarms beside one another. -/
import Derived.Test.YtbopghpfghaoeaaAB
import Derived.Test.YtbopghpfghaoeaaAH
namespace Go.Proofs.Ytbopghpfghaoeaa
open Go.RowKit Go.Maps
set_option maxRecDepth 100000

/-- What a call at the k-th of them leaves. -/
def TwR (k : Nat) (w0 w w' : World) (lab : Nat → Nat) (a b : Nat) (Sa Sb : List (Int × Int)) : Prop := ∃ lab', Tw w0 w' lab' a b Sa Sb ∧ (∀ i, i < w.heap.size → lab' i = lab i) ∧ Turns (fun i => lab i = k) w w'
theorem Tw.setA {w0 w : World} {lab : Nat → Nat} {a b : Nat} {Sa Sb : List (Int × Int)} (h : Tw w0 w lab a b Sa Sb) (k t : Int) (hk : -9223372036854775808 ≤ k ∧ k ≤ 9223372036854775807) (hl : Sa.length < 4398046511104) :
    Calls Try.prog 9 #[.pointer (some ⟨a, 0, none⟩), .int .i64 k, .int .i64 t] w fun e w' => e = .returned (.tuple #[]) ∧ TwR 1 w0 w w' lab a b (setS OI Sa k t) Sb := by
  refine (setA_I h.A k t (okI hk) hl).mono ?_
  rintro e w' ⟨rfl, q, t⟩
  exact ⟨rfl, _, h.a t (fun _ hi => rl_old hi) q, fun _ hi => rl_old hi, t⟩
theorem Tw.setB {w0 w : World} {lab : Nat → Nat} {a b : Nat} {Sa Sb : List (Int × Int)} (h : Tw w0 w lab a b Sa Sb) (k t : Int) (hk : -9223372036854775808 ≤ k ∧ k ≤ 9223372036854775807) (hl : Sb.length < 4398046511104) :
    Calls Try.prog 9 #[.pointer (some ⟨b, 0, none⟩), .int .i64 k, .int .i64 t] w fun e w' => e = .returned (.tuple #[]) ∧ TwR 2 w0 w w' lab a b Sa (setS OI Sb k t) := by
  refine (setA_I h.B k t (okI hk) hl).mono ?_
  rintro e w' ⟨rfl, q, t⟩
  exact ⟨rfl, _, h.b t (fun _ hi => rl_old hi) q, fun _ hi => rl_old hi, t⟩
theorem Tw.cancelA {w0 w : World} {lab : Nat → Nat} {a b : Nat} {Sa Sb : List (Int × Int)} (h : Tw w0 w lab a b Sa Sb) (k : Int) (hk : -9223372036854775808 ≤ k ∧ k ≤ 9223372036854775807) :
    Calls Try.prog 11 #[.pointer (some ⟨a, 0, none⟩), .int .i64 k] w fun e w' => e = .returned (.bool (atS Sa k).isSome) ∧ TwR 1 w0 w w' lab a b (cutS Sa k) Sb := by
  refine (cancelA_I h.A k (okI hk)).mono ?_
  rintro e w' ⟨rfl, q, t⟩
  exact ⟨rfl, _, h.a t (fun _ hi => rl_old hi) q, fun _ hi => rl_old hi, t⟩
theorem Tw.cancelB {w0 w : World} {lab : Nat → Nat} {a b : Nat} {Sa Sb : List (Int × Int)} (h : Tw w0 w lab a b Sa Sb) (k : Int) (hk : -9223372036854775808 ≤ k ∧ k ≤ 9223372036854775807) :
    Calls Try.prog 11 #[.pointer (some ⟨b, 0, none⟩), .int .i64 k] w fun e w' => e = .returned (.bool (atS Sb k).isSome) ∧ TwR 2 w0 w w' lab a b Sa (cutS Sb k) := by
  refine (cancelA_I h.B k (okI hk)).mono ?_
  rintro e w' ⟨rfl, q, t⟩
  exact ⟨rfl, _, h.b t (fun _ hi => rl_old hi) q, fun _ hi => rl_old hi, t⟩
/-- What a Due at the k-th of them leaves: the list is labelled 3. -/
def TwD (k : Nat) (w0 w w' : World) (lab : Nat → Nat) (a b : Nat) (Sa Sb D : List (Int × Int)) (v : Value) : Prop := ∃ lab', w'.ownsRow 0 3 1 v D.length ((D.map Prod.fst).map (Value.int .i64)) ∧ (∀ c, v.ownBlock = some c → w.heap.size ≤ c ∧ lab' c = 3) ∧ Tw w0 w' lab' a b Sa Sb ∧ (∀ i, i < w.heap.size → lab' i = lab i) ∧ Turns (fun i => lab i = k) w w'
theorem kvI_eq (S : List (Int × Int)) : kvI S = (S.map Prod.fst).map (Value.int .i64) := by simp [kvI]
theorem Tw.dueA {w0 w : World} {lab : Nat → Nat} {a b : Nat} {Sa Sb : List (Int × Int)} (h : Tw w0 w lab a b Sa Sb) (now : Int) :
    Calls Try.prog 10 #[.pointer (some ⟨a, 0, none⟩), .int .i64 now] w fun e w' => ∃ v, e = .returned v ∧ TwD 1 w0 w w' lab a b (leftS Sa now) Sb (dueS Sa now) v := by
  refine (dueA_I h.A now 3).mono ?_
  rintro e w' ⟨v, rfl, l', o, hv, q, hl, t⟩
  rw [kvI_eq] at o
  exact ⟨v, rfl, l', o, hv, h.a t hl q, hl, t⟩
theorem Tw.dueB {w0 w : World} {lab : Nat → Nat} {a b : Nat} {Sa Sb : List (Int × Int)} (h : Tw w0 w lab a b Sa Sb) (now : Int) :
    Calls Try.prog 10 #[.pointer (some ⟨b, 0, none⟩), .int .i64 now] w fun e w' => ∃ v, e = .returned v ∧ TwD 2 w0 w w' lab a b Sa (leftS Sb now) (dueS Sb now) v := by
  refine (dueA_I h.B now 3).mono ?_
  rintro e w' ⟨v, rfl, l', o, hv, q, hl, t⟩
  rw [kvI_eq] at o
  exact ⟨v, rfl, l', o, hv, h.b t hl q, hl, t⟩
theorem mem_of_set {ps : List (Int × Int)} {x : Int × Int} (h : x ∈ setAll [] ps) : x ∈ ps := by
  have : ∀ (ps S : List (Int × Int)) x, x ∈ setAll S ps → x ∈ S ∨ x ∈ ps := by
    intro ps
    induction ps with
    | nil => exact fun S x h => Or.inl h
    | cons p ps ih =>
      intro S x h
      rcases ih _ x h with q | q
      · rcases mem_setS.1 q with q | ⟨q, _⟩
        · exact Or.inr (by rw [q]; exact List.mem_cons_self)
        · exact Or.inl q
      · exact Or.inr (List.mem_cons_of_mem _ q)
  rcases this ps [] x h with q | q
  · cases q
  · exact q
theorem mem_of_last {ps : List (Int × Int)} {x : Int × Int} (h : x ∈ lastL ps) : x ∈ ps := mem_of_set ((mem_last ps x).1 h)
end Go.Proofs.Ytbopghpfghaoeaa
