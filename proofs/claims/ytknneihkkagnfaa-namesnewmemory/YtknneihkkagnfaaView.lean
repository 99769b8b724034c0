/- Texts and lists of texts that came in, opened once; what their bounds give. -/
import Derived.Test.YtknneihkkagnfaaRows
import Derived.Test.YtknneihkkagnfaaBase
import Derived.ProofKit
import Derived.OpenShut
import Derived.SizedLaws
import Derived.Deep.Strs
import Derived.ChangeMaps5
import Derived.JoinedCond
namespace Go.Proofs.Ytknneihkkagnfaa
open Go.ChangeShapes Go.WideShapes Go.ChangeAt Go.RowKit

theorem own : ownKnob Try.prog.godebug = none := by kernel_rfl
theorem laidOut : laidOutB Try.prog = true := by kernel_rfl
theorem cells9 : Try.prog.cellsOf 9 = 1 := by kernel_rfl
theorem bytes9 : Try.prog.bytesOf 9 = 16 := by kernel_rfl

/-- What a list of texts reads as. -/
def reads {H : Type} (xs : List ByteArray) : List (DataW H) := xs.map fun s => .lit (.string (bs s))

/-- A list of texts that came in, nil or not: the texts, and what it reads as. -/
theorem view_texts {H : Type} {enc : TypeId × Value → H} {W : World} {fuel : Nat} {a0 : Option Addr} {len cap : Nat} {d : DataW H} {p : List MemPlace}
    (hf : DataW.trod enc Try.prog W 0 (fun _ => true) true fuel 22 (Value.slice a0 len cap).cells.toList = some (d, p)) :
    ∃ xs : List ByteArray, Lies W a0 len cap xs ∧ (len = 0 ∨ ∃ sp, d = .slice (reads xs) sp) := by
  rcases Deep.open_strs Try.underlying22 Try.underlying9 cells9 hf with ⟨hcs, _⟩ | ⟨a, len', cap', m, Sx, hcs, _, hl, hm, hmm, hx, hcell⟩
  · simp [Value.cells] at hcs
    obtain ⟨rfl, rfl, rfl⟩ := hcs
    exact ⟨[], Lies.nil W, Or.inl rfl⟩
  · simp [Value.cells] at hcs
    obtain ⟨rfl, rfl, rfl⟩ := hcs
    simp only [Prod.mk.injEq] at hx
    obtain ⟨rfl, rfl⟩ := hx
    simp only [if_true] at hmm
    subst hmm
    refine ⟨(List.range len).map Sx, ⟨by simp, hl, (fun h => by cases h), fun ad had t u hu => ?_⟩, Or.inr ⟨(List.range (m - len)).map fun j => .lit (.string (Sx (len + j)).data.toList), by simp [reads, Function.comp_def]⟩⟩
    obtain rfl := Option.some.inj had
    have ht : t < len := by
      have := (List.getElem?_eq_some_iff.1 hu).1
      simpa using this
    rw [(hcell t (by omega)).1]
    simpa [ht] using hu

theorem weights_mem {H : Type} {xs : List ByteArray} {x : ByteArray} (h : x ∈ xs) : x.size ∈ DataW.weightsAll (H := H) Try.prog 9 (reads xs) := by
  induction xs with
  | nil => cases h
  | cons y r ih =>
    simp only [reads, List.map_cons, DataW.weightsAll, DataW.weights]
    cases List.mem_cons.1 h with
    | inl e => subst e; simp
    | inr e => exact List.mem_append_right _ (ih e)

/-- The place j of a sized row, a list of texts: how many they are, and how long each. -/
theorem reach_texts {H : Type} {ts : List TypeId} {ds : List (DataW H)} {len : Nat} {xs : List ByteArray} {d : DataW H} {j : Nat} (hsz : (DataW.weightsEach Try.prog ts ds).all (· ≤ reachBytes) = true) (ht : ts[j]? = some 22) (hd : ds[j]? = some d) (hZ : xs.length = len) (h : len = 0 ∨ ∃ sp, d = .slice (reads xs) sp) :
    len ≤ 8796093021952 ∧ ∀ x, x ∈ xs → x.size ≤ 140737488351232 := by
  rcases h with h | ⟨sp, rfl⟩
  · obtain rfl := List.eq_nil_of_length_eq_zero (by omega : xs.length = 0)
    exact ⟨by omega, fun x hx => by cases hx⟩
  · have hw : ∀ n, n ∈ DataW.weights Try.prog 22 (DataW.slice (reads xs) sp) → n ≤ 140737488351232 := fun n hn => by
      have h1 := DataW.weights_mem_each (P := Try.prog) ht hd n hn
      have := List.all_eq_true.1 hsz n h1
      exact of_decide_eq_true this
    simp only [DataW.weights, Try.underlying22, bytes9] at hw
    refine ⟨?_, fun x hx => hw x.size (List.mem_cons_of_mem _ (List.mem_append_left _ (weights_mem hx)))⟩
    have := hw _ List.mem_cons_self
    simp only [reads, List.length_map, hZ] at this
    omega

theorem bulk_one {H : Type} (d : DataW H) : 1 ≤ Rows.uptoBulk d := by
  cases d with
  | lit l => cases l <;> simp [Rows.uptoBulk]
  | nil => simp [Rows.uptoBulk]
  | ptr d => simp [Rows.uptoBulk]
  | slice elems spare => simp [Rows.uptoBulk]
  | agg parts => simp [Rows.uptoBulk]
  | iface t d => simp [Rows.uptoBulk]
  | map entries => simp [Rows.uptoBulk]
  | held h => simp [Rows.uptoBulk]
theorem bulk_part {H : Type} {d : DataW H} {l : List (DataW H)} (h : d ∈ l) : Rows.uptoBulk d ≤ Rows.uptoBulkAll l := by
  induction l with
  | nil => cases h
  | cons x r ih =>
    simp only [Rows.uptoBulkAll]
    cases List.mem_cons.1 h with
    | inl e => subst e; omega
    | inr e => have := ih e; omega
theorem bulk_len {H : Type} (l : List (DataW H)) : l.length ≤ Rows.uptoBulkAll l := by
  induction l with
  | nil => simp [Rows.uptoBulkAll]
  | cons x r ih => have := bulk_one x; simp only [Rows.uptoBulkAll, List.length_cons]; omega
theorem bulk_said {H : Type} {l : List (DataW H)} (hk : Rows.uptoSmall H l = true) : Rows.uptoBulkAll l ≤ 1048576 := of_decide_eq_true hk
theorem upto_texts {H : Type} {ds : List (DataW H)} {len : Nat} {xs : List ByteArray} {d : DataW H} (hk : Rows.uptoSmall H ds = true) (hd : d ∈ ds) (hZ : xs.length = len) (h : len = 0 ∨ ∃ sp, d = .slice (reads xs) sp) :
    len ≤ 1048576 ∧ ∀ x, x ∈ xs → x.size ≤ 1048576 := by
  rcases h with h | ⟨sp, rfl⟩
  · obtain rfl := List.eq_nil_of_length_eq_zero (by omega : xs.length = 0)
    exact ⟨by omega, fun x hx => by cases hx⟩
  · have h1 := bulk_said hk
    have h2 := bulk_part hd
    simp only [Rows.uptoBulk] at h2
    refine ⟨?_, fun x hx => ?_⟩
    · have h3 := bulk_len (reads (H := H) xs)
      simp only [reads, List.length_map, hZ] at h3 h2
      omega
    · have hm : (DataW.lit (.string (bs x)) : DataW H) ∈ reads xs := List.mem_map_of_mem (f := fun s => (DataW.lit (.string (bs s)) : DataW H)) hx
      have h3 := bulk_part hm
      simp only [Rows.uptoBulk] at h3
      rw [size_bs]
      omega
end Go.Proofs.Ytknneihkkagnfaa
