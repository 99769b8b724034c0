/- BitsOwn, readers: one reader goes on, the others stay. -/
import Derived.Test.YtjpaooejkbkliaaDoorOwnSet
namespace Go.Proofs.YtjpaooejkbkliaaDoor
open Go.RowKit
set_option maxRecDepth 100000

theorem Fk.andThen {K K' : Nat → Prop} {a b c : World} (h : Fk K a b) (k : Fk K' b c) (hk : ∀ i, i < a.heap.size → K' i → K i) : Fk K a c :=
  ⟨k.os.trans h.os, k.tape.trans h.tape, k.output.trans h.output, Nat.le_trans h.size k.size, fun i hi hne _ => (k.at (Nat.lt_of_lt_of_le hi h.size) (fun h' => hne (hk i hi h'))).trans (h.at hi hne)⟩

/-- The boxes of the readers. -/
def RB (R : List RR) (b : Nat) : Prop := ∃ r ∈ R, r.rb = b
/-- Each reader from lo on stands at its place. -/
def ROk (w : World) (R : List RR) (pl : Nat → RR → Nat) (lo : Nat) : Prop := ∀ (j : Nat) (r : RR), lo ≤ j → R[j]? = some r → RdT w r (pl j r)

theorem ROk.fk {K : Nat → Prop} {w w' : World} {R : List RR} {pl : Nat → RR → Nat} {lo : Nat} (h : ROk w R pl lo) (hF : Fk K w w') (h1 : ∀ r ∈ R, ¬ K r.rb) (h2 : ∀ r ∈ R, ¬ K r.g) : ROk w' R pl lo :=
  fun j r hj hr => (h j r hj hr).fk hF (h1 r (List.mem_of_getElem? hr)) (h2 r (List.mem_of_getElem? hr))

/-- One has gone on. -/
theorem ROk.went {w w' : World} {R : List RR} {pl pl' : Nat → RR → Nat} {lo k p : Nat} {r : RR} (h : ROk w R pl lo) (dist : ∀ (i j : Nat) (r s : RR), R[i]? = some r → R[j]? = some s → r.rb = s.rb → i = j) (hlo : lo ≤ k) (hr : R[k]? = some r)
    (hw : Went w w' r.rb r.g r.n r.n (p : Int) 0 r.bs) (hp : pl' k r = p) (hpl : ∀ j q, j ≠ k → pl' j q = pl j q) : ROk w' R pl' lo := by
  have hF := Fk.of_grown hw.2
  have hrd := h k r hlo hr
  intro j q hj hq
  by_cases hjk : j = k
  · subst hjk
    obtain rfl : r = q := Option.some.inj (hr.symm.trans hq)
    rw [hp]
    exact ⟨hw.1, hrd.2.fk hF hrd.1.apart⟩
  · rw [hpl j q hjk]
    have hqd := h j q hj hq
    exact hqd.fk hF (fun e => hjk (dist j k q r hq hr e)) (fun e => hqd.2.ne hrd.kind (by decide) e)
/-- One has gone on, whatever became of it: the later ones stay. -/
theorem ROk.past {w w' : World} {R : List RR} {pl : Nat → RR → Nat} {k : Nat} {r : RR} {p c : Int} (h : ROk w R pl k) (dist : ∀ (i j : Nat) (r s : RR), R[i]? = some r → R[j]? = some s → r.rb = s.rb → i = j) (hr : R[k]? = some r)
    (hw : Went w w' r.rb r.g r.n r.n p c r.bs) : ROk w' R pl (k + 1) := by
  have hF := Fk.of_grown hw.2
  have hrd := h k r (Nat.le_refl _) hr
  intro j q hj hq
  have hqd := h j q (by omega) hq
  exact hqd.fk hF (fun e => by have := dist j k q r hq hr e; omega) (fun e => hqd.2.ne hrd.kind (by decide) e)
theorem went_fk {w w' : World} {R : List RR} {k : Nat} {r : RR} {p c : Int} (hr : R[k]? = some r) (hw : Went w w' r.rb r.g r.n r.n p c r.bs) : Fk (RB R) w w' :=
  (Fk.of_grown hw.2).mono (fun _ _ hb => ⟨r, List.mem_of_getElem? hr, hb.symm⟩)

/-- The lists that were read: the reader's, from the last on. -/
structure LsOk (B1 m : Nat) (xs : List Itm) (w : World) (Ls : List Value) : Prop where
  own : ∀ (t : Nat) (l : Value), Ls[t]? = some l → ∃ x, xs[(m - 1 - t) / 2]? = some x ∧ w.ownsRow B1 5 1 l x.dl (x.ds.map (Value.int .u8))
  dist : ∀ (s t : Nat) (a b : Value) (c : Nat), Ls[s]? = some a → Ls[t]? = some b → a.ownBlock = some c → b.ownBlock = some c → s = t
theorem LsOk.fk {K : Nat → Prop} {B1 m : Nat} {xs : List Itm} {w w' : World} {Ls : List Value} (h : LsOk B1 m xs w Ls) (hF : Fk K w w') (hK : ∀ b, B1 ≤ b → b < w.heap.size → Kind w b 5 → ¬ K b) : LsOk B1 m xs w' Ls :=
  ⟨fun t l hl => by
    obtain ⟨x, hx, ho⟩ := h.own t l hl
    exact ⟨x, hx, own_fk ho hF (fun b hb => hK b (ho.lt b hb).1 (ho.lt b hb).2 (own_kind ho hb))⟩, h.dist⟩
theorem LsOk.more {B1 m : Nat} {xs : List Itm} {w w' : World} {Ls : List Value} {l : Value} {x : Itm} (h : LsOk B1 m xs w' Ls) (hlt : ∀ (t : Nat) (a : Value) (b : Nat), Ls[t]? = some a → a.ownBlock = some b → b < w.heap.size) (hx : xs[(m - 1 - Ls.length) / 2]? = some x)
    (ho : w'.ownsRow w.heap.size 5 1 l x.dl (x.ds.map (Value.int .u8))) (hB : B1 ≤ w.heap.size) : LsOk B1 m xs w' (Ls ++ [l]) := by
  have get : ∀ t a, (Ls ++ [l])[t]? = some a → (t < Ls.length ∧ Ls[t]? = some a) ∨ (t = Ls.length ∧ a = l) := by
    intro t a ha
    by_cases ht : t < Ls.length
    · rw [List.getElem?_append_left ht] at ha
      exact Or.inl ⟨ht, ha⟩
    · have h2 := (List.getElem?_eq_some_iff.1 ha).1
      simp at h2
      obtain rfl : t = Ls.length := by omega
      rw [List.getElem?_append_right (Nat.le_refl _)] at ha
      simp at ha
      exact Or.inr ⟨rfl, ha.symm⟩
  refine ⟨fun t a ha => ?_, fun s t a b c ha hb hac hbc => ?_⟩
  · rcases get t a ha with ⟨_, ha'⟩ | ⟨rfl, rfl⟩
    · exact h.own t a ha'
    · exact ⟨x, hx, ownsRow_mono ho hB⟩
  · rcases get s a ha with ⟨hs, ha'⟩ | ⟨rfl, rfl⟩ <;> rcases get t b hb with ⟨ht, hb'⟩ | ⟨rfl, rfl⟩
    · exact h.dist s t a b c ha' hb' hac hbc
    · have h1 := hlt s a c ha' hac
      have h2 := (ho.lt c hbc).1
      omega
    · have h1 := hlt t b c hb' hbc
      have h2 := (ho.lt c hac).1
      omega
    · rfl
end Go.Proofs.YtjpaooejkbkliaaDoor
