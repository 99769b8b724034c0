/- One device, a step of a script at it. -/
import Derived.Test.YtkffnbcfmaoldabLH
namespace Go.Proofs.Ytkffnbcfmaoldab
open Go.RowKit Go.Maps
set_option maxRecDepth 100000

/-- A device, all its blocks new since w0. -/
structure On (w0 w : World) (d : Nat) (S : DevS) (k N : Nat) (F : Nat → Prop) : Prop where
  D : Dev w d 0 S k N F
  hF : ∀ i, F i → w0.heap.size ≤ i
  B : Below w0.heap.size w0 w
theorem On.below {w0 w w' : World} {d : Nat} {S : DevS} {k N : Nat} {F : Nat → Prop} (h : On w0 w d S k N F) (b : Below w.heap.size w w') : On w0 w' d S k N F := ⟨h.D.below b, h.hF, h.B.trans (b.mono h.B.size)⟩
theorem On.went {w0 w w' : World} {d : Nat} {S S' : DevS} {k N N' : Nat} {F : Nat → Prop} (h : On w0 w d S k N F) (q : Went w w' d S' k N' F) : On w0 w' d S' k N' (grow F w w') := ⟨q.1, grow_below h.hF h.B.size, h.B.trans (q.2.below h.hF h.B.size)⟩
theorem On.same {w0 w w' : World} {d : Nat} {S S' : DevS} {k N N' : Nat} {F : Nat → Prop} (h : On w0 w d S k N F) (q : Same0 w w' d S' k N' F) : On w0 w' d S' k N' F := ⟨q.1, h.hF, h.B.trans (q.2.below h.hF h.B.size)⟩
theorem On.new {w0 w w1 : World} {d : Nat} {S : DevS} {k : Nat} (hB : Below w0.heap.size w0 w) (h1 : Dev w1 d 0 S k 0 (grow (fun _ => False) w w1)) (b1 : Below w.heap.size w w1) : On w0 w1 d S k 0 (grow (fun _ => False) w w1) :=
  ⟨h1, fun i a => by have := hB.size; have a1 := a.elim False.elim id; omega, hB.trans (b1.mono hB.size)⟩
theorem On.pn {w0 w : World} {d : Nat} {S : DevS} {k N : Nat} {F : Nat → Prop} (h : On w0 w d S k N F) : S.pend.length ≤ N := by
  obtain ⟨gl, bm, q, pv, gs, Dm, hX, _⟩ := h.D
  exact hX.pn
/-- The state behind a step, at a device whose power is on and that is not armed. -/
def stpS (k : Nat) (S : DevS) (s : Stp) : DevS := if s.fl then flushed S else wrote S (placeN s.b k) (List.replicate 512 s.x)
theorem rdB_len {S : DevS} {k b : Nat} (h : Good S k) (hb : b < k) : (rdB S b).length = 512 := by
  unfold rdB
  cases hn : newest S.pend b with
  | none =>
    show ((S.last.drop (512 * b)).take 512).length = 512
    have := h.len
    simp
    omega
  | some d =>
    unfold newest at hn
    rw [Option.map_eq_some_iff] at hn
    obtain ⟨p, hp, rfl⟩ := hn
    have hm := List.mem_of_find?_eq_some hp
    rw [List.mem_reverse] at hm
    exact (h.pend p hm).2.1
/-- A device's image beside it. -/
theorem Pr.image {w0 w w' : World} {d c : Nat} {S T : DevS} {k N : Nat} {F : Nat → Prop} (h : On w0 w d S k N F) (E : Dev w' c 0 T k 0 (grow (fun _ => False) w w')) (b : Below w.heap.size w w') : Pr w0 w' d c S T k N 0 F (grow (fun _ => False) w w') := by
  have s1 := h.B.size
  refine ⟨h.D.below b, E, fun i a q => ?_, h.hF, fun i q => ?_, h.B.trans (b.mono h.B.size)⟩
  · have := h.D.lt i a
    have q1 := q.elim False.elim id
    omega
  · have q1 := q.elim False.elim id
    omega
end Go.Proofs.Ytkffnbcfmaoldab
