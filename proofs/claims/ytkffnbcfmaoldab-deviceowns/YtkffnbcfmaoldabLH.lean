/- Two devices beside one another. -/
import Derived.Test.YtkffnbcfmaoldabLF
namespace Go.Proofs.Ytkffnbcfmaoldab
open Go.RowKit Go.Maps
set_option maxRecDepth 100000

/-- Two devices beside one another, all their blocks new since w0. -/
structure Pr (w0 w : World) (d c : Nat) (S T : DevS) (k N M : Nat) (F G : Nat → Prop) : Prop where
  D : Dev w d 0 S k N F
  E : Dev w c 0 T k M G
  ap : ∀ i, F i → ¬ G i
  hF : ∀ i, F i → w0.heap.size ≤ i
  hG : ∀ i, G i → w0.heap.size ≤ i
  B : Below w0.heap.size w0 w
theorem Pr.symm {w0 w : World} {d c : Nat} {S T : DevS} {k N M : Nat} {F G : Nat → Prop} (h : Pr w0 w d c S T k N M F G) : Pr w0 w c d T S k M N G F := ⟨h.E, h.D, fun i a b => h.ap i b a, h.hG, h.hF, h.B⟩
theorem Pr.below {w0 w w' : World} {d c : Nat} {S T : DevS} {k N M : Nat} {F G : Nat → Prop} (h : Pr w0 w d c S T k N M F G) (b : Below w.heap.size w w') : Pr w0 w' d c S T k N M F G :=
  ⟨h.D.below b, h.E.below b, h.ap, h.hF, h.hG, h.B.trans (b.mono h.B.size)⟩
theorem Pr.drewN {w0 w : World} {d c : Nat} {S T : DevS} {k N M : Nat} {F G : Nat → Prop} (h : Pr w0 w d c S T k N M F G) (t : Nat) : Pr w0 (w.drewN t) d c S T k N M F G :=
  h.below (Below.drewN (Below.refl _ w) t)
theorem Pr.wentL {w0 w w' : World} {d c : Nat} {S S' T : DevS} {k N N' M : Nat} {F G : Nat → Prop} (h : Pr w0 w d c S T k N M F G) (q : Went w w' d S' k N' F) : Pr w0 w' d c S' T k N' M (grow F w w') G :=
  ⟨q.1, h.E.turns q.2 (fun i a b => h.ap i b a), grow_apart h.ap h.E.lt, grow_below h.hF h.B.size, h.hG, h.B.trans (q.2.below h.hF h.B.size)⟩
theorem Pr.sameL {w0 w w' : World} {d c : Nat} {S S' T : DevS} {k N N' M : Nat} {F G : Nat → Prop} (h : Pr w0 w d c S T k N M F G) (q : Same0 w w' d S' k N' F) : Pr w0 w' d c S' T k N' M F G :=
  ⟨q.1, h.E.turns q.2 (fun i a b => h.ap i b a), h.ap, h.hF, h.hG, h.B.trans (q.2.below h.hF h.B.size)⟩
theorem Pr.wentR {w0 w w' : World} {d c : Nat} {S T T' : DevS} {k N M M' : Nat} {F G : Nat → Prop} (h : Pr w0 w d c S T k N M F G) (q : Went w w' c T' k M' G) : Pr w0 w' d c S T' k N M' F (grow G w w') := (h.symm.wentL q).symm
theorem Pr.sameR {w0 w w' : World} {d c : Nat} {S T T' : DevS} {k N M M' : Nat} {F G : Nat → Prop} (h : Pr w0 w d c S T k N M F G) (q : Same0 w w' c T' k M' G) : Pr w0 w' d c S T' k N M' F G := (h.symm.sameL q).symm
/-- The lasting bytes of both, asked one behind the other, held against one another. -/
theorem Pr.dur {w0 w : World} {d c : Nat} {S T : DevS} {k N M : Nat} {F G : Nat → Prop} (h : Pr w0 w d c S T k N M F G) :
    Calls Try.prog 19 #[.pointer (some ⟨d, 0, none⟩)] w fun e w' => ∃ g, e = .returned (.slice (some ⟨g, 0, none⟩) (512 * k) (512 * k)) ∧ Pr w0 w' d c S T k N M F G ∧ w'.heap[g]? = some (bl S.last) ∧ ¬ F g ∧ ¬ G g := by
  refine (durable_on h.D).mono ?_
  rintro e w' ⟨g, rfl, o, hD, hT, hg⟩
  exact ⟨g, rfl, h.sameL ⟨hD, hT⟩, o.blk, o.out, fun q => by have := h.E.lt g q; omega⟩
theorem Pr.dur2 {w0 w : World} {d c : Nat} {S T : DevS} {k N M g1 : Nat} {F G : Nat → Prop} {bs : List Int} (h : Pr w0 w d c S T k N M F G) (h1 : w.heap[g1]? = some (bl bs)) (h2 : ¬ G g1) :
    Calls Try.prog 19 #[.pointer (some ⟨c, 0, none⟩)] w fun e w' => ∃ g, e = .returned (.slice (some ⟨g, 0, none⟩) (512 * k) (512 * k)) ∧ Pr w0 w' d c S T k N M F G ∧ w'.heap[g1]? = some (bl bs) ∧ w'.heap[g]? = some (bl T.last) := by
  refine (durable_on h.E).mono ?_
  rintro e w' ⟨g, rfl, o, hD, hT, hg⟩
  exact ⟨g, rfl, h.sameR ⟨hD, hT⟩, (hT.block g1 (heap_lt h1) h2).trans h1, o.blk⟩
theorem Pr.same {w0 w : World} {d c : Nat} {S T : DevS} {k N M g1 g2 : Nat} {F G : Nat → Prop} {bs : List Int} (h : Pr w0 w d c S T k N M F G) (hk : k ≤ 4096) (hl : bs.length = 512 * k) (h1 : w.heap[g1]? = some (bl bs)) (h2 : w.heap[g2]? = some (bl bs)) :
    Calls Try.prog 17 #[.slice (some ⟨g1, 0, none⟩) (512 * k) (512 * k), .slice (some ⟨g2, 0, none⟩) (512 * k) (512 * k)] w fun e w' => e = .returned (.bool true) ∧ Pr w0 w' d c S T k N M F G := by
  refine (same_true _ _ (512 * k) (512 * k) (512 * k) (512 * k) bs w (by omega) (Lies.full h1 hl) (Lies.full h2 hl)).mono ?_
  rintro e w' ⟨rfl, t, rfl⟩
  exact ⟨rfl, h.drewN t⟩
/-- What pends at both, likewise. -/
theorem Pr.pen {w0 w : World} {d c : Nat} {S T : DevS} {k N M : Nat} {F G : Nat → Prop} (h : Pr w0 w d c S T k N M F G) (hN : N ≤ 1099511627776) :
    Calls Try.prog 21 #[.pointer (some ⟨d, 0, none⟩)] w fun e w' => ∃ P gs, e = .returned (.slice (some ⟨P, 0, none⟩) S.pend.length S.pend.length) ∧ Pr w0 w' d c S T k N M F G ∧ PList w' P gs S.pend ∧ ¬ G P ∧ ∀ g ∈ gs, ¬ G g := by
  refine (pending_any h.D hN).mono ?_
  rintro e w' ⟨⟨P, gs, rfl, hP, h1, h2⟩, q⟩
  exact ⟨P, gs, rfl, h.sameL q, hP, fun q => by have := h.E.lt _ q; omega, fun g hg q => by have := h.E.lt _ q; have := h2 g hg; omega⟩
theorem Pr.pen2 {w0 w : World} {d c : Nat} {S T : DevS} {k N M P : Nat} {gs : List Nat} {F G : Nat → Prop} {ps : List (Nat × List Int)} (h : Pr w0 w d c S T k N M F G) (hM : M ≤ 1099511627776) (hP : PList w P gs ps) (h1 : ¬ G P) (h2 : ∀ g ∈ gs, ¬ G g) :
    Calls Try.prog 21 #[.pointer (some ⟨c, 0, none⟩)] w fun e w' => ∃ P2 gs2, e = .returned (.slice (some ⟨P2, 0, none⟩) T.pend.length T.pend.length) ∧ Pr w0 w' d c S T k N M F G ∧ PList w' P gs ps ∧ PList w' P2 gs2 T.pend := by
  refine (pending_any h.E hM).mono ?_
  rintro e w' ⟨⟨P2, gs2, rfl, hP2, _, _⟩, q⟩
  exact ⟨P2, gs2, rfl, h.sameR q, hP.turns q.2 h1 h2, hP2⟩
theorem Pr.samePen {w0 w : World} {d c : Nat} {S T : DevS} {k N M P1 P2 n : Nat} {gs1 gs2 : List Nat} {F G : Nat → Prop} {ps : List (Nat × List Int)} (h : Pr w0 w d c S T k N M F G) (hn : n ≤ 1099511627776) (hl : ps.length = n) (hd : ∀ p ∈ ps, p.2.length = 512) (h1 : PList w P1 gs1 ps) (h2 : PList w P2 gs2 ps) :
    Calls Try.prog 20 #[.slice (some ⟨P1, 0, none⟩) n n, .slice (some ⟨P2, 0, none⟩) n n] w fun e w' => e = .returned (.bool true) ∧ Pr w0 w' d c S T k N M F G := by
  refine (samePend_any _ _ n n n ps ps w hn (h1.read hl hd) (h2.read hl hd)).mono ?_
  rintro e w' ⟨rfl, t, rfl⟩
  exact ⟨by simp, h.drewN t⟩
/-- Two new devices. -/
theorem Pr.new {w0 w w1 w2 : World} {d c : Nat} {S T : DevS} {k : Nat} (hB : Below w0.heap.size w0 w) (h1 : Dev w1 d 0 S k 0 (grow (fun _ => False) w w1)) (b1 : Below w.heap.size w w1) (h2 : Dev w2 c 0 T k 0 (grow (fun _ => False) w1 w2)) (b2 : Below w1.heap.size w1 w2) :
    Pr w0 w2 d c S T k 0 0 (grow (fun _ => False) w w1) (grow (fun _ => False) w1 w2) := by
  have s1 := hB.size
  have s2 := b1.size
  refine ⟨h1.below b2, h2, fun i a b => ?_, fun i a => ?_, fun i a => ?_, (hB.trans (b1.mono hB.size)).trans (b2.mono (Nat.le_trans s1 s2))⟩
  · have a1 := a.elim False.elim id
    have b1 := b.elim False.elim id
    omega
  · have a1 := a.elim False.elim id
    omega
  · have a1 := a.elim False.elim id
    omega
end Go.Proofs.Ytkffnbcfmaoldab
