/- The book: steps. -/
import Derived.Test.YtlcjkbhcbiggcaaGreatDoorBS
import Derived.Test.YtlcjkbhcbiggcaaGreatDoorB7
import Derived.Test.YtlcjkbhcbiggcaaGreatDoorB10
namespace Go.Proofs.YtlcjkbhcbiggcaaGreatDoor
open Go.RowKit Go.Maps
set_option maxRecDepth 100000

theorem SkR.from {w0 w W w' : World} {wb N kb : Nat} {c : Kc} {i : Nat} {ks : List Nat} {m : Nat} {T : Nat → Rec} {G : List Int} {F : Nat → Prop} {lv gv : Value} (b : Below w.heap.size w W) (h : SkR w0 W w' wb N kb c i ks m T G F lv gv) : SkR w0 w w' wb N kb c i ks m T G F lv gv := by
  obtain ⟨o, L', G', F', v', lv', gv', s, t, f, g, r⟩ := h
  have z := b.size
  refine ⟨o, L', G', F', v', lv', gv', s, (Below.turns b _).trans t (fun _ _ q => q), fun x hx => ?_, g, r⟩
  rcases f x hx with q | q
  · exact Or.inl q
  · exact Or.inr (by omega)
theorem SkR.none {w0 w w' : World} {wb N kb : Nat} {c : Kc} {i : Nat} {ks : List Nat} {m : Nat} {T : Nat → Rec} {L : List Ino} {G : List Int} {F : Nat → Prop} {v : Nat → List Int} {lv gv : Value} (h : Sk w0 w wb N kb c i ks m T L G F v lv gv) (b : Below w.heap.size w w') : SkR w0 w w' wb N kb c i ks m T G F lv gv :=
  h.same (w1 := w) ⟨h.st.tv, Turns.refl _ _⟩ b
/-- What a step of the book answers. -/
def StpR (w0 w : World) (wb N kb : Nat) (c : Kc) (i : Nat) (ks : List Nat) (m : Nat) (T : Nat → Rec) (G : List Int) (F : Nat → Prop) (lv gv : Value) (e : Ending) (w' : World) : Prop :=
  e = .returned (.bool true) ∧ SkR w0 w w' wb N kb c i ks m T G F lv gv

attribute [local go_sem ↓ 100000] in_load in_ex in_store
set_option maxHeartbeats 8000000 in
theorem steps_new {w0 w : World} {wb N kb : Nat} {c : Kc} {i : Nat} {ks : List Nat} {m : Nat} {T : Nat → Rec} {L : List Ino} {G : List Int} {F : Nat → Prop} {v : Nat → List Int} {lv gv : Value} (h : Sk w0 w wb N kb c i ks m T L G F v lv gv) (p : Opn) (hk : p.kind = 1) (hsq : (c.seq : Int) ≤ 4611686018427387904) (hks : ks.length < 24) (hm : m ≤ 1000000) (hG : G.length ≤ 1000) :
    Calls Tryz.prog 10 #[.pointer (some ⟨kb, 0, none⟩), .pointer (some ⟨wb, 0, none⟩), opV p] w (StpR w0 w wb N kb c i ks m T G F lv gv) := by
  have O1 : OpBox (w.alloc (.cells (opA p) 41)) w.heap.size p := heap_alloc_last w _
  have b1 : Below w.heap.size w (w.alloc (.cells (opA p) 41)) := (Below.refl _ w).alloc (Nat.le_refl _) _
  have h1 := h.below b1
  obtain ⟨c0, c1, c2, c16, inr⟩ := O1.cells
  rw [hk] at c0
  go_enter Tryz.func10, Tryz.ntmps10
  go_wp2_with fail
  refine (takes_any h1 p.a hsq hks hm hG).mono ?_
  rintro e w2 ⟨rfl, s2⟩
  have HS : Hid (SkR w0 w w2 wb N kb c i ks m T G F lv gv) := SkR.from b1 s2
  clear s2
  go_wp2
  go_ret
  exact ⟨rfl, HS.out⟩

set_option maxHeartbeats 8000000 in
theorem steps_put {w0 w : World} {wb N kb : Nat} {c : Kc} {i : Nat} {ks : List Nat} {m : Nat} {T : Nat → Rec} {L : List Ino} {G : List Int} {F : Nat → Prop} {v : Nat → List Int} {lv gv : Value} (h : Sk w0 w wb N kb c i ks m T L G F v lv gv) (p : Opn) (hk : p.kind = 3) (hks : ks.length < 24) (hm : m ≤ 1000000) :
    Calls Tryz.prog 10 #[.pointer (some ⟨kb, 0, none⟩), .pointer (some ⟨wb, 0, none⟩), opV p] w (StpR w0 w wb N kb c i ks m T G F lv gv) := by
  have O1 : OpBox (w.alloc (.cells (opA p) 41)) w.heap.size p := heap_alloc_last w _
  have b1 : Below w.heap.size w (w.alloc (.cells (opA p) 41)) := (Below.refl _ w).alloc (Nat.le_refl _) _
  have h1 := h.below b1
  obtain ⟨c0, c1, c2, c16, inr⟩ := O1.cells
  rw [hk] at c0
  have e1 := InLoad.mid inr rfl
  clear inr
  go_enter Tryz.func10, Tryz.ntmps10
  go_wp2_with fail
  refine (puts_any h1 p.x hks hm).mono ?_
  rintro e w2 ⟨rfl, s2⟩
  have HS : Hid (SkR w0 w w2 wb N kb c i ks m T G F lv gv) := SkR.from b1 s2
  clear s2 e1
  go_wp2
  go_ret
  exact ⟨rfl, HS.out⟩

set_option maxHeartbeats 8000000 in
theorem steps_all {w0 w : World} {wb N kb : Nat} {c : Kc} {i : Nat} {ks : List Nat} {m : Nat} {T : Nat → Rec} {L : List Ino} {G : List Int} {F : Nat → Prop} {v : Nat → List Int} {lv gv : Value} (h : Sk w0 w wb N kb c i ks m T L G F v lv gv) (p : Opn) (hk : p.kind = 5) :
    Calls Tryz.prog 10 #[.pointer (some ⟨kb, 0, none⟩), .pointer (some ⟨wb, 0, none⟩), opV p] w (StpR w0 w wb N kb c i ks m T G F lv gv) := by
  have O1 : OpBox (w.alloc (.cells (opA p) 41)) w.heap.size p := heap_alloc_last w _
  have b1 : Below w.heap.size w (w.alloc (.cells (opA p) 41)) := (Below.refl _ w).alloc (Nat.le_refl _) _
  have h1 := h.below b1
  obtain ⟨c0, c1, c2, c16, inr⟩ := O1.cells
  rw [hk] at c0
  go_enter Tryz.func10, Tryz.ntmps10
  go_wp2_with fail
  refine (sees_any h1).mono ?_
  rintro e w2 ⟨rfl, s2⟩
  have HS : Hid (SkR w0 w w2 wb N kb c i ks m T G F lv gv) := SkR.from b1 s2
  clear s2
  go_wp2
  go_ret
  exact ⟨rfl, HS.out⟩

set_option maxHeartbeats 8000000 in
theorem steps_no {w0 w : World} {wb N kb : Nat} {c : Kc} {i : Nat} {ks : List Nat} {m : Nat} {T : Nat → Rec} {L : List Ino} {G : List Int} {F : Nat → Prop} {v : Nat → List Int} {lv gv : Value} (h : Sk w0 w wb N kb c i ks m T L G F v lv gv) (p : Opn) (k1 : p.kind ≠ 1) (k2 : p.kind ≠ 2) (k3 : p.kind ≠ 3) (k4 : p.kind ≠ 4) (k5 : p.kind ≠ 5) :
    Calls Tryz.prog 10 #[.pointer (some ⟨kb, 0, none⟩), .pointer (some ⟨wb, 0, none⟩), opV p] w (StpR w0 w wb N kb c i ks m T G F lv gv) := by
  have O1 : OpBox (w.alloc (.cells (opA p) 41)) w.heap.size p := heap_alloc_last w _
  have b1 : Below w.heap.size w (w.alloc (.cells (opA p) 41)) := (Below.refl _ w).alloc (Nat.le_refl _) _
  have HS : Hid (SkR w0 w (w.alloc (.cells (opA p) 41)) wb N kb c i ks m T G F lv gv) := SkR.none h b1
  obtain ⟨c0, c1, c2, c16, inr⟩ := O1.cells
  have q1 : (p.kind == 1) = false := by simpa using k1
  have q2 : (p.kind == 2) = false := by simpa using k2
  have q3 : (p.kind == 3) = false := by simpa using k3
  have q4 : (p.kind == 4) = false := by simpa using k4
  have q5 : (p.kind == 5) = false := by simpa using k5
  go_enter Tryz.func10, Tryz.ntmps10
  go_wp2
  go_ret
  exact ⟨rfl, HS.out⟩
end Go.Proofs.YtlcjkbhcbiggcaaGreatDoor
