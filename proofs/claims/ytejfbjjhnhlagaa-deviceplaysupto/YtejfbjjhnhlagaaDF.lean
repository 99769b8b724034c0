/- The methods that hold the lock: Size, Power, Durable, Arm, Write, Read by their contracts. -/
import Derived.Test.YtejfbjjhnhlagaaDE
namespace Go.Proofs.Ytejfbjjhnhlagaa
open Go.RowKit Go.Maps
open Go.MuLone
set_option maxRecDepth 100000

/-- A call that turns nothing of what the device holds. -/
def Same0 (w w' : World) (db : Nat) (S : DevS) (k N : Nat) (F : Nat → Prop) : Prop := Dev w' db 0 S k N F ∧ Turns F w w'
/-- A call that turns it. -/
def Went (w w' : World) (db : Nat) (S : DevS) (k N : Nat) (F : Nat → Prop) : Prop := Dev w' db 0 S k N (grow F w w') ∧ Turns F w w'
theorem Same0.of {w w' : World} {db : Nat} {S : DevS} {k N gl bm : Nat} {q : Int} {pv : Value} {gs : List Nat} {Dm : DataW Value} {F : Nat → Prop} (h : DevX w' db 0 S k N gl bm q pv gs Dm) (f : Foot F db gl bm pv gs) (hl : ∀ i, F i → i < w.heap.size) (ht : Turns (fun i => i = db) w w') : Same0 w w' db S k N F :=
  ⟨⟨gl, bm, q, pv, gs, Dm, h, f, fun i hi => Nat.lt_of_lt_of_le (hl i hi) ht.size⟩, ht.mono (fun i _ e => by subst e; exact f.f1)⟩

set_option maxHeartbeats 1000000 in
theorem size_any {w : World} {db : Nat} {S : DevS} {k N : Nat} {F : Nat → Prop} (h : Dev w db 0 S k N F) :
    Calls Try.prog 31 #[.pointer (some ⟨db, 0, none⟩)] w fun e w' => e = .returned (.int .i64 k) ∧ Same0 w w' db S k N F := by
  obtain ⟨gl, bm, q, pv, gs, Dm, h, f, hl⟩ := h
  have htop := h.good.top
  go_enter_defers Try.func31, Try.ntmps31
  go_wp2_with fail
  refine (lock_dev h).mono ?_
  rintro e w1 ⟨rfl, h1, t1⟩
  have c2 := h1.cells.2.1
  go_wp2_with (go_at_call 52; refine (blocks_any db k _ _ htop c2).mono ?_; rintro e wn ⟨rfl, hwn⟩; subst wn)
  refine leaves_cons (f := 43) (args := #[.pointer (some ⟨db, 0, none⟩)]) (by simp) (by simp [go_sem]) ?_
  refine (unlock_dev .returning h1).mono ?_
  rintro e u' w2 ⟨rfl, rfl, h2, t2⟩
  exact ⟨_, results_tmp rfl _ _ _, rfl, Same0.of h2 f hl (t1.trans t2 (fun _ _ h => h))⟩

set_option maxHeartbeats 1000000 in
theorem power_any {w : World} {db : Nat} {S : DevS} {k N : Nat} {F : Nat → Prop} (h : Dev w db 0 S k N F) :
    Calls Try.prog 33 #[.pointer (some ⟨db, 0, none⟩)] w fun e w' => e = .returned (.bool (!S.off)) ∧ Same0 w w' db S k N F := by
  obtain ⟨gl, bm, q, pv, gs, Dm, h, f, hl⟩ := h
  go_enter_defers Try.func33, Try.ntmps33
  go_wp2_with fail
  refine (lock_dev h).mono ?_
  rintro e w1 ⟨rfl, h1, t1⟩
  have c6 := h1.cells.2.2.2.2.2.1
  go_wp2
  refine leaves_cons (f := 43) (args := #[.pointer (some ⟨db, 0, none⟩)]) (by simp) (by simp [go_sem]) ?_
  refine (unlock_dev .returning h1).mono ?_
  rintro e u' w2 ⟨rfl, rfl, h2, t2⟩
  exact ⟨_, results_tmp rfl _ _ _, rfl, Same0.of h2 f hl (t1.trans t2 (fun _ _ h => h))⟩

set_option maxHeartbeats 1000000 in
theorem durable_any {w : World} {db : Nat} {S : DevS} {k N : Nat} {F : Nat → Prop} (h : Dev w db 0 S k N F) :
    Calls Try.prog 14 #[.pointer (some ⟨db, 0, none⟩)] w fun e w' => (∃ g, e = .returned (.slice (some ⟨g, 0, none⟩) (512 * k) (512 * k)) ∧ w.heap.size ≤ g ∧ w'.heap[g]? = some (bl S.last)) ∧ Same0 w w' db S k N F := by
  obtain ⟨gl, bm, q, pv, gs, Dm, h, f, hl⟩ := h
  have htop := h.good.top
  have hdlt := heap_lt h.blk
  go_enter_defers Try.func14, Try.ntmps14
  go_wp2_with fail
  refine (lock_dev h).mono ?_
  rintro e w1 ⟨rfl, h1, t1⟩
  have c2 := h1.cells.2.1
  go_wp2_with fail
  refine (copied_any _ (512 * k) (512 * k) S.last _ (by omega) (Lies.full h1.lst h1.good.len)).mono ?_
  rintro e w2 ⟨g, rfl, hg, hgb, hb2⟩
  have h2 := h1.turns (Below.turns hb2 (fun _ => False)) id id id (fun _ _ => id) (fun _ _ => id)
  go_wp2_with fail
  refine leaves_cons (f := 43) (args := #[.pointer (some ⟨db, 0, none⟩)]) (by simp) (by simp [go_sem]) ?_
  refine (unlock_dev .returning h2).mono ?_
  rintro e u' w3 ⟨rfl, rfl, h3, t3⟩
  have hs1 := t1.size
  refine ⟨_, results_tmp rfl _ _ _, ⟨g, rfl, by omega, (t3.block g (heap_lt hgb) (fun e => by omega)).trans hgb⟩, Same0.of h3 f hl ((t1.trans (Below.turns hb2 (fun i => i = db)) (fun _ _ h => h)).trans t3 (fun _ _ h => h))⟩

/-- Arm's answer. -/
def armE (S : DevS) (x : Int) : Int := if x < 0 then 1 else if S.off then 3 else 0
def armed (S : DevS) (x : Int) : DevS := if x < 0 then S else if S.off then S else { S with fuse := x.toNat }
set_option maxHeartbeats 1000000 in
theorem arm_any {w : World} {db : Nat} {S : DevS} {k N : Nat} {F : Nat → Prop} (h : Dev w db 0 S k N F) (x : Int) (hx : x ≤ 9223372036854775807) :
    Calls Try.prog 37 #[.pointer (some ⟨db, 0, none⟩), .int .i64 x] w fun e w' => e = .returned (.int .i64 (armE S x)) ∧ Same0 w w' db (armed S x) k N F := by
  obtain ⟨gl, bm, q, pv, gs, Dm, h, f, hl⟩ := h
  by_cases hx0 : x < 0
  · have e1 : armE S x = 1 := by unfold armE; rw [if_pos hx0]
    have e2 : armed S x = S := by unfold armed; rw [if_pos hx0]
    rw [e1, e2]
    go_enter_defers Try.func37, Try.ntmps37
    go_wp2_with fail
    refine (lock_dev h).mono ?_
    rintro e w1 ⟨rfl, h1, t1⟩
    obtain ⟨c0, c2, c3, c4, c5, c6, fz⟩ := h1.cells
    have f5 := fz 5
    clear c0 c2 c3 c4 fz
    clear c5 c6 f5
    go_wp2
    refine leaves_cons (f := 43) (args := #[.pointer (some ⟨db, 0, none⟩)]) (by simp) (by simp [go_sem]) ?_
    refine (unlock_dev .returning h1).mono ?_
    rintro e u' w2 ⟨rfl, rfl, h2, t2⟩
    exact ⟨_, results_tmp rfl _ _ _, rfl, Same0.of h2 f hl (t1.trans t2 (fun _ _ h => h))⟩
  · by_cases ho : S.off = true
    · have e1 : armE S x = 3 := by unfold armE; rw [if_neg hx0, if_pos ho]
      have e2 : armed S x = S := by unfold armed; rw [if_neg hx0, if_pos ho]
      rw [e1, e2]
      go_enter_defers Try.func37, Try.ntmps37
      go_wp2_with fail
      refine (lock_dev h).mono ?_
      rintro e w1 ⟨rfl, h1, t1⟩
      obtain ⟨c0, c2, c3, c4, c5, c6, fz⟩ := h1.cells
      have f5 := fz 5
      clear c0 c2 c3 c4 fz
      rw [ho] at c6
      clear c5 f5
      go_wp2
      refine leaves_cons (f := 43) (args := #[.pointer (some ⟨db, 0, none⟩)]) (by simp) (by simp [go_sem]) ?_
      refine (unlock_dev .returning h1).mono ?_
      rintro e u' w2 ⟨rfl, rfl, h2, t2⟩
      exact ⟨_, results_tmp rfl _ _ _, rfl, Same0.of h2 f hl (t1.trans t2 (fun _ _ h => h))⟩
    · have e1 : armE S x = 0 := by unfold armE; rw [if_neg hx0, if_neg ho]
      have e2 : armed S x = { S with fuse := x.toNat } := by unfold armed; rw [if_neg hx0, if_neg ho]
      rw [e1, e2]
      have ho' : S.off = false := by simpa using ho
      have hxn : ((x.toNat : Nat) : Int) = x := by omega
      go_enter_defers Try.func37, Try.ntmps37
      go_wp2_with fail
      refine (lock_dev h).mono ?_
      rintro e w1 ⟨rfl, h1, t1⟩
      obtain ⟨c0, c2, c3, c4, c5, c6, fz⟩ := h1.cells
      have f5 := fz 5
      clear c0 c2 c3 c4 fz
      rw [ho'] at c6
      have h1' : DevX (w1.setCell ⟨db, 5, none⟩ (.int .i64 x)) db 1 { S with fuse := x.toNat } k N gl bm q pv gs Dm := h1.db 5 _ ⟨rfl, rfl, by simp; omega⟩ (by rw [hxn]; rfl)
      have t1' : Turns (fun i => i = db) w (w1.setCell ⟨db, 5, none⟩ (.int .i64 x)) := t1.trans (Turns.cell w1 db 5 _) (fun _ _ h => h)
      go_wp2
      refine leaves_cons (f := 43) (args := #[.pointer (some ⟨db, 0, none⟩)]) (by simp) (by simp [go_sem]) ?_
      refine (unlock_dev .returning h1').mono ?_
      rintro e u' w2 ⟨rfl, rfl, h2, t2⟩
      exact ⟨_, results_tmp rfl _ _ _, rfl, Same0.of h2 f hl (t1'.trans t2 (fun _ _ h => h))⟩
end Go.Proofs.Ytejfbjjhnhlagaa
