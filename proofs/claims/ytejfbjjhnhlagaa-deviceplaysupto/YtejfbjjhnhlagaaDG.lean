/- Write, Read by their contracts. -/
import Derived.Test.YtejfbjjhnhlagaaDF
namespace Go.Proofs.Ytejfbjjhnhlagaa
open Go.RowKit Go.Maps
open Go.MuLone
set_option maxRecDepth 100000

theorem Went.of {w w' : World} {db : Nat} {S : DevS} {k N gl bm bm0 : Nat} {q : Int} {pv pv0 : Value} {gs gs0 : List Nat} {Dm : DataW Value} {F : Nat → Prop} (h : DevX w' db 0 S k N gl bm q pv gs Dm) (f : Foot F db gl bm0 pv0 gs0) (hl : ∀ i, F i → i < w.heap.size) (ht : Turns F w w')
    (h3 : bm = bm0) (h4 : pv.ownBlock = none ∨ pv.ownBlock = pv0.ownBlock ∨ ∃ i, pv.ownBlock = some i ∧ w.heap.size ≤ i) (h5 : ∀ g ∈ gs, g ∈ gs0 ∨ w.heap.size ≤ g) : Went w w' db S k N F := by
  subst h3
  refine ⟨⟨gl, bm, q, pv, gs, Dm, h, ⟨Or.inl f.f1, Or.inl f.f2, Or.inl f.f3, fun b hb => ?_, fun g hg => ?_⟩, fun i hi => ?_⟩, ht⟩
  · rcases h4 with h4 | h4 | ⟨i, h4, h6⟩
    · rw [h4] at hb; cases hb
    · exact Or.inl (f.f4 b (by rw [← h4]; exact hb))
    · rw [h4] at hb; cases hb
      rcases h.row.2 with ⟨hv, _⟩ | ⟨g, cap, cur, hv, _, hgb, _⟩
      · rw [hv] at h4; cases h4
      · rw [hv] at h4
        obtain rfl : g = b := by simpa [Value.ownBlock] using h4
        exact Or.inr ⟨h6, heap_lt hgb⟩
  · rcases h5 g hg with h5 | h5
    · exact Or.inl (f.f5 g h5)
    · obtain ⟨i, hi⟩ := List.mem_iff_getElem?.1 hg
      have hlt : i < S.pend.length := by rw [← h.gsl]; exact (List.getElem?_eq_some_iff.1 hi).1
      exact Or.inr ⟨h5, heap_lt (h.dat i _ _ (List.getElem?_eq_getElem hlt) hi)⟩
  · rcases hi with hi | hi
    · exact Nat.lt_of_lt_of_le (hl i hi) ht.size
    · exact hi.2

/-- Write's answer, of a block's number and a length. -/
def wrE (S : DevS) (k : Nat) (b : Int) (n : Nat) : Int := if ¬ (0 ≤ b ∧ b < k) then 52 else if ¬ n = 512 then 53 else if (burnt S).off then 3 else 0
def wrS (S : DevS) (k : Nat) (b : Int) (d : List Int) : DevS := if ¬ (0 ≤ b ∧ b < k) then S else if ¬ d.length = 512 then S else if (burnt S).off then burnt S else wrote (burnt S) b.toNat d

set_option maxHeartbeats 4000000 in
theorem write_any {w : World} {db : Nat} {S : DevS} {k N : Nat} {F : Nat → Prop} (h : Dev w db 0 S k N F) (b : Int) (ao : Option Addr) (n c : Nat) (d : List Int) (hL : Lies w ao n c d) (hy : ∀ x ∈ d, 0 ≤ x ∧ x ≤ 255) (hF : ∀ ad, ao = some ad → ¬ F ad.block) (hN : N ≤ 1099511627776) :
    Calls Try.prog 11 #[.pointer (some ⟨db, 0, none⟩), .int .i64 b, .slice ao n c] w fun e w' => e = .returned (.int .i64 (wrE S k b n)) ∧ Went w w' db (wrS S k b d) k (N + 1) F := by
  obtain ⟨gl, bm, q, pv, gs, Dm, h, f, hl⟩ := h
  have htop := h.good.top
  have hlen := hL.hlen
  have hmono : ∀ {w' : World} {st : Int} {S : DevS} {pv : Value} {gs : List Nat} {Dm : DataW Value}, DevX w' db st S k N gl bm q pv gs Dm → DevX w' db st S k (N + 1) gl bm q pv gs Dm := fun h => { h with pn := Nat.le_succ_of_le h.pn, map := h.map.mono (Nat.le_succ N) }
  have same : ∀ {w' : World} {S' : DevS}, DevX w' db 0 S' k N gl bm q pv gs Dm → Turns (fun i => i = db) w w' → Went w w' db S' k (N + 1) F := fun h t => Went.of (hmono h) f hl (t.mono (fun i _ e => by subst e; exact f.f1)) rfl (Or.inr (Or.inl rfl)) (fun g hg => Or.inl hg)
  have HS : Hid (∀ {w' : World} {S' : DevS}, DevX w' db 0 S' k N gl bm q pv gs Dm → Turns (fun i => i = db) w w' → Went w w' db S' k (N + 1) F) := same
  clear same hmono
  by_cases hb : 0 ≤ b ∧ b < k
  case neg =>
    have e1 : wrE S k b n = 52 := by unfold wrE; rw [if_pos hb]
    have e2 : wrS S k b d = S := by unfold wrS; rw [if_pos hb]
    have hbd := decide_eq_false hb
    rw [e1, e2]
    go_enter_defers Try.func11, Try.ntmps11
    go_wp2_with fail
    refine (lock_dev h).mono ?_
    rintro e w1 ⟨rfl, h1, t1⟩
    have c2 := h1.cells.2.1
    go_wp2_with (go_at_call 44; refine (has_any db k _ _ _ htop c2).mono ?_; rintro e wn ⟨rfl, hwn⟩; subst wn; rw [hbd])
    refine leaves_cons (f := 43) (args := #[.pointer (some ⟨db, 0, none⟩)]) (by simp) (by simp [go_sem]) ?_
    refine (unlock_dev .returning h1).mono ?_
    rintro e u' w2 ⟨rfl, rfl, h2, t2⟩
    exact ⟨_, results_tmp rfl _ _ _, rfl, HS.out h2 (t1.trans t2 (fun _ _ h => h))⟩
  have hbd := decide_eq_true hb
  by_cases hn : n = 512
  case neg =>
    have e1 : wrE S k b n = 53 := by unfold wrE; rw [if_neg (fun q => q hb), if_pos hn]
    have e2 : wrS S k b d = S := by unfold wrS; rw [if_neg (fun q => q hb), hlen, if_pos hn]
    have hni : ((n : Int) != 512) = true := by simp; omega
    rw [e1, e2]
    go_enter_defers Try.func11, Try.ntmps11
    go_wp2_with fail
    refine (lock_dev h).mono ?_
    rintro e w1 ⟨rfl, h1, t1⟩
    have c2 := h1.cells.2.1
    go_wp2_with (go_at_call 44; refine (has_any db k _ _ _ htop c2).mono ?_; rintro e wn ⟨rfl, hwn⟩; subst wn; rw [hbd])
    refine leaves_cons (f := 43) (args := #[.pointer (some ⟨db, 0, none⟩)]) (by simp) (by simp [go_sem]) ?_
    refine (unlock_dev .returning h1).mono ?_
    rintro e u' w2 ⟨rfl, rfl, h2, t2⟩
    exact ⟨_, results_tmp rfl _ _ _, rfl, HS.out h2 (t1.trans t2 (fun _ _ h => h))⟩
  subst hn
  by_cases ho : (burnt S).off = true
  · have e1 : wrE S k b 512 = 3 := by unfold wrE; rw [if_neg (fun q => q hb), if_neg (fun q => q rfl), if_pos ho]
    have e2 : wrS S k b d = burnt S := by unfold wrS; rw [if_neg (fun q => q hb), if_neg (fun q => q hlen), if_pos ho]
    rw [e1, e2]
    go_enter_defers Try.func11, Try.ntmps11
    go_wp2_with fail
    refine (lock_dev h).mono ?_
    rintro e w1 ⟨rfl, h1, t1⟩
    have c2 := h1.cells.2.1
    go_wp2_with (go_at_call 44; refine (has_any db k _ _ _ htop c2).mono ?_; rintro e wn ⟨rfl, hwn⟩; subst wn; rw [hbd])
    refine (burn_any h1).mono ?_
    rintro e w2 ⟨rfl, h2, t2⟩
    have c6 := h2.cells.2.2.2.2.2.1
    rw [ho] at c6
    go_wp2_with fail
    refine leaves_cons (f := 43) (args := #[.pointer (some ⟨db, 0, none⟩)]) (by simp) (by simp [go_sem]) ?_
    refine (unlock_dev .returning h2).mono ?_
    rintro e u' w3 ⟨rfl, rfl, h3, t3⟩
    exact ⟨_, results_tmp rfl _ _ _, rfl, HS.out h3 ((t1.trans t2 (fun _ _ h => h)).trans t3 (fun _ _ h => h))⟩
  · have ho' : (burnt S).off = false := by simpa using ho
    have e1 : wrE S k b 512 = 0 := by unfold wrE; rw [if_neg (fun q => q hb), if_neg (fun q => q rfl), if_neg ho]
    have e2 : wrS S k b d = wrote (burnt S) b.toNat d := by unfold wrS; rw [if_neg (fun q => q hb), if_neg (fun q => q hlen), if_neg ho]
    rw [e1, e2]
    have hbn : (b.toNat : Int) = b := by omega
    have hbk : b.toNat < k := by omega
    obtain ⟨bn, hbn2⟩ : ∃ bn, b.toNat = bn := ⟨_, rfl⟩
    rw [hbn2] at hbn hbk ⊢
    subst hbn
    clear hbn2 HS
    go_enter_defers Try.func11, Try.ntmps11
    go_wp2_with fail
    refine (lock_dev h).mono ?_
    rintro e w1 ⟨rfl, h1, t1⟩
    have c2 := h1.cells.2.1
    go_wp2_with (go_at_call 44; refine (has_any db k _ _ _ htop c2).mono ?_; rintro e wn ⟨rfl, hwn⟩; subst wn; rw [hbd])
    refine (burn_any h1).mono ?_
    rintro e w2 ⟨rfl, h2, t2⟩
    have c6 := h2.cells.2.2.2.2.2.1
    rw [ho'] at c6
    go_wp2_with fail
    have t12 := t1.trans t2 (fun _ _ h => h)
    have hL2 := hL.turns t12 (fun ad had e => hF ad had (by rw [e]; exact f.f1))
    refine (copied_any ao 512 c d _ (by omega) hL2).mono ?_
    rintro e w3 ⟨g, rfl, hg, hgb, hb3⟩
    have h3 := h2.turns (Below.turns hb3 (fun _ => False)) id id id (fun _ _ => id) (fun _ _ => id)
    have t3 := t12.trans (Below.turns hb3 (fun i => i = db)) (fun _ _ h => h)
    go_wp2_with fail
    have hs2 := t12.size
    have hd2 := heap_lt h2.blk
    have hl2 := heap_lt h2.lst
    refine (pend_any h3 bn g d hbk hN hgb hlen hy (by omega) (by omega) ?_).mono ?_
    · intro e
      have := (h2.row.lt g e).2
      omega
    rintro e w4 ⟨rfl, hP⟩
    obtain ⟨pv', Dm', h4, t4, hat⟩ := hP
    go_wp2_with fail
    refine leaves_cons (f := 43) (args := #[.pointer (some ⟨db, 0, none⟩)]) (by simp) (by simp [go_sem]) ?_
    refine (unlock_dev .returning h4).mono ?_
    rintro e u' w5 ⟨rfl, rfl, h5, t5⟩
    have hs3 := hb3.size
    refine ⟨_, results_tmp rfl _ _ _, rfl, Went.of h5 f hl ?_ rfl (Or.inr (hat.imp id (fun ⟨i, h1, h2⟩ => ⟨i, h1, by omega⟩))) (fun x hx => ?_)⟩
    · refine ((t3.mono (fun i _ e => by subst e; exact f.f1)).trans t4 (fun i _ e => ?_)).trans t5 (fun i _ e => by subst e; exact f.f1)
      rcases e with e | e | e
      · subst e; exact f.f1
      · subst e; exact f.f3
      · exact f.f4 i e
    · rcases List.mem_append.1 hx with hx | hx
      · exact Or.inl hx
      · obtain rfl := List.mem_singleton.1 hx
        exact Or.inr (by omega)
end Go.Proofs.Ytejfbjjhnhlagaa
