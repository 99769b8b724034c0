/- Begin, Write, Read, Drop in one word: what a transaction is, and what it sees. -/
import Derived.Test.YtnmdnglbpkpfdaaGreatDoorPk09
import Derived.Test.YtnmdnglbpkpfdaaGreatDoorPk07
namespace Go.Proofs.YtnmdnglbpkpfdaaGreatDoor
open Go.RowKit Go.Maps
set_option maxRecDepth 100000
/-- What a transaction sees of a block. -/
def seesF (S : DevS) (m : List (Nat × Nat)) (f : Nat → List Int) (a : List (Nat × Nat)) (fa : Nat → List Int) (b : Nat) : List Int := if (lk m b).isSome then f b else if (lk a b).isSome then fa b else rdB S b
def updF (f : Nat → List Int) (b : Nat) (ds : List Int) : Nat → List Int := fun x => if x = b then ds else f x
theorem sees_of {w : World} {S : DevS} {m a : List (Nat × Nat)} {f fa : Nat → List Int} (hV : Vals w f m) (hVA : Vals w fa a) (b : Nat) : Sees w S m a b (seesF S m f a fa b) := by
  unfold seesF
  cases e : lk m b with
  | some g => exact Or.inl ⟨g, e, by simpa using (hV _ (mem_lk e)).1⟩
  | none =>
    refine Or.inr ⟨e, ?_⟩
    cases e2 : lk a b with
    | some g => exact Or.inl ⟨g, rfl, by simpa using (hVA _ (mem_lk e2)).1⟩
    | none => exact Or.inr ⟨rfl, by simp⟩
theorem Tx.begin {w : World} {d : Nat} {S : DevS} {k N : Nat} {G : Nat → Prop} {jb st sz : Nat} {seq : Int} {place : Nat} {free : Int} {bm nd : Nat} {a : List (Nat × Nat)} {fa : Nat → List Int} (h : Jn w d S k N G jb st sz seq place free bm nd a fa) (ho : S.off = false) (f : Nat → List Int) :
    Calls Tryz.prog 12 #[.pointer (some ⟨jb, 0, none⟩)] w fun e w' => ∃ tb wm, e = .returned (.pointer (some ⟨tb, 0, none⟩)) ∧ w.heap.size ≤ tb ∧ w.heap.size ≤ wm ∧ Tx w' d S k N G jb st sz seq place free bm nd a fa tb wm 0 [] f (.slice none 0 0) 0 ∧ Turns (fun i => G i ∨ i = jb) w w' := by
  refine (begin_ok h.D h.J h.gj ho).mono ?_
  rintro e w' ⟨tb, wm, rfl, l1, l2, J', T', M', D', t⟩
  have hG := h.D.lt
  have lj := heap_lt h.J
  have la := h.A.own.lt
  refine ⟨tb, wm, rfl, l1, l2, ⟨D', J', T', h.A.turns t (fun e => e.elim h.ga (fun e => h.ja e.symm)), h.VA.turns t (fun p hp e => e.elim (h.gva p hp) (fun e => ?_)), M', (fun p hp => by cases hp), h.gj, fun r => by have := hG _ r; omega, h.ga, fun r => by have := hG _ r; omega, (fun p hp => by cases hp), h.gva, by omega, fun e => mp_cells M' T' e, by omega, by omega, h.ja, by omega⟩, t⟩
  have h1 := (h.VA p hp).1
  have h2 := h.J
  unfold Jb at h2
  rw [e, h2] at h1
  simp [bl] at h1
theorem Tx.write {w : World} {d : Nat} {S : DevS} {k N : Nat} {G : Nat → Prop} {jb st sz : Nat} {seq : Int} {place : Nat} {free : Int} {bm nd : Nat} {a : List (Nat × Nat)} {fa : Nat → List Int} {tb wm ns : Nat} {m : List (Nat × Nat)} {f : Nat → List Int} {sv : Value} {last : Int} (h : Tx w d S k N G jb st sz seq place free bm nd a fa tb wm ns m f sv last) (ho : S.off = false) (hst : st + sz ≤ k) (b : Nat) (hb : b < k) (hout : b < st ∨ st + sz ≤ b) (ao : Option Addr) (c : Nat) (ds : List Int) (hL : Lies w ao 512 c ds) (hy : ∀ x ∈ ds, 0 ≤ x ∧ x ≤ 255) (haG : ∀ ad, ao = some ad → ¬ G ad.block) (hroom : (lk m b).isSome = true ∨ m.length < 24) (hn : ns ≤ 1000000) :
    Calls Tryz.prog 27 #[.pointer (some ⟨tb, 0, none⟩), .int .i64 b, .slice ao 512 c] w fun e w' => ∃ g, e = .returned (.int .i64 0) ∧ w.heap.size ≤ g ∧ Tx w' d S k N G jb st sz seq place free bm nd a fa tb wm (ns + 1) (mput m b g) (updF f b ds) sv last ∧ Turns (fun i => G i ∨ i = wm) w w' := by
  refine (txWrite_ok h.D h.J h.T h.M h.gj h.gt h.gm h.tm ho hst b hb hout ao c ds hL haG hroom hn).mono ?_
  rintro e w' ⟨g, rfl, lg, hg, M', D', t⟩
  have hG := h.D.lt
  have nV : ∀ (x : Nat) (l : List Int), w.heap[x]? = some (bl l) → ¬ G x → ¬ (G x ∨ x = wm) := fun x l hx hg e => e.elim hg (fun e => mp_no_bl h.M (by rw [← e]; exact hx))
  refine ⟨g, rfl, lg, { h with
    D := D'
    J := (t.block jb (heap_lt h.J) (fun e => e.elim h.gj h.jm)).trans h.J
    T := (t.block tb (heap_lt h.T) (fun e => e.elim h.gt h.tm)).trans h.T
    A := h.A.turns t (fun e => e.elim h.ga h.am)
    VA := h.VA.turns t (fun p hp => nV p.2 _ (h.VA p hp).1 (h.gva p hp))
    M := M'
    V := fun p hp => ?_
    gv := fun p hp => ?_ }, t⟩
  · by_cases e : p.1 = b
    · have h1 := lk_mem (mput_rising b g h.M.ris) hp
      rw [lk_mput m b g p.1 h.M.ris, if_pos e.symm] at h1
      have h2 : g = p.2 := Option.some.inj h1
      unfold updF
      rw [if_pos e, ← h2]
      exact ⟨hg, hL.hlen, hy⟩
    · rcases mput_mem hp with rfl | hp
      · exact absurd rfl e
      · have hv := h.V p hp
        unfold updF
        rw [if_neg e]
        exact ⟨(t.block p.2 (heap_lt hv.1) (nV p.2 _ hv.1 (h.gv p hp))).trans hv.1, hv.2⟩
  · rcases mput_mem hp with rfl | hp
    · exact fun r => by have := hG _ r; simp only at this; omega
    · exact h.gv p hp
theorem Tx.read {w : World} {d : Nat} {S : DevS} {k N : Nat} {G : Nat → Prop} {jb st sz : Nat} {seq : Int} {place : Nat} {free : Int} {bm nd : Nat} {a : List (Nat × Nat)} {fa : Nat → List Int} {tb wm ns : Nat} {m : List (Nat × Nat)} {f : Nat → List Int} {sv : Value} {last : Int} (h : Tx w d S k N G jb st sz seq place free bm nd a fa tb wm ns m f sv last) (ho : S.off = false) (hst : st + sz ≤ k) (b : Nat) (hb : b < k) (hout : b < st ∨ st + sz ≤ b) (hl : (seesF S m f a fa b).length = 512) :
    Calls Tryz.prog 33 #[.pointer (some ⟨tb, 0, none⟩), .int .i64 (b : Nat)] w fun e w' => ∃ g, e = .returned (.tuple #[hv g, .int .i64 0]) ∧ w.heap.size ≤ g ∧ w'.heap[g]? = some (bl (seesF S m f a fa b)) ∧ Tx w' d S k N G jb st sz seq place free bm nd a fa tb wm ns m f sv last ∧ Turns G w w' := by
  refine (txRead_ok h.D h.J h.T h.M h.A h.gj h.gt h.gm h.ga b (fun g e => h.gv _ (mem_lk e)) (fun g e => h.gva _ (mem_lk e)) ho hst hb hout _ (sees_of h.V h.VA b) hl).mono ?_
  rintro e w' ⟨g, rfl, lg, hg, D', t⟩
  exact ⟨g, rfl, lg, hg, h.same ⟨D', t⟩, t⟩
theorem Tx.drop {w : World} {d : Nat} {S : DevS} {k N : Nat} {G : Nat → Prop} {jb st sz : Nat} {seq : Int} {place : Nat} {free : Int} {bm nd : Nat} {a : List (Nat × Nat)} {fa : Nat → List Int} {tb wm ns : Nat} {m : List (Nat × Nat)} {f : Nat → List Int} {sv : Value} {last : Int} (h : Tx w d S k N G jb st sz seq place free bm nd a fa tb wm ns m f sv last) :
    Calls Tryz.prog 36 #[.pointer (some ⟨tb, 0, none⟩)] w fun e w' => e = .returned (.tuple #[]) ∧ Td w' tb ∧ Jn w' d S k N G jb st sz seq place free bm nd a fa ∧ Turns (fun i => i = tb ∨ i = jb) w w' := by
  refine (drop_ok h.T h.J h.tj).mono ?_
  rintro e w' ⟨rfl, T', J', t⟩
  refine ⟨rfl, T', ⟨h.D.turns t (fun i hi e => e.elim (fun e => h.gt (e ▸ hi)) (fun e => h.gj (e ▸ hi))), J', h.A.turns t (fun e => e.elim (fun e => h.ta e.symm) (fun e => h.ja e.symm)), h.VA.turns t (fun p hp e => ?_), h.gj, h.ga, h.gva, h.ja⟩, t⟩
  have h1 := (h.VA p hp).1
  rcases e with e | e
  · have h2 := h.T
    unfold Tb at h2
    rw [e, h2] at h1
    simp [bl] at h1
  · have h2 := h.J
    unfold Jb at h2
    rw [e, h2] at h1
    simp [bl] at h1
end Go.Proofs.YtnmdnglbpkpfdaaGreatDoor

/- Plain mathematics: what is read of a device behind writes and flushes; a head is read back. -/
namespace Go.Proofs.YtnmdnglbpkpfdaaGreatDoor
open Go.RowKit
set_option maxRecDepth 100000
/-- A block of a list of bytes. -/
abbrev blk (l : List Int) (b : Nat) : List Int := (l.drop (512 * b)).take 512
theorem blk_at (l : List Int) (b t : Nat) : (blk l b)[t]? = if t < 512 then l[512 * b + t]? else none := by
  rw [List.getElem?_take]
  by_cases h : t < 512
  · rw [if_pos h, if_pos h, List.getElem?_drop]
  · rw [if_neg h, if_neg h]
theorem splice_at (l d : List Int) (o i : Nat) (h : o + d.length ≤ l.length) : (splice l o d)[i]? = if i < o then l[i]? else if i < o + d.length then d[i - o]? else l[i]? := by
  unfold splice
  have e1 : (l.take o).length = o := by simp; omega
  by_cases h1 : i < o
  · rw [if_pos h1, List.getElem?_append_left (by omega), List.getElem?_take, if_pos h1]
  · rw [if_neg h1, List.getElem?_append_right (by omega), e1]
    by_cases h2 : i < o + d.length
    · rw [if_pos h2, List.getElem?_append_left (by omega)]
    · rw [if_neg h2, List.getElem?_append_right (by omega), List.getElem?_drop]
      congr 1
      omega
theorem blk_lay (l : List Int) (k b : Nat) (d : List Int) (x : Nat) (hl : l.length = 512 * k) (hb : b < k) (hd : d.length = 512) : blk (layB l (b, d)) x = if b = x then d else blk l x := by
  apply List.ext_getElem?
  intro t
  rw [blk_at]
  unfold layB
  rw [splice_at _ _ _ _ (by simp only; omega)]
  simp only
  by_cases ht : t < 512
  · rw [if_pos ht]
    by_cases e : b = x
    · subst e
      rw [if_pos rfl, if_neg (by omega), if_pos (by omega)]
      congr 1
      omega
    · rw [if_neg e, blk_at, if_pos ht]
      by_cases h1 : 512 * x + t < 512 * b
      · rw [if_pos h1]
      · rw [if_neg h1, if_neg (by omega)]
  · rw [if_neg ht]
    by_cases e : b = x
    · rw [if_pos e, List.getElem?_eq_none (by omega)]
    · rw [if_neg e, blk_at, if_neg ht]
theorem rdB_wrote (S : DevS) (b : Nat) (d : List Int) (x : Nat) : rdB (wrote S b d) x = if b = x then d else rdB S x := by
  unfold rdB
  have e1 : newest (wrote S b d).pend x = if b = x then some d else newest S.pend x := newest_snoc S.pend b d x
  rw [e1]
  by_cases e : b = x
  · rw [if_pos e, if_pos e]; rfl
  · rw [if_neg e, if_neg e]; rfl
theorem snoc_ind {α : Type} {P : List α → Prop} (h0 : P []) (h1 : ∀ l a, P l → P (l ++ [a])) : ∀ l, P l := fun l => by
  have q : ∀ l : List α, P l.reverse := fun l => by
    induction l with
    | nil => exact h0
    | cons a l ih => rw [List.reverse_cons]; exact h1 _ _ ih
  simpa using q l.reverse
/-- What is read, is what all writes that pend, laid over, leave. -/
theorem blk_layAll (l : List Int) (k : Nat) (hl : l.length = 512 * k) (hy : ∀ x ∈ l, 0 ≤ x ∧ x ≤ 255) (ps : List (Nat × List Int)) (hp : ∀ p ∈ ps, p.1 < k ∧ p.2.length = 512 ∧ ∀ x ∈ p.2, 0 ≤ x ∧ x ≤ 255) (x : Nat) : blk (layAll l ps) x = (newest ps x).getD (blk l x) := by
  induction ps using snoc_ind with
  | h0 => rfl
  | h1 ps p ih =>
    obtain ⟨b, d⟩ := p
    have ih := ih (fun p hm => hp p (List.mem_append_left _ hm))
    have hq := hp (b, d) (by simp)
    have hg := (layAll_good ps l hl hy (fun p hm => hp p (List.mem_append_left _ hm))).1
    have e1 : layAll l (ps ++ [(b, d)]) = layB (layAll l ps) (b, d) := by unfold layAll; rw [List.foldl_append]; rfl
    rw [e1, blk_lay _ k b d x hg hq.1 hq.2.1, newest_snoc, ih]
    by_cases e : b = x
    · rw [if_pos e, if_pos e]; rfl
    · rw [if_neg e, if_neg e]
theorem rdB_flushed {S : DevS} {k : Nat} (h : Good S k) (x : Nat) : rdB (flushed S) x = rdB S x := blk_layAll S.last k h.len h.by_ S.pend h.pend x
theorem fold_val : ∀ (l : List Int) (a : Int), l.foldl (fun x c => x * 256 + c) a = a * 256 ^ l.length + val l
  | [], a => by simp [val]
  | c :: l, a => by
    have h1 := fold_val l (a * 256 + c)
    have h2 := fold_val l (0 * 256 + c)
    simp only [List.foldl_cons, val, List.length_cons] at *
    rw [h1, h2, Int.pow_succ]
    have : (a * 256 + c) * 256 ^ l.length = a * (256 ^ l.length * 256) + (0 * 256 + c) * 256 ^ l.length := by
      rw [Int.add_mul, Int.mul_assoc, Int.mul_comm 256 (256 ^ l.length)]; simp
    omega
theorem val_cons (c : Int) (l : List Int) : val (c :: l) = c * 256 ^ l.length + val l := by
  have := fold_val l (0 * 256 + c)
  simp only [val, List.foldl_cons] at *
  rw [this]; simp

theorem p256 (k : Nat) : (256 : Int) ^ k = 2 ^ (8 * k) := by
  rw [Int.pow_mul]; rfl

theorem be_add (c : Int) (m : Nat) (X : Int) : ∀ k, k ≤ m → be (X + c * 2 ^ (8 * m)) k = be X k
  | 0, _ => rfl
  | k + 1, h => by
    simp only [be]
    rw [be_add c m X k (by omega)]
    congr 1
    have hp : (2 : Int) ^ (8 * k) ≠ 0 := Int.ne_of_gt (Int.pow_pos (by decide))
    have e : c * 2 ^ (8 * m) = (c * 2 ^ (8 * (m - k - 1)) * 256) * 2 ^ (8 * k) := by
      rw [Int.mul_assoc, Int.mul_assoc]
      congr 1
      rw [show (256 : Int) = 2 ^ 8 by rfl, ← Int.pow_add, ← Int.pow_add]
      congr 1
      omega
    rw [e, Int.add_mul_ediv_right _ _ hp, Int.add_mul_emod_self_right]

theorem be_mod (X : Int) (k : Nat) : be X k = be (X % 2 ^ (8 * k)) k := by
  have h := be_add (X / 2 ^ (8 * k)) k (X % 2 ^ (8 * k)) k (Nat.le_refl _)
  rw [Int.mul_comm, Int.emod_add_mul_ediv] at h
  exact h
theorem val_be : ∀ (k : Nat) (X : Int), 0 ≤ X → X < 2 ^ (8 * k) → val (be X k) = X
  | 0, X, h0, h1 => by simp at h1; simp [be, val]; omega
  | k + 1, X, h0, h1 => by
    have hp : (0 : Int) < 2 ^ (8 * k) := Int.pow_pos (by decide)
    rw [be, val_cons, be_length, p256, be_mod X k, val_be k _ (Int.emod_nonneg _ (Int.ne_of_gt hp)) (Int.emod_lt_of_pos _ hp)]
    have hq0 : 0 ≤ X / 2 ^ (8 * k) := Int.ediv_nonneg h0 (Int.le_of_lt hp)
    have hq1 : X / 2 ^ (8 * k) < 256 := by
      rw [Int.ediv_lt_iff_lt_mul hp]
      rw [show 8 * (k + 1) = 8 * k + 8 by omega, Int.pow_add] at h1
      rw [Int.mul_comm]; exact h1
    rw [Int.emod_eq_of_lt hq0 hq1]
    have := Int.emod_add_mul_ediv X (2 ^ (8 * k))
    rw [Int.mul_comm] at this
    omega



theorem jsum_u (l : List Int) : 0 ≤ jsum l ∧ jsum l ≤ 18446744073709551615 := S2.U.fwd (h := 14695981039346656037) l ⟨by decide, by decide⟩
theorem u64_same (x : Int) (h0 : 0 ≤ x) (h1 : x ≤ 4611686018427387905) : IntKind.u64.wrap x = x := Go.IntWalk.u64_in x ⟨h0, by omega⟩
/-- The twenty bytes of a head behind its mark and zeros. -/
theorem head_cut (seq place : Int) : (((jheadB seq place).drop 8).take 20) = be (IntKind.u64.wrap seq) 8 ++ be (IntKind.u64.wrap place) 4 ++ be (jsum (hdB seq place)) 8 := by
  have h : jheadB seq place = ([65, 78, 88, 72] ++ be 0 4) ++ ((be (IntKind.u64.wrap seq) 8 ++ be (IntKind.u64.wrap place) 4 ++ be (jsum (hdB seq place)) 8) ++ List.replicate 484 0) := by
    unfold jheadB fillB
    rw [List.length_append, hdB_len, be_length]
    simp [hdB]
  rw [h, List.drop_left' (by simp [be_length]), List.take_left' (by simp [be_length])]
theorem head_front (seq place : Int) : (jheadB seq place).take 20 = hdB seq place := by
  unfold jheadB fillB
  rw [List.append_assoc, List.take_left' (hdB_len seq place)]
theorem head_back (seq place : Nat) (places : Int) (h0 : 1 ≤ seq) (h1 : seq ≤ 4611686018427387905) (hp : (place : Int) < places) (hq : places ≤ 4096) : (hdR (jheadB seq place) places).1.1 = seq ∧ (hdR (jheadB seq place) places).2.1.1 = place ∧ hdOk (jheadB seq place) places = true := by
  have hs := jsum_u (hdB seq place)
  have e1 := u64_same (seq : Int) (by omega) (by omega)
  have e2 := u64_same (place : Int) (by omega) (by omega)
  have hc := head_cut seq place
  rw [e1, e2] at hc
  have d1 : ((be (seq : Int) 8 ++ be (place : Int) 4 ++ be (jsum (hdB seq place)) 8).drop 0).take 8 = be (seq : Int) 8 := by
    rw [List.drop_zero, List.append_assoc, List.take_left' (be_length _ _)]
  have d2 : ((be (seq : Int) 8 ++ be (place : Int) 4 ++ be (jsum (hdB seq place)) 8).drop 8).take 4 = be (place : Int) 4 := by
    rw [List.append_assoc, List.drop_left' (be_length _ _), List.take_left' (be_length _ _)]
  have d3 : ((be (seq : Int) 8 ++ be (place : Int) 4 ++ be (jsum (hdB seq place)) 8).drop 12).take 8 = be (jsum (hdB seq place)) 8 := by
    rw [List.drop_left' (by simp [be_length]), List.take_of_length_le (by simp [be_length])]
  have a1 : rdNum 8 20 (be (seq : Int) 8 ++ be (place : Int) 4 ++ be (jsum (hdB seq place)) 8) 0 0 4611686018427387905 = ((seq : Int), 8, 0) := by
    unfold rdNum
    rw [if_neg (by simp), if_neg (by omega), d1, val_be 8 _ (by omega) (Int.lt_of_le_of_lt (show (seq : Int) ≤ 4611686018427387905 by omega) (by decide)), if_neg (by omega)]
  have a2 : rdNum 4 20 (be (seq : Int) 8 ++ be (place : Int) 4 ++ be (jsum (hdB seq place)) 8) 8 0 (places - 1) = ((place : Int), 12, 0) := by
    unfold rdNum
    rw [if_neg (by simp), if_neg (by omega), d2, val_be 4 _ (by omega) (Int.lt_of_le_of_lt (show (place : Int) ≤ 4096 by omega) (by decide)), if_neg (by omega)]
  have a3 : rdSum 20 (be (seq : Int) 8 ++ be (place : Int) 4 ++ be (jsum (hdB seq place)) 8) 12 0 = (jsum (hdB seq place), 20, 0) := by
    unfold rdSum
    rw [if_neg (by simp), if_neg (by omega), d3, val_be 8 _ hs.1 (Int.lt_of_le_of_lt hs.2 (by decide))]
  have hR : hdR (jheadB seq place) places = (((seq : Int), 8, 0), ((place : Int), 12, 0), (jsum (hdB seq place), 20, 0)) := by
    unfold hdR
    simp only [hc, a1, a2, a3]
  refine ⟨by rw [hR], by rw [hR], ?_⟩
  unfold hdOk
  rw [hR, head_front]
  have hb : begs (jheadB seq place) [65, 78, 88, 72] = true := by
    unfold begs
    refine decide_eq_true ?_
    have h : jheadB seq place = [65, 78, 88, 72] ++ ((be 0 4 ++ be (IntKind.u64.wrap seq) 8 ++ be (IntKind.u64.wrap place) 4 ++ be (jsum (hdB seq place)) 8) ++ List.replicate 484 0) := by
      unfold jheadB fillB
      rw [List.length_append, hdB_len, be_length]
      simp [hdB]
    rw [h]
    rfl
  rw [hb]
  simp
  omega
theorem rdB_burnt (S : DevS) (x : Nat) : rdB (burnt S) x = rdB S x := by
  unfold burnt
  split <;> rfl
theorem zB_len : zB.length = 512 := by simp [zB]
theorem Good.zrs {S : DevS} {k st : Nat} (h : Good S k) : ∀ p, st + 1 + p ≤ k → Good (zrs S st p) k
  | 0, _ => h
  | p + 1, hp => (Good.zrs h p (by omega)).burnt.wrote (by omega) zB_len zB_by
theorem rdB_zrs {S : DevS} {st x : Nat} : ∀ p, rdB (zrs S st p) x = if st + 1 ≤ x ∧ x < st + 1 + p then zB else rdB S x
  | 0 => by rw [if_neg (by omega)]; rfl
  | p + 1 => by
    show rdB (wrote (burnt (zrs S st p)) (st + 1 + p) zB) x = _
    rw [rdB_wrote, rdB_burnt, rdB_zrs p]
    by_cases e : st + 1 + p = x
    · rw [if_pos e, if_pos (by omega)]
    · rw [if_neg e]
      by_cases c : st + 1 ≤ x ∧ x < st + 1 + p
      · rw [if_pos c, if_pos (by omega)]
      · rw [if_neg c, if_neg (by omega)]
theorem Good.fmt {S : DevS} {k st sz : Nat} (h : Good S k) (h1 : 1 ≤ sz) (h2 : st + sz ≤ k) : Good (fmtS S st sz) k := by
  have g1 := (Good.zrs (st := st) h (sz - 1) (by omega)).burnt.flushed
  exact (g1.burnt.wrote (by omega) (jheadB_len 1 0) (jheadB_by 1 0)).burnt.flushed
/-- What is read behind Format. -/
theorem rdB_fmt {S : DevS} {k st sz : Nat} (h : Good S k) (h1 : 1 ≤ sz) (h2 : st + sz ≤ k) (x : Nat) : rdB (fmtS S st sz) x = if st = x then jheadB 1 0 else if st + 1 ≤ x ∧ x < st + sz then zB else rdB S x := by
  have g0 := (Good.zrs (st := st) h (sz - 1) (by omega)).burnt
  have g1 := g0.flushed
  have g2 := (g1.burnt.wrote (b := st) (by omega) (jheadB_len 1 0) (jheadB_by 1 0)).burnt
  show rdB (flushed (burnt (wrote (burnt (flushed (burnt (zrs S st (sz - 1))))) st (jheadB 1 0)))) x = _
  rw [rdB_flushed g2, rdB_burnt, rdB_wrote, rdB_burnt, rdB_flushed g0, rdB_burnt, rdB_zrs]
  by_cases e : st = x
  · rw [if_pos e, if_pos e]
  · rw [if_neg e, if_neg e]
    by_cases c : st + 1 ≤ x ∧ x < st + sz
    · rw [if_pos c, if_pos (by omega)]
    · rw [if_neg c, if_neg (by omega)]
theorem zB_begs : begs zB [65, 78, 88, 68] = false := by decide
end Go.Proofs.YtnmdnglbpkpfdaaGreatDoor

/- State by its contract. -/
namespace Go.Proofs.YtnmdnglbpkpfdaaGreatDoor
open Go.RowKit Go.Maps
set_option maxRecDepth 100000
set_option maxHeartbeats 1000000 in
theorem state_ok {w : World} {jb d st sz n : Nat} {seq place free : Int} {bm : Nat} {op : Option Nat} {a : List (Nat × Nat)} (hJ : Jb w jb d st sz seq place free bm op) (hA : Mp w bm n a) :
    Calls Tryz.prog 17 #[.pointer (some ⟨jb, 0, none⟩)] w fun e w' => e = .returned (.tuple #[.int .i64 seq, .int .i64 free, .int .i64 a.length]) ∧ ∃ t, w' = w.drewN t := by
  obtain ⟨c0, c1, c2, c3, c4, c5, c6, c7, c8, fz⟩ := hJ.cells
  have hown := hA.own
  have hsz : (Maps.size (mD a) : Int) = (a.length : Int) := by simp [mD, Maps.size_eq]
  have hln : ∀ (ty : TypeId), (Builtin.len_ #[99] ty #[.map (some bm)]).run Tryz.prog w.drew = .ok (.int .i64 a.length) w.drew := fun ty => by
    have := (map_turns hown (Turns.drewN (fun _ => False) w 1) id).len Tryz.underlying99 ty
    rwa [hsz] at this
  go_enter Tryz.func17, Tryz.ntmps17
  go_wp2_with fail
  go_region_held3 (fun w' => w'.cell? ⟨jb, 3, none⟩ = some (.int .i64 seq) ∧ w'.cell? ⟨jb, 5, none⟩ = some (.int .i64 free) ∧ w'.cell? ⟨jb, 6, none⟩ = some (.map (some bm)) ∧ ∀ (ty : TypeId), (Builtin.len_ #[99] ty #[.map (some bm)]).run Tryz.prog w' = .ok (.int .i64 a.length) w')
    (exact ⟨c3, c5, c6, hln⟩)
    (fail)
  all_goals go_wp2
  all_goals refine bodyPost_ret (results_tmp3 rfl _ _ _) rfl ?_
  all_goals exact ⟨rfl, 1, rfl⟩
end Go.Proofs.YtnmdnglbpkpfdaaGreatDoor

/- A journal on a new device of forty blocks: Format, Open; a Begin beside an open one; State. -/
namespace Go.Proofs.YtnmdnglbpkpfdaaGreatDoor
open Go.RowKit Go.Maps
set_option maxRecDepth 100000
/-- What a new device of forty blocks holds; behind Format. -/
def S40 : DevS := fresh (List.replicate (512 * 40) 0)
def F40 : DevS := fmtS S40 2 30
theorem S40_good : Good S40 40 := Good.fresh (by simp) (by omega) (by omega) (fun x hx => by have := List.eq_of_mem_replicate hx; omega)
theorem F40_good : Good F40 40 := S40_good.fmt (by omega) (by omega)
theorem S40_lasts (m : Nat) : Lasts S40 m := ⟨rfl, Or.inl rfl⟩
theorem Lasts.zero {S : DevS} (h1 : S.off = false) (h2 : S.fuse = 0) (m : Nat) : Lasts S m := ⟨h1, Or.inl h2⟩
/-- The power is on, and no fuse is laid. -/
structure Calm (S : DevS) : Prop where
  on : S.off = false
  fu : S.fuse = 0
theorem Calm.lasts {S : DevS} (h : Calm S) (m : Nat) : Lasts S m := ⟨h.on, Or.inl h.fu⟩
theorem Calm.burnt {S : DevS} (h : Calm S) : Calm (burnt S) := by
  have : Go.Proofs.YtnmdnglbpkpfdaaGreatDoor.burnt S = S := by unfold Go.Proofs.YtnmdnglbpkpfdaaGreatDoor.burnt; rw [if_pos h.fu]
  rw [this]; exact h
theorem Calm.wrote {S : DevS} (h : Calm S) (b : Nat) (d : List Int) : Calm (wrote S b d) := ⟨h.on, h.fu⟩
theorem Calm.flushed {S : DevS} (h : Calm S) : Calm (flushed S) := ⟨h.on, h.fu⟩
theorem Calm.zrs {S : DevS} (h : Calm S) (st : Nat) : ∀ p, Calm (zrs S st p)
  | 0 => h
  | p + 1 => (Calm.zrs h st p).burnt.wrote _ _
theorem Calm.fmt {S : DevS} (h : Calm S) (st sz : Nat) : Calm (fmtS S st sz) := (((h.zrs st _).burnt.flushed).burnt.wrote _ _).burnt.flushed
theorem F40_calm : Calm F40 := Calm.fmt ⟨rfl, rfl⟩ 2 30
theorem Calm.putL {S : DevS} (h : Calm S) (st sz place i : Nat) (bs : List Int) : Calm (putL S st sz place i bs) := h.burnt.wrote _ _
theorem Calm.hid {S : DevS} (h : Calm S) (st sz place : Nat) (seq : Int) (f : Nat → List Int) (m : List (Nat × Nat)) : ∀ i, Calm (hidS S st sz place seq f m i)
  | 0 => h.putL _ _ _ _ _
  | i + 1 => (Calm.hid h st sz place seq f m i).putL _ _ _ _ _
theorem Calm.com {S : DevS} (h : Calm S) (st sz place : Nat) (seq : Int) (f : Nat → List Int) (m : List (Nat × Nat)) : Calm (comS S st sz place seq f m) := (((h.hid st sz place seq f m _).burnt.flushed).putL _ _ _ _ _).burnt.flushed
theorem rdB_zeros (n x : Nat) (h : x < n) : rdB (fresh (List.replicate (512 * n) 0)) x = zB := by
  show (none : Option (List Int)).getD (((List.replicate (512 * n) (0 : Int)).drop (512 * x)).take 512) = zB
  rw [Option.getD_none, List.drop_replicate, List.take_replicate, Nat.min_eq_left (by omega)]
  rfl
theorem F40_out {x : Nat} (h : x < 40) (h2 : x < 2 ∨ 32 ≤ x) : rdB F40 x = zB := by
  unfold F40
  rw [rdB_fmt S40_good (by omega) (by omega), if_neg (by omega), if_neg (by omega)]
  exact rdB_zeros 40 x h
theorem Good.reads7 {S : DevS} {k : Nat} (h : Good S k) (b : Nat) (hb : b < k) : (rdB S b).length = 512 ∧ ∀ x ∈ rdB S b, 0 ≤ x ∧ x ≤ 255 := by
  unfold rdB
  cases hn : newest S.pend b with
  | none =>
    refine ⟨?_, fun x hx => h.by_ x ?_⟩
    · show ((S.last.drop (512 * b)).take 512).length = 512
      have := h.len
      simp
      omega
    · exact List.mem_of_mem_drop (List.mem_of_mem_take (show x ∈ (S.last.drop (512 * b)).take 512 from hx))
  | some d =>
    unfold newest at hn
    rw [Option.map_eq_some_iff] at hn
    obtain ⟨p, hp, rfl⟩ := hn
    have hm := List.mem_of_find?_eq_some hp
    exact (h.pend p (List.mem_reverse.1 hm)).2
theorem format40 {w : World} {d N : Nat} {F : Nat → Prop} (hD : Dev w d 0 S40 40 N F) (hN : N ≤ 1000000) :
    Calls Tryz.prog 47 #[.pointer (some ⟨d, 0, none⟩), .int .i64 2, .int .i64 30] w fun e w' => e = .returned (.int .i64 0) ∧ Dev w' d 0 F40 40 (N + 30) (grow F w w') ∧ Turns F w w' :=
  format_ok hD 2 30 (by omega) (by omega) (S40_lasts _) (by omega)
theorem open40 {w : World} {d N : Nat} {F : Nat → Prop} {er : Nat → Addr} (hD : Dev w d 0 F40 40 N F) (hEF : ∀ w', Turns F w w' → Errs w' er) (fa : Nat → List Int) :
    Calls Tryz.prog 48 #[.pointer (some ⟨d, 0, none⟩), .int .i64 2, .int .i64 30] w fun e w' => ∃ jb bm, e = .returned (.tuple #[.pointer (some ⟨jb, 0, none⟩), .int .i64 0, .int .i64 0]) ∧ w.heap.size ≤ jb ∧ w.heap.size ≤ bm ∧ (∃ G, Jn w' d F40 40 N G jb 2 30 1 0 29 bm 0 [] fa ∧ ∀ i, G i → F i ∨ w.heap.size ≤ i) ∧ Turns F w w' := by
  have hr2 : rdB F40 2 = jheadB 1 0 := by unfold F40; rw [rdB_fmt S40_good (by omega) (by omega), if_pos rfl]
  have hr3 : rdB F40 3 = zB := by unfold F40; rw [rdB_fmt S40_good (by omega) (by omega), if_neg (by omega), if_pos (by omega)]
  have hb := head_back 1 0 29 (by omega) (by omega) (by decide) (by decide)
  refine (open_empty hD 2 30 (by omega) (by omega) F40_calm.on hEF 1 0 (by rw [hr2]; exact ⟨hb.1, hb.2.1⟩) (by rw [hr2]; exact hb.2.2) (by omega) (by omega) (by rw [show 2 + 1 + 0 % (30 - 1) = 3 from rfl, hr3]; exact zB_begs) (fun b hb => F40_good.reads7 b hb)).mono ?_
  rintro e w' ⟨jb, bm, rfl, l1, l2, J', M', ⟨G, D', hG, g1, g2⟩, t⟩
  exact ⟨jb, bm, rfl, l1, l2, ⟨G, ⟨D', J', M', (fun p hp => by cases hp), g1, g2, (fun p hp => by cases hp), fun e => mp_cells M' J' e⟩, hG⟩, t⟩
theorem begin_busy {w : World} {d : Nat} {S : DevS} {k N : Nat} {G : Nat → Prop} (hD : Dev w d 0 S k N G) {jb st sz tb : Nat} {seq place free : Int} {bm : Nat} (hJ : Jb w jb d st sz seq place free bm (some tb)) (hjG : ¬ G jb) (ho : S.off = false) :
    Calls Tryz.prog 12 #[.pointer (some ⟨jb, 0, none⟩)] w fun e w' => e = .returned (.pointer none) ∧ Same0 w w' d S k N G := by
  obtain ⟨c0, c1, c2, c3, c4, c5, c6, c7, c8, fz⟩ := hJ.cells
  go_enter Tryz.func12, Tryz.ntmps12
  go_wp2_with fail
  refine (power_ok hD hJ ho).mono ?_
  rintro e w1 ⟨rfl, q1⟩
  have J1 : Jb w1 jb d st sz seq place free bm (some tb) := (q1.2.block jb (heap_lt hJ) hjG).trans hJ
  clear c0 c1 c2 c3 c4 c5 c6 c7 c8 fz
  have c7 : w1.cell? ⟨jb, 7, none⟩ = some (.pointer (some ⟨tb, 0, none⟩)) := J1.cells.c7
  have c8 := J1.cells.c8
  go_wp2_with fail
  go_ret
  exact ⟨rfl, q1⟩
end Go.Proofs.YtnmdnglbpkpfdaaGreatDoor

/- annexlaw7.head by its contract. -/
namespace Go.Proofs.YtnmdnglbpkpfdaaGreatDoor
open Go.RowKit Go.Maps
set_option maxRecDepth 100000
theorem same7 (ao bo : Option Addr) (c1 c2 : Nat) (xs : List Int) (w : World) (hA : Lies w ao 512 c1 xs) (hB : Lies w bo 512 c2 xs) :
    Calls Tryz.prog 34 #[.slice ao 512 c1, .slice bo 512 c2] w fun e w' => e = .returned (.bool true) ∧ Below w.heap.size w w' := by
  refine (same_any ao bo 512 512 c1 c2 xs xs w (by omega) hA hB).mono ?_
  rintro e w' ⟨rfl, mm, rfl⟩
  exact ⟨by simp, ⟨rfl, rfl, rfl, Nat.le_refl _, fun _ _ => rfl⟩⟩
set_option maxHeartbeats 4000000 in
theorem head7 (er : Nat → Addr) (w : World) (hE : Errs w er) :
    Calls Tryz.prog 9 #[] w fun e w' => e = .returned (.bool true) ∧ Below w.heap.size w w' := by
  go_enter Tryz.func9, Tryz.ntmps9
  go_wp2_with fail
  refine (new_good 40 w (by omega) (by omega)).mono ?_
  rintro e w1 ⟨db, rfl, D1, b1⟩
  replace D1 : Dev w1 db 0 S40 40 0 (grow (fun _ => False) w w1) := D1
  go_wp2_with fail
  refine (format40 D1 (by omega)).mono ?_
  rintro e w2 ⟨rfl, D2, t2⟩
  have f1 : ∀ i, grow (fun _ => False) w w1 i → w.heap.size ≤ i := fun i hi => hi.elim False.elim (fun r => r.1)
  have B2 : Below w.heap.size w w2 := b1.trans (t2.below f1 b1.size)
  have f2 : ∀ i, grow (grow (fun _ => False) w w1) w1 w2 i → w.heap.size ≤ i := fun i hi => hi.elim (f1 i) (fun r => Nat.le_trans b1.size r.1)
  generalize grow (grow (fun _ => False) w w1) w1 w2 = F2 at D2 f2
  clear D1 t2 f1
  go_wp2_with fail
  refine (open40 (er := er) D2 (fun w' t => hE.below (B2.trans (t.below f2 B2.size)) (Nat.le_refl _)) (fun _ => [])).mono ?_
  rintro e w3 ⟨jb, bm, rfl, lj, lb, ⟨G, J3, hG⟩, t3⟩
  have B3 := B2.trans (t3.below f2 B2.size)
  have f3 : ∀ i, G i → w.heap.size ≤ i := fun i hi => (hG i hi).elim (f2 i) (fun r => Nat.le_trans B2.size r)
  clear D2 t3 hG f2
  go_wp2_with (go_at_call 15; refine (num7 _ _).mono ?_; rintro e wn ⟨rfl, hwn⟩; subst wn)
  refine (Tx.begin J3 F40_calm.on (fun _ => [])).mono ?_
  rintro e w4 ⟨tb, wm, rfl, lt, lw, T4, t4⟩
  have B4 := B3.trans (t4.below (fun i r => r.elim (f3 i) (fun e => by have := B2.size; omega)) B3.size)
  clear J3 t4
  go_wp2_with fail
  refine (begin_busy T4.D T4.J T4.gj F40_calm.on).mono ?_
  rintro e w5 ⟨rfl, q5⟩
  have T5 := T4.same q5
  have B5 := B4.trans (q5.2.below f3 B4.size)
  clear T4 q5
  have hcc : ∀ w : World, _ := fun w => Go.Joins.run_convert_bytes_const_at (P := Tryz.prog) w 56 5 #[.int .u8 115, .int .u8 111] 2 2 w.heap.size (by simp) Tryz.underlying56 Tryz.underlying5
  have hb0 : ∀ w : World, Below w.heap.size w (w.alloc (.cells #[.int .u8 115, .int .u8 111] 5 (2, 3))) := fun w => (Below.refl _ w).alloc (Nat.le_refl _) _
  have hL0 : ∀ w : World, Lies (w.alloc (.cells #[.int .u8 115, .int .u8 111] 5 (2, 3))) (some ⟨w.heap.size, 0, none⟩) 2 2 [115, 111] := fun w => lies_mark w [115, 111] 2 rfl _ rfl (2, 3) w.heap.size rfl
  go_wp2_with fail
  refine (block7 _ 2 2 [115, 111] _ (by omega) (hL0 w5)).mono ?_
  rintro e w6 ⟨g6, c6, rfl, o6, b6⟩
  have b56 : Below w5.heap.size w5 w6 := (hb0 w5).trans (b6.mono (by simp))
  have T6 := T5.below b56
  have B6 := B5.trans (b56.mono B5.size)
  have hbl : (blkB [115, 111]).length = 512 := blkB_len _
  have hby : ∀ x ∈ blkB [115, 111], 0 ≤ x ∧ x ≤ 255 := blkB_by (by intro x hx; simp at hx; omega)
  have hGl := T5.D.lt
  have hg6 : ¬ G g6 := fun r => by have := hGl g6 r; have := (o6.lt g6 rfl).1; simp at this; omega
  obtain ⟨bb, hbb⟩ : ∃ bb, blkB [115, 111] = bb := ⟨_, rfl⟩
  have HBB : Hid (blkB [115, 111] = bb) := hbb
  rw [hbb] at hbl hby o6
  clear hbb
  clear T5 b6 b56
  have Lo6 : Lies w6 (some ⟨g6, 0, none⟩) 512 c6 bb := Lies.owned o6
  go_wp2_with fail
  refine (Tx.write T6 F40_calm.on (by omega) 35 (by omega) (by omega) _ c6 bb Lo6 hby (fun ad e => by cases e; exact hg6) (Or.inr (by decide)) (by omega)).mono ?_
  rintro e w7 ⟨g7, rfl, lg7, T7, t7⟩
  have B7 := B6.trans (t7.below (fun i r => r.elim (f3 i) (fun e => by have := B3.size; omega)) B6.size)
  have hse : seesF F40 (mput [] 35 g7) (updF (fun _ => []) 35 bb) [] (fun _ => []) 35 = bb := by simp [seesF, mput, lk, updF]
  have HSE : Hid (seesF F40 (mput [] 35 g7) (updF (fun _ => []) 35 bb) [] (fun _ => []) 35 = bb) := hse
  clear T6 t7 hse
  go_wp2_with fail
  refine (Tx.read T7 F40_calm.on (by omega) 35 (by omega) (by omega) (by rw [HSE.out]; exact hbl)).mono ?_
  rintro e w8 ⟨g8, rfl, lg8, h8, T8, t8⟩
  rw [HSE.out] at h8
  have B8 := B7.trans (t8.below f3 B7.size)
  have hGl8 := T8.D.lt
  have hg8 : ¬ G g8 := fun r => by have := T7.D.lt g8 r; omega
  clear T7 t8
  go_wp2_with fail
  refine (txCommit_ok T8 (Nat.le_refl 1) (show 1 ≤ 24 by omega) (fun p hp => by cases hp) (fun p hp => by simp [mput] at hp; subst hp; simp) (show ((1 : Nat) : Int) + 2 ≤ 29 by omega) (by omega) (by omega) (by omega) (by omega) (F40_calm.lasts _) (by omega) (by omega) (by omega) (by omega)).mono ?_
  rintro e w9 ⟨rfl, d9, t9, G9, J9, hG9⟩
  have n8 : ¬ (G g8 ∨ g8 = bm ∨ g8 = jb ∨ g8 = tb) := fun r => by
    rcases r with r | r | r | r
    · exact hg8 r
    · exact mp_no_bl T8.A (by rw [← r]; exact h8)
    · have := T8.J; unfold Jb at this; rw [← r, h8] at this; simp [bl] at this
    · have := T8.T; unfold Tb at this; rw [← r, h8] at this; simp [bl] at this
  have h9 := (t9.block g8 (heap_lt h8) n8).trans h8
  have hs3 := B3.size
  have B9 := B8.trans (t9.below (fun i r => by
    rcases r with r | r | r | r
    · exact f3 i r
    · have := B2.size; omega
    · have := B2.size; omega
    · omega) B8.size)
  clear T8 t9 h8 n8
  go_wp2_with fail
  refine (state_ok J9.J J9.A).mono ?_
  rintro e wA ⟨rfl, tA, rfl⟩
  have hlen : (mmerge [] (mput [] 35 g7)).length = 1 := rfl
  have hlen2 : (mput [] 35 g7).length = 1 := rfl
  have h9A : (w9.drewN tA).heap[g8]? = some (bl bb) := h9
  have BA : Below w.heap.size w (w9.drewN tA) := ⟨B9.os, B9.tape, B9.output, B9.size, B9.block⟩
  generalize w9.drewN tA = wA at *
  go_wp2_with fail
  refine (block7 _ 2 2 [115, 111] _ (by omega) (hL0 wA)).mono ?_
  rintro e wB ⟨gB, cB, rfl, oB, bB⟩
  rw [HBB.out] at oB
  have bAB : Below wA.heap.size wA wB := (hb0 wA).trans (bB.mono (by simp))
  have hB8 := (bAB.block g8 (heap_lt h9A)).trans h9A
  have BB := BA.trans (bAB.mono BA.size)
  clear bB bAB
  go_wp2_with fail
  refine (same7 (some ⟨g8, 0, none⟩) (some ⟨gB, 0, none⟩) 512 cB bb wB (Lies.full hB8 hbl) (Lies.owned oB)).mono ?_
  rintro e wC ⟨rfl, bC⟩
  have BC := BB.trans (bC.mono BB.size)
  go_wp2_with (go_at_call 15; refine (num7 _ _).mono ?_; rintro e wn ⟨rfl, hwn⟩; subst wn)
  go_ret
  exact ⟨rfl, BC⟩
end Go.Proofs.YtnmdnglbpkpfdaaGreatDoor

/- The statements' own lists beside a journal: what stays whatever the journal does. -/
namespace Go.Proofs.YtnmdnglbpkpfdaaGreatDoor
open Go.RowKit Go.Maps
set_option maxRecDepth 100000
/-- The types of the journal's own blocks. -/
abbrev jty : List Nat := [104, 127, 101]
/-- Blocks that are not the device's, and of no type of the journal's, are as they were. -/
structure Kp (G : Nat → Prop) (w w' : World) : Prop where
  size : w.heap.size ≤ w'.heap.size
  block : ∀ x cs t fz, ¬ G x → w.heap[x]? = some (.cells cs t fz) → t ∉ jty → w'.heap[x]? = some (.cells cs t fz)
theorem Kp.trans {G : Nat → Prop} {a b c : World} (h : Kp G a b) (k : Kp G b c) : Kp G a c := ⟨Nat.le_trans h.size k.size, fun x cs t fz g hx ht => k.block x cs t fz g (h.block x cs t fz g hx ht) ht⟩
theorem Kp.below {G : Nat → Prop} {w w' : World} (h : Below w.heap.size w w') : Kp G w w' := ⟨h.size, fun x _ _ _ _ hx _ => (h.block x (heap_lt hx)).trans hx⟩
theorem Kp.turns {G Y : Nat → Prop} {w w' : World} (t : Turns Y w w') (h : ∀ x cs t fz, ¬ G x → w.heap[x]? = some (.cells cs t fz) → t ∉ jty → ¬ Y x) : Kp G w w' := ⟨t.size, fun x cs ty fz g hx ht => (t.block x (heap_lt hx) (h x cs ty fz g hx ht)).trans hx⟩
theorem jty_tb {w : World} {tb jb wm : Nat} {sv : Value} {last : Int} (h : Tb w tb jb wm sv last) {x : Nat} {cs : Array Value} {t : Nat} {fz : Nat × Nat} (hx : w.heap[x]? = some (.cells cs t fz)) (ht : t ∉ jty) : x ≠ tb := by
  rintro rfl
  unfold Tb at h
  rw [h] at hx
  simp at hx
  exact ht (by simp [← hx.2.1])
theorem jty_jb {w : World} {jb d st sz : Nat} {seq place free : Int} {bm : Nat} {op : Option Nat} (h : Jb w jb d st sz seq place free bm op) {x : Nat} {cs : Array Value} {t : Nat} {fz : Nat × Nat} (hx : w.heap[x]? = some (.cells cs t fz)) (ht : t ∉ jty) : x ≠ jb := by
  rintro rfl
  unfold Jb at h
  rw [h] at hx
  simp at hx
  exact ht (by simp [← hx.2.1])
theorem Kp.same {G : Nat → Prop} {w w' : World} (t : Turns G w w') : Kp G w w' := Kp.turns t (fun _ _ _ _ g _ _ => g)
theorem Kp.row {G : Nat → Prop} {w w' : World} {base e s n : Nat} {v : Value} {xs : List Value} (k : Kp G w w') (h : w.ownsRow base e s v n xs) (he : e ∉ jty) (hg : ∀ b, v.ownBlock = some b → ¬ G b) : w'.ownsRow base e s v n xs := by
  refine ⟨h.1, ?_⟩
  rcases h.2 with h2 | ⟨g, cap, cur, hv, hb, hh, r⟩
  · exact Or.inl h2
  · exact Or.inr ⟨g, cap, cur, hv, hb, k.block g _ _ _ (hg g (by rw [hv]; rfl)) hh he, r⟩
/-- A list of 512 bytes that somebody holds. -/
structure It where
  g : Nat
  cap : Nat
  bs : List Int
def It.val (x : It) : Value := .slice (some ⟨x.g, 0, none⟩) 512 x.cap
/-- It lies there, not in the device. -/
structure ItOk (w : World) (G : Nat → Prop) (x : It) : Prop where
  own : B512 w 0 x.val x.bs
  ng : ¬ G x.g
  by_ : ∀ y ∈ x.bs, 0 ≤ y ∧ y ≤ 255
theorem ItOk.kp {G : Nat → Prop} {w w' : World} {x : It} (h : ItOk w G x) (k : Kp G w w') : ItOk w' G x := ⟨k.row h.own (by decide) (fun b hb => by cases hb; exact h.ng), h.ng, h.by_⟩
theorem ItOk.len {w : World} {G : Nat → Prop} {x : It} (h : ItOk w G x) : x.bs.length = 512 := by have := h.own.1; simpa using this
theorem ItOk.lies {w : World} {G : Nat → Prop} {x : It} (h : ItOk w G x) : Lies w (some ⟨x.g, 0, none⟩) 512 x.cap x.bs := Lies.owned h.own
/-- What turns one block of another type leaves it. -/
theorem own_turn1 {w w' : World} {base e s n g : Nat} {v : Value} {xs : List Value} {cs : Array Value} {t : Nat} {fz : Nat × Nat} (h : w.ownsRow base e s v n xs) (hg : w.heap[g]? = some (.cells cs t fz)) (ht : t ≠ e) (u : Turns (fun i => i = g) w w') : w'.ownsRow base e s v n xs :=
  own_turns h u (fun b hb q => own_typeJ h hg ht (by rw [hb, q]))
theorem ItOk.turn1 {G : Nat → Prop} {w w' : World} {x : It} {g : Nat} {cs : Array Value} {t : Nat} {fz : Nat × Nat} (h : ItOk w G x) (hg : w.heap[g]? = some (.cells cs t fz)) (ht : t ≠ 5) (u : Turns (fun i => i = g) w w') : ItOk w' G x := ⟨own_turn1 h.own hg ht u, h.ng, h.by_⟩
/-- A row of such lists. -/
structure Wt (w : World) (G : Nat → Prop) (v : Value) (xs : List It) : Prop where
  row : w.ownsRow 0 56 1 v xs.length (xs.map It.val)
  gr : ∀ b, v.ownBlock = some b → ¬ G b
  it : ∀ x ∈ xs, ItOk w G x
theorem Wt.kp {G : Nat → Prop} {w w' : World} {v : Value} {xs : List It} (h : Wt w G v xs) (k : Kp G w w') : Wt w' G v xs := ⟨k.row h.row (by decide) h.gr, h.gr, fun x hx => (h.it x hx).kp k⟩
theorem Wt.turn1 {G : Nat → Prop} {w w' : World} {v : Value} {xs : List It} {g : Nat} {cs : Array Value} {t : Nat} {fz : Nat × Nat} (h : Wt w G v xs) (hg : w.heap[g]? = some (.cells cs t fz)) (ht : t ≠ 5) (ht2 : t ≠ 56) (u : Turns (fun i => i = g) w w') : Wt w' G v xs := ⟨own_turn1 h.row hg ht2 u, h.gr, fun x hx => (h.it x hx).turn1 hg ht u⟩
/-- A row of numbers. -/
structure Ns (w : World) (G : Nat → Prop) (v : Value) (l : List Nat) : Prop where
  row : w.ownsRow 0 3 1 v l.length (l.map fun x => .int .i64 (x : Nat))
  gr : ∀ b, v.ownBlock = some b → ¬ G b
theorem Ns.kp {G : Nat → Prop} {w w' : World} {v : Value} {l : List Nat} (h : Ns w G v l) (k : Kp G w w') : Ns w' G v l := ⟨k.row h.row (by decide) h.gr, h.gr⟩
theorem Ns.turn1 {G : Nat → Prop} {w w' : World} {v : Value} {l : List Nat} {g : Nat} {cs : Array Value} {t : Nat} {fz : Nat × Nat} (h : Ns w G v l) (hg : w.heap[g]? = some (.cells cs t fz)) (ht : t ≠ 3) (u : Turns (fun i => i = g) w w') : Ns w' G v l := ⟨own_turn1 h.row hg ht u, h.gr⟩
/-- A town in memory. -/
structure Tn (w : World) (G : Nat → Prop) (tw db : Nat) (ov wv : Value) (outs : List Nat) (xs : List It) : Prop where
  box : w.heap[tw]? = some (.cells #[.pointer (some ⟨db, 0, none⟩), .int .i64 2, .int .i64 30, ov, wv] 42)
  o : Ns w G ov outs
  x : Wt w G wv xs
  gt : ¬ G tw
theorem Tn.kp {G : Nat → Prop} {w w' : World} {tw db : Nat} {ov wv : Value} {outs : List Nat} {xs : List It} (h : Tn w G tw db ov wv outs xs) (k : Kp G w w') : Tn w' G tw db ov wv outs xs := ⟨k.block _ _ _ _ h.gt h.box (by decide), h.o.kp k, h.x.kp k, h.gt⟩
end Go.Proofs.YtnmdnglbpkpfdaaGreatDoor

/- annexlaw7.town at 0, 0, 0 by its contract. -/
namespace Go.Proofs.YtnmdnglbpkpfdaaGreatDoor
open Go.RowKit Go.Maps
set_option maxRecDepth 100000
/-- The blocks outside, below b. -/
def outB7 (b : Nat) : Bool := decide (b < 2) || decide (32 ≤ b)
def outs (b : Nat) : List Nat := (List.range b).filter outB7
theorem outs_succ (b : Nat) : outs (b + 1) = outs b ++ (if outB7 b then [b] else []) := by
  unfold outs
  rw [List.range_succ, List.filter_append]
  congr 1
  cases h : outB7 b <;> simp [h]
theorem outs_40 : outs 40 = [0, 1, 32, 33, 34, 35, 36, 37, 38, 39] := by decide
theorem outs_le (b : Nat) : (outs b).length ≤ b := by
  unfold outs
  exact Nat.le_trans (List.length_filter_le _ _) (by simp)
theorem Tryz.infoS7 : (Tryz.prog.info? 56).map (fun i => (i.zero, i.size, i.bytes)) = some (some (.slice none 0 0), 1, 24) := by kernel_rfl
/-- The town's other parts, where its list of blocks has grown (the list itself is taken anew). -/
structure Tn0 (w : World) (G : Nat → Prop) (tw db : Nat) (ov wv : Value) (xs : List It) : Prop where
  box : w.heap[tw]? = some (.cells #[.pointer (some ⟨db, 0, none⟩), .int .i64 2, .int .i64 30, ov, wv] 42)
  x : Wt w G wv xs
  gt : ¬ G tw
theorem Tn.grow1 {w w5 : World} {G : Nat → Prop} {tw db L : Nat} {ov wv : Value} {os : List Nat} {xs : List It} {ys : List Value} {o : Obj} (h : Tn w G tw db ov wv os xs) (htl : tw < w.heap.size) (r : w.ownsRow 0 3 1 ov L ys) (hg : (w.alloc o).grownBy w5 ov.ownBlock) : Tn0 w5 G tw db ov wv xs := by
  have t : Turns (fun i => ov.ownBlock = some i) w w5 := (Turns.alloc _ w o).trans (Turns.grown hg (fun b hb => hb)) (fun _ _ e => e)
  have hrow := h.x.row
  refine ⟨(t.block tw htl (own_typeJ r h.box (by decide))).trans h.box, ⟨own_turns hrow t (fun b hb e => ?_), h.x.gr, fun x hx => ?_⟩, h.gt⟩
  · rcases hrow.2 with ⟨q, _⟩ | ⟨g, cap, cur, q, _, hh, _⟩
    · rw [q] at hb; cases hb
    · rw [q] at hb; cases hb
      exact own_typeJ r hh (by decide) e
  · have hi := h.x.it x hx
    refine ⟨own_turns hi.own t (fun b hb e => ?_), hi.ng, hi.by_⟩
    rcases hi.own.2 with ⟨q, _⟩ | ⟨g, cap, cur, q, _, hh, _⟩
    · rw [q] at hb; cases hb
    · rw [q] at hb; cases hb
      exact own_typeJ r hh (by decide) e
theorem Tn.grow2 {w w5 : World} {G : Nat → Prop} {tw db : Nat} {ov wv : Value} {os : List Nat} {xs : List It} {o : Obj} (h : Tn w G tw db ov wv os xs) (hg : (w.alloc o).grownBy w5 wv.ownBlock) : w5.heap[tw]? = some (.cells #[.pointer (some ⟨db, 0, none⟩), .int .i64 2, .int .i64 30, ov, wv] 42) := by
  have t : Turns (fun i => wv.ownBlock = some i) w w5 := (Turns.alloc _ w o).trans (Turns.grown hg (fun b hb => hb)) (fun _ _ e => e)
  exact (t.block tw (heap_lt h.box) (own_typeJ h.x.row h.box (by decide))).trans h.box
theorem Tn.out {w w5 : World} {G : Nat → Prop} {tw db L g5 c5 b : Nat} {ov wv : Value} {os : List Nat} {xs : List It} {o : Obj} (h : Tn w G tw db ov wv os xs) (hL : os.length = L) (hGl : ∀ i, G i → i < w.heap.size) (ho : w5.ownsRow 0 3 1 (.slice (some ⟨g5, 0, none⟩) (L + 1) c5) (L + 1) ((os.map fun x => Value.int .i64 (x : Nat)) ++ [.int .i64 (b : Nat)])) (hg : (w.alloc o).grownBy w5 ov.ownBlock) (hat : ov.ownBlock = some g5 ∨ g5 = (w.alloc o).heap.size) :
    Tn (w5.setCell ⟨tw, 3, none⟩ (.slice (some ⟨g5, 0, none⟩) (L + 1) c5)) G tw db (.slice (some ⟨g5, 0, none⟩) (L + 1) c5) wv (os ++ [b]) xs ∧ Turns (fun i => i = tw ∨ ov.ownBlock = some i) w (w5.setCell ⟨tw, 3, none⟩ (.slice (some ⟨g5, 0, none⟩) (L + 1) c5)) := by
  have t : Turns (fun i => ov.ownBlock = some i) w w5 := (Turns.alloc _ w o).trans (Turns.grown hg (fun b hb => hb)) (fun _ _ e => e)
  have T5 := h.grow1 (heap_lt h.box) h.o.row hg
  have u := Turns.cell w5 tw 3 (.slice (some ⟨g5, 0, none⟩) (L + 1) c5)
  have hs : (w.alloc o).heap.size = w.heap.size + 1 := by simp
  refine ⟨⟨heap_setCell_same _ tw 3 _ _ _ T5.box, ⟨?_, fun b hb => ?_⟩, T5.x.turn1 T5.box (by decide) (by decide) u, h.gt⟩, (t.mono (fun _ _ e => Or.inr e)).trans u (fun _ _ e => Or.inl e)⟩
  · rw [List.length_append, hL, List.map_append]
    exact own_turn1 ho T5.box (by decide) u
  · cases hb
    rcases hat with e | e
    · exact h.o.gr g5 e
    · exact fun r => by have := hGl g5 r; omega
theorem Tn.want {w w5 : World} {G : Nat → Prop} {tw db L g5 c5 : Nat} {ov wv : Value} {os : List Nat} {xs : List It} {x : It} {o : Obj} (h : Tn w G tw db ov wv os xs) (hL : xs.length = L) (hx : ItOk w G x) (hGl : ∀ i, G i → i < w.heap.size) (ho : w5.ownsRow 0 56 1 (.slice (some ⟨g5, 0, none⟩) (L + 1) c5) (L + 1) (xs.map It.val ++ [x.val])) (hg : (w.alloc o).grownBy w5 wv.ownBlock) (hat : wv.ownBlock = some g5 ∨ g5 = (w.alloc o).heap.size) :
    Tn (w5.setCell ⟨tw, 4, none⟩ (.slice (some ⟨g5, 0, none⟩) (L + 1) c5)) G tw db ov (.slice (some ⟨g5, 0, none⟩) (L + 1) c5) os (xs ++ [x]) ∧ Turns (fun i => i = tw ∨ wv.ownBlock = some i) w (w5.setCell ⟨tw, 4, none⟩ (.slice (some ⟨g5, 0, none⟩) (L + 1) c5)) := by
  have t : Turns (fun i => wv.ownBlock = some i) w w5 := (Turns.alloc _ w o).trans (Turns.grown hg (fun b hb => hb)) (fun _ _ e => e)
  have X5 := h.grow2 hg
  have u := Turns.cell w5 tw 4 (.slice (some ⟨g5, 0, none⟩) (L + 1) c5)
  have hs : (w.alloc o).heap.size = w.heap.size + 1 := by simp
  have hit : ∀ y, ItOk w G y → ItOk (w5.setCell ⟨tw, 4, none⟩ (.slice (some ⟨g5, 0, none⟩) (L + 1) c5)) G y := fun y hy => by
    refine ItOk.turn1 (w := w5) ⟨own_turns hy.own t (fun b hb e => ?_), hy.ng, hy.by_⟩ X5 (by decide) u
    rcases hy.own.2 with ⟨q, _⟩ | ⟨g, cap, cur, q, _, hh, _⟩
    · rw [q] at hb; cases hb
    · rw [q] at hb; cases hb
      exact own_typeJ h.x.row hh (by decide) e
  have hos : w5.ownsRow 0 3 1 ov os.length (os.map fun x => Value.int .i64 (x : Nat)) := own_turns h.o.row t (fun b hb e => by
    rcases h.o.row.2 with ⟨q, _⟩ | ⟨g, cap, cur, q, _, hh, _⟩
    · rw [q] at hb; cases hb
    · rw [q] at hb; cases hb
      exact own_typeJ h.x.row hh (by decide) e)
  refine ⟨⟨heap_setCell_same _ tw 4 _ _ _ X5, ⟨own_turn1 hos X5 (by decide) u, h.o.gr⟩, ⟨?_, fun b hb => ?_, fun y hy => ?_⟩, h.gt⟩, (t.mono (fun _ _ e => Or.inr e)).trans u (fun _ _ e => Or.inl e)⟩
  · rw [List.length_append, hL, List.map_append]
    exact own_turn1 ho X5 (by decide) u
  · cases hb
    rcases hat with e | e
    · exact h.x.gr g5 e
    · exact fun r => by have := hGl g5 r; omega
  · rcases List.mem_append.1 hy with hy | hy
    · exact hit y (h.x.it y hy)
    · simp at hy; subst hy; exact hit y hx
/-- What a round of town leaves. -/
def TR (w : World) (G : Nat → Prop) (tw db b : Nat) (wr : World) : Prop := ∃ (ov wv : Value) (xs : List It), Dev wr db 0 F40 40 30 G ∧ Tn wr G tw db ov wv (outs b) xs ∧ xs.length = (outs b).length ∧ (∀ x ∈ xs, x.bs = zB) ∧ (∀ c, ov.ownBlock = some c → w.heap.size ≤ c) ∧ (∀ c, wv.ownBlock = some c → w.heap.size ≤ c) ∧ Below w.heap.size w wr
theorem town_end {w w4 W6 w7 w8 : World} {G : Nat → Prop} {tw db b L g5 c5 g7 c7 g8 c8 : Nat} {ov wv : Value} {xs : List It} {o4 o7' : Obj} (D : Dev w4 db 0 F40 40 30 G) (T : Tn w4 G tw db ov wv (outs b) xs) (B : Below w.heap.size w w4) (ltw : w.heap.size ≤ tw) (lo : ∀ c, ov.ownBlock = some c → w.heap.size ≤ c) (lw : ∀ c, wv.ownBlock = some c → w.heap.size ≤ c) (ho : outB7 b = true) (hl : (outs b).length = L) (hxl : xs.length = L) (hxz : ∀ x ∈ xs, x.bs = zB) (hat5 : ov.ownBlock = some g5 ∨ g5 = (w4.alloc o4).heap.size)
    (T6 : Tn W6 G tw db (.slice (some ⟨g5, 0, none⟩) (L + 1) c5) wv (outs b ++ [b]) xs) (t6 : Turns (fun i => i = tw ∨ ov.ownBlock = some i) w4 W6) (o7 : B512 w7 W6.drew.heap.size (.slice (some ⟨g7, 0, none⟩) 512 c7) (blkB [])) (b7 : Below W6.heap.size W6 w7)
    (ho8 : w8.ownsRow 0 56 1 (.slice (some ⟨g8, 0, none⟩) (L + 1) c8) (L + 1) (xs.map It.val ++ [.slice (some ⟨g7, 0, none⟩) 512 c7])) (hg8 : (w7.alloc o7').grownBy w8 wv.ownBlock) (hat8 : wv.ownBlock = some g8 ∨ g8 = (w7.alloc o7').heap.size) :
    TR w G tw db (b + 1) (w8.setCell ⟨tw, 4, none⟩ (.slice (some ⟨g8, 0, none⟩) (L + 1) c8)) := by
  have hz : blkB [] = zB := by simp [blkB, zB]
  rw [hz] at o7
  have s4 := B.size
  have s6 := t6.size
  have s7 := b7.size
  have hG4 := D.lt
  have D6 : Dev W6 db 0 F40 40 30 G := D.turns t6 (fun i gi => by
    rintro (rfl | e)
    · exact T.gt gi
    · exact T.o.gr i e gi)
  have D7 := D6.below b7
  have hG7 := D7.lt
  have hg7 : W6.heap.size ≤ g7 := by
    rcases o7.2 with ⟨q, _⟩ | ⟨g, cap, cur, q, hb, _⟩
    · cases q
    · cases q; exact hb
  have I7 : ItOk w7 G ⟨g7, c7, zB⟩ := ⟨own_zero o7, fun r => by have := D6.lt g7 r; omega, zB_by⟩
  have T7 := T6.kp (Kp.below b7)
  obtain ⟨T9, t9⟩ := T7.want hxl I7 hG7 ho8 hg8 hat8
  have hs4 : (w4.alloc o4).heap.size = w4.heap.size + 1 := by simp
  have hs7 : (w7.alloc o7').heap.size = w7.heap.size + 1 := by simp
  have e : outs (b + 1) = outs b ++ [b] := by rw [outs_succ, ho]; rfl
  have B7 : Below w.heap.size w w7 := (B.trans (t6.below (fun i hi => by
    rcases hi with rfl | e
    · exact ltw
    · exact lo i e) s4)).trans (b7.mono (by omega))
  refine ⟨_, _, xs ++ [⟨g7, c7, zB⟩], D7.turns t9 (fun i gi => by
    rintro (rfl | e)
    · exact T.gt gi
    · exact T.x.gr i e gi), by rw [e]; exact T9, by rw [e]; simp [hxl, hl], fun x hx => ?_, fun c hc => ?_, fun c hc => ?_, B7.trans (t9.below (fun i hi => by
    rcases hi with rfl | e
    · exact ltw
    · exact lw i e) (by omega))⟩
  · rcases List.mem_append.1 hx with hx | hx
    · exact hxz x hx
    · simp at hx; subst hx; rfl
  · have hc : some g5 = some c := hc
    cases hc
    rcases hat5 with e | e
    · exact lo _ e
    · omega
  · have hc : some g8 = some c := hc
    cases hc
    rcases hat8 with e | e
    · exact lw _ e
    · omega
end Go.Proofs.YtnmdnglbpkpfdaaGreatDoor
