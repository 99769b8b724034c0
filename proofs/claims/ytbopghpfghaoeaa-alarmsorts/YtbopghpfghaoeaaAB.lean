/- What every statement holds: what lay there at the start, alarms beside one another; lists of pairs. -/
import Derived.Test.YtbopghpfghaoeaaAL
namespace Go.Proofs.Ytbopghpfghaoeaa
open Go.RowKit Go.Maps
set_option maxRecDepth 100000

/-- What lay there at the start lies there, and is labelled 0. -/
structure Bk (w0 : World) (lab : Nat → Nat) (w : World) : Prop where
  b : Below w0.heap.size w0 w
  z : ∀ i, i < w0.heap.size → lab i = 0
theorem Bk.refl (w : World) : Bk w (fun _ => 0) w := ⟨Below.refl _ _, fun _ _ => rfl⟩
theorem Bk.to {w0 w w' : World} {lab lab' : Nat → Nat} {k : Nat} (h : Bk w0 lab w) (t : Turns (fun i => lab i = k) w w') (hk : k ≠ 0) (hl : ∀ i, i < w.heap.size → lab' i = lab i) : Bk w0 lab' w' :=
  ⟨h.b.trans ((t.mono (G := fun i => lab i = k ∧ w0.heap.size ≤ i) (fun i _ q => ⟨q, by
    rcases Nat.lt_or_ge i w0.heap.size with r | r
    · rw [h.z i r] at q; exact absurd q.symm hk
    · exact r⟩)).below (fun _ q => q.2) h.b.size), fun i hi => by rw [hl i (Nat.lt_of_lt_of_le hi h.b.size)]; exact h.z i hi⟩
theorem Bk.step {w0 w w' : World} {lab : Nat → Nat} {k : Nat} (h : Bk w0 lab w) (t : Turns (fun i => lab i = k) w w') (hk : k ≠ 0) : Bk w0 (rl lab w k) w' := h.to t hk (fun _ hi => rl_old hi)
theorem Bk.below {w0 w w' : World} {lab : Nat → Nat} (h : Bk w0 lab w) (b : Below w.heap.size w w') (k : Nat) : Bk w0 (rl lab w k) w' :=
  ⟨h.b.trans (b.mono h.b.size), fun i hi => by rw [rl_old (Nat.lt_of_lt_of_le hi h.b.size)]; exact h.z i hi⟩
theorem Bk.drew {w0 w : World} {lab : Nat → Nat} (h : Bk w0 lab w) (m : Nat) : Bk w0 lab (w.drewN m) := ⟨⟨h.b.os, h.b.tape, h.b.output, h.b.size, h.b.block⟩, h.z⟩
/-- Two alarms of ints beside one another. -/
structure Tw (w0 w : World) (lab : Nat → Nat) (a b : Nat) (Sa Sb : List (Int × Int)) : Prop where
  bk : Bk w0 lab w
  A : AlI w lab 1 a Sa
  B : AlI w lab 2 b Sb
theorem Tw.a {w0 w w' : World} {lab lab' : Nat → Nat} {a b : Nat} {Sa Sb S : List (Int × Int)} (h : Tw w0 w lab a b Sa Sb) (t : Turns (fun i => lab i = 1) w w') (hl : ∀ i, i < w.heap.size → lab' i = lab i) (hA : AlI w' lab' 1 a S) : Tw w0 w' lab' a b S Sb :=
  ⟨h.bk.to t (by decide) hl, hA, h.B.turns t (fun i _ e q => by omega) hl⟩
theorem Tw.b {w0 w w' : World} {lab lab' : Nat → Nat} {a b : Nat} {Sa Sb S : List (Int × Int)} (h : Tw w0 w lab a b Sa Sb) (t : Turns (fun i => lab i = 2) w w') (hl : ∀ i, i < w.heap.size → lab' i = lab i) (hB : AlI w' lab' 2 b S) : Tw w0 w' lab' a b Sa S :=
  ⟨h.bk.to t (by decide) hl, h.A.turns t (fun i _ e q => by omega) hl, hB⟩
theorem Tw.below {w0 w w' : World} {lab : Nat → Nat} {a b : Nat} {Sa Sb : List (Int × Int)} (h : Tw w0 w lab a b Sa Sb) (q : Below w.heap.size w w') (j : Nat) : Tw w0 w' (rl lab w j) a b Sa Sb := ⟨h.bk.below q j, h.A.below q j, h.B.below q j⟩
theorem Tw.drew {w0 w : World} {lab : Nat → Nat} {a b : Nat} {Sa Sb : List (Int × Int)} (h : Tw w0 w lab a b Sa Sb) (m : Nat) : Tw w0 (w.drewN m) lab a b Sa Sb := ⟨h.bk.drew m, h.A.drew m, h.B.drew m⟩
/-- A pair's numbers are ints. -/
structure PIn (e : Int × Int) : Prop where
  k : -9223372036854775808 ≤ e.1 ∧ e.1 ≤ 9223372036854775807
  a : -9223372036854775808 ≤ e.2 ∧ e.2 ≤ 9223372036854775807
/-- A list of pairs that came in. -/
structure PLies (w : World) (ao : Option Addr) (n : Nat) (es : List (Int × Int)) : Prop where
  hlen : es.length = n
  hcells : ∀ (j : Nat) e, es[j]? = some e → PIn e ∧ ∃ g p, ao = some ⟨g, p, none⟩ ∧ w.cell? ⟨g, p + j * 2, none⟩ = some (.int .i64 e.1) ∧ w.cell? ⟨g, p + j * 2 + 1, none⟩ = some (.int .i64 e.2)
theorem PLies.below {B : Nat} {w w' : World} {ao : Option Addr} {n : Nat} {es : List (Int × Int)} (h : PLies w ao n es) (hb : Below B w w') (hB : w.heap.size ≤ B) : PLies w' ao n es :=
  ⟨h.hlen, fun j e he => by
    obtain ⟨h1, g, p, h2, h3, h4⟩ := h.hcells j e he
    exact ⟨h1, g, p, h2, (hb.cell (Nat.lt_of_lt_of_le (World.block_lt_of_cell? w _ h3) hB)).trans h3, (hb.cell (Nat.lt_of_lt_of_le (World.block_lt_of_cell? w _ h4) hB)).trans h4⟩⟩
theorem PLies.at {w : World} {ao : Option Addr} {n : Nat} {es : List (Int × Int)} (h : PLies w ao n es) (j : Nat) (hj : j < n) : ∃ g p e, ao = some ⟨g, p, none⟩ ∧ es[j]? = some e ∧ PIn e ∧ w.cell? ⟨g, p + j * 2, none⟩ = some (.int .i64 e.1) ∧ w.cell? ⟨g, p + j * 2 + 1, none⟩ = some (.int .i64 e.2) := by
  have hl : j < es.length := by rw [h.hlen]; exact hj
  obtain ⟨h1, g, p, h2, h3, h4⟩ := h.hcells j es[j] (List.getElem?_eq_getElem hl)
  exact ⟨g, p, es[j], h2, List.getElem?_eq_getElem hl, h1, h3, h4⟩
/-- All pairs are set. -/
def setAll (S : List (Int × Int)) (ps : List (Int × Int)) : List (Int × Int) := ps.foldl (fun S p => setS OI S p.1 p.2) S
theorem setAll_snoc (S ps : List (Int × Int)) (p : Int × Int) : setAll S (ps ++ [p]) = setS OI (setAll S ps) p.1 p.2 := by simp [setAll]
theorem setAll_len (S ps : List (Int × Int)) : (setAll S ps).length ≤ S.length + ps.length := by
  induction ps generalizing S with
  | nil => simp [setAll]
  | cons p ps ih =>
    have h1 := ih (setS OI S p.1 p.2)
    have h2 := setS_len (O := OI) S p.1 p.2
    have : setAll S (p :: ps) = setAll (setS OI S p.1 p.2) ps := rfl
    rw [this, List.length_cons]
    omega
theorem setAll_srt {S : List (Int × Int)} (h : Srt OI S) : ∀ ps, Srt OI (setAll S ps)
  | [] => h
  | p :: ps => setAll_srt (srt_setS h p.1 p.2) ps
theorem take_snoc {α : Type} {l : List α} {i : Nat} {x : α} (h : l[i]? = some x) : l.take (i + 1) = l.take i ++ [x] := by
  obtain ⟨h1, rfl⟩ := List.getElem?_eq_some_iff.1 h
  rw [List.take_succ_eq_append_getElem h1]
/-- A pair is laid into a list of last times. -/
def lay1 (L : List (Int × Int)) (p : Int × Int) : List (Int × Int) := if p.1 ∈ L.map Prod.fst then L.map (fun x => if x.1 = p.1 then p else x) else L ++ [p]
/-- Of each key its last time. -/
def lastL (ps : List (Int × Int)) : List (Int × Int) := ps.foldl lay1 []
theorem lastL_snoc (ps : List (Int × Int)) (p : Int × Int) : lastL (ps ++ [p]) = lay1 (lastL ps) p := by simp [lastL]
theorem lay1_keys (L : List (Int × Int)) (p : Int × Int) (h : (L.map Prod.fst).Nodup) : ((lay1 L p).map Prod.fst).Nodup := by
  unfold lay1
  split
  · have : (L.map (fun x => if x.1 = p.1 then p else x)).map Prod.fst = L.map Prod.fst := by
      rw [List.map_map]
      apply List.map_congr_left
      intro x _
      show (if x.1 = p.1 then p else x).1 = x.1
      split
      · rename_i e; exact e.symm
      · rfl
    rw [this]; exact h
  · rename_i q
    rw [List.map_append, List.nodup_append]
    refine ⟨h, by simp, fun a ha b hb => ?_⟩
    simp at hb
    subst hb
    rintro rfl
    exact q ha
theorem mem_lay1 (L : List (Int × Int)) (p x : Int × Int) : x ∈ lay1 L p ↔ x = p ∨ (x ∈ L ∧ x.1 ≠ p.1) := by
  unfold lay1
  split
  · rename_i q
    rw [List.mem_map]
    constructor
    · rintro ⟨y, hy, e⟩
      split at e
      · exact Or.inl e.symm
      · rename_i q2; subst e; exact Or.inr ⟨hy, q2⟩
    · rintro (rfl | ⟨h1, h2⟩)
      · obtain ⟨y, hy, e⟩ := List.mem_map.1 q
        exact ⟨y, hy, if_pos e⟩
      · exact ⟨x, h1, if_neg h2⟩
  · rename_i q
    rw [List.mem_append, List.mem_singleton]
    constructor
    · rintro (h | h)
      · exact Or.inr ⟨h, fun e => q (List.mem_map.2 ⟨x, h, e⟩)⟩
      · exact Or.inl h
    · rintro (h | ⟨h, _⟩)
      · exact Or.inr h
      · exact Or.inl h
theorem lastL_keys (ps : List (Int × Int)) : ((lastL ps).map Prod.fst).Nodup := by
  have : ∀ (ps L : List (Int × Int)), (L.map Prod.fst).Nodup → ((ps.foldl lay1 L).map Prod.fst).Nodup := by
    intro ps
    induction ps with
    | nil => exact fun L h => h
    | cons p ps ih => exact fun L h => ih _ (lay1_keys L p h)
  exact this ps [] (by simp)
theorem lay1_len (L : List (Int × Int)) (p : Int × Int) : (lay1 L p).length ≤ L.length + 1 := by
  unfold lay1
  split <;> simp
theorem lastL_len (ps : List (Int × Int)) : (lastL ps).length ≤ ps.length := by
  have : ∀ (ps L : List (Int × Int)), (ps.foldl lay1 L).length ≤ L.length + ps.length := by
    intro ps
    induction ps with
    | nil => exact fun L => by simp
    | cons p ps ih => intro L; have h1 := ih (lay1 L p); have h2 := lay1_len L p; rw [List.foldl_cons, List.length_cons]; omega
  have := this ps []
  show (ps.foldl lay1 []).length ≤ _
  simpa using this
/-- What is set is the last times. -/
theorem mem_last (ps : List (Int × Int)) (x : Int × Int) : x ∈ lastL ps ↔ x ∈ setAll [] ps := by
  have : ∀ (ps L S : List (Int × Int)), (∀ x, x ∈ L ↔ x ∈ S) → ∀ x, x ∈ ps.foldl lay1 L ↔ x ∈ setAll S ps := by
    intro ps
    induction ps with
    | nil => exact fun L S h => h
    | cons p ps ih =>
      intro L S h
      refine ih _ _ (fun x => ?_)
      rw [mem_lay1, mem_setS, h]
  exact this ps [] [] (fun _ => Iff.rfl) x
/-- Unlike keys are set in whatever order. -/
theorem mem_setAll : ∀ (Q : List (Int × Int)), (Q.map Prod.fst).Nodup → ∀ (S : List (Int × Int)) x, x ∈ setAll S Q ↔ x ∈ Q ∨ (x ∈ S ∧ x.1 ∉ Q.map Prod.fst)
  | [], _, S, x => by simp [setAll]
  | p :: Q, h, S, x => by
    rw [List.map_cons, List.nodup_cons] at h
    have e : setAll S (p :: Q) = setAll (setS OI S p.1 p.2) Q := rfl
    rw [e, mem_setAll Q h.2, mem_setS, List.mem_cons, List.map_cons, List.mem_cons]
    constructor
    · rintro (q | ⟨q | ⟨q, r⟩, s⟩)
      · exact Or.inl (Or.inr q)
      · exact Or.inl (Or.inl q)
      · exact Or.inr ⟨q, fun t => t.elim r s⟩
    · rintro ((q | q) | ⟨q, r⟩)
      · subst q; exact Or.inr ⟨Or.inl rfl, h.1⟩
      · exact Or.inl q
      · exact Or.inr ⟨Or.inr ⟨q, fun t => r (Or.inl t)⟩, fun t => r (Or.inr t)⟩
theorem setAll_last (ps : List (Int × Int)) : setAll [] (lastL ps).reverse = setAll [] ps := by
  refine srt_ext (O := OI) (setAll_srt List.Pairwise.nil _) (setAll_srt List.Pairwise.nil _) (fun x => ?_)
  rw [mem_setAll _ (by rw [List.map_reverse]; exact (List.reverse_perm _).nodup_iff.2 (lastL_keys ps)), List.mem_reverse, mem_last]
  simp
theorem setAll_last_len (ps : List (Int × Int)) : (setAll [] ps).length = (lastL ps).length := by
  have h1 : Srt OI (setAll [] ps) := setAll_srt List.Pairwise.nil _
  exact ((List.perm_ext_iff_of_nodup h1.nodup (nodup_pairs (lastL_keys ps))).2 (fun x => (mem_last ps x).symm)).length_eq
/-- All keys are taken out. -/
def cutAll (S : List (Int × Int)) (ps : List (Int × Int)) : List (Int × Int) := ps.foldl (fun S p => cutS S p.1) S
theorem cutAll_snoc (S ps : List (Int × Int)) (p : Int × Int) : cutAll S (ps ++ [p]) = cutS (cutAll S ps) p.1 := by simp [cutAll]
theorem mem_cutAll : ∀ (Q S : List (Int × Int)) x, x ∈ cutAll S Q ↔ x ∈ S ∧ x.1 ∉ Q.map Prod.fst
  | [], S, x => by simp [cutAll]
  | p :: Q, S, x => by
    have e : cutAll S (p :: Q) = cutAll (cutS S p.1) Q := rfl
    rw [e, mem_cutAll Q, mem_cutS, List.map_cons, List.mem_cons]
    constructor
    · rintro ⟨⟨q, r⟩, s⟩; exact ⟨q, fun t => t.elim r s⟩
    · rintro ⟨q, r⟩; exact ⟨⟨q, fun t => r (Or.inl t)⟩, fun t => r (Or.inr t)⟩
theorem keys_setAll : ∀ (Q S : List (Int × Int)) x, x ∈ setAll S Q → x ∈ S ∨ x.1 ∈ Q.map Prod.fst
  | [], S, x, h => Or.inl h
  | p :: Q, S, x, h => by
    rcases keys_setAll Q (setS OI S p.1 p.2) x h with q | q
    · rcases mem_setS.1 q with q | ⟨q, _⟩
      · subst q; right; simp
      · exact Or.inl q
    · right; rw [List.map_cons]; exact List.mem_cons_of_mem _ q
/-- Nothing is left. -/
theorem cut_none (ps : List (Int × Int)) (now : Int) : cutAll (leftS (setAll [] ps) now) ps = [] := by
  rw [List.eq_nil_iff_forall_not_mem]
  intro x hx
  obtain ⟨h1, h2⟩ := (mem_cutAll _ _ _).1 hx
  rcases keys_setAll ps [] x ((List.dropWhile_sublist _).subset h1) with q | q
  · cases q
  · exact h2 q
end Go.Proofs.Ytbopghpfghaoeaa
