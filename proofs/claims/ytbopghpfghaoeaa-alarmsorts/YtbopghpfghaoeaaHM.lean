/- The mathematics of a heap of timers: the order, the heap with a gap, the places of the keys. -/
import Derived.Test.YtbopghpfghaoeaaTurns
namespace Go.Proofs.Ytbopghpfghaoeaa
set_option maxRecDepth 100000

/-- An order of keys. -/
structure Kord (κ : Type) where
  lt : κ → κ → Bool
  irr : ∀ a, lt a a = false
  tr : ∀ a b c, lt a b = true → lt b c = true → lt a c = true
  tot : ∀ a b, lt a b = false → lt b a = false → a = b
variable {κ : Type} (O : Kord κ)
/-- x is ahead of y. -/
def ah (x y : κ × Int) : Bool := decide (x.2 < y.2) || (decide (x.2 = y.2) && O.lt x.1 y.1)
theorem ah_iff (x y : κ × Int) : ah O x y = true ↔ x.2 < y.2 ∨ (x.2 = y.2 ∧ O.lt x.1 y.1 = true) := by simp [ah]
theorem ah_irr (x : κ × Int) : ah O x x = false := by simp [ah, O.irr]
theorem ah_tr {x y z : κ × Int} (h : ah O x y = true) (k : ah O y z = true) : ah O x z = true := by
  rw [ah_iff] at *
  rcases h with h | ⟨h, h'⟩ <;> rcases k with k | ⟨k, k'⟩
  · left; omega
  · left; omega
  · left; omega
  · right; exact ⟨by omega, O.tr _ _ _ h' k'⟩
theorem ah_as {x y : κ × Int} (h : ah O x y = true) : ah O y x = false := by
  cases e : ah O y x
  · rfl
  · have := ah_tr O h e; rw [ah_irr] at this; cases this
theorem ah_tot {x y : κ × Int} (h : ah O x y = false) (k : ah O y x = false) : x = y := by
  have h1 : ¬ ah O x y = true := by rw [h]; decide
  have h2 : ¬ ah O y x = true := by rw [k]; decide
  rw [ah_iff] at h1 h2
  have e : x.2 = y.2 := by omega
  have a1 : O.lt x.1 y.1 = false := by
    cases q : O.lt x.1 y.1
    · rfl
    · exact absurd (Or.inr ⟨e, q⟩) h1
  have a2 : O.lt y.1 x.1 = false := by
    cases q : O.lt y.1 x.1
    · rfl
    · exact absurd (Or.inr ⟨e.symm, q⟩) h2
  exact Prod.ext (O.tot _ _ a1 a2) e
/-- z is not ahead of y, y not of x: z is not ahead of x. -/
theorem le_tr {x y z : κ × Int} (h : ah O y x = false) (k : ah O z y = false) : ah O z x = false := by
  cases e : ah O z x
  · rfl
  · cases q : ah O x y
    · obtain rfl := ah_tot O h q; rw [e] at k; cases k
    · have := ah_tr O e q; rw [this] at k; cases k

/-- No timer is ahead of the one above it. -/
def Hp (l : List (κ × Int)) : Prop := ∀ (j : Nat) x y, 0 < j → l[j]? = some x → l[(j - 1) / 2]? = some y → ah O x y = false
/-- .. the place i being a gap. -/
structure HpG (l : List (κ × Int)) (i : Nat) : Prop where
  far : ∀ (j : Nat) x y, 0 < j → j ≠ i → (j - 1) / 2 ≠ i → l[j]? = some x → l[(j - 1) / 2]? = some y → ah O x y = false
  near : ∀ (j : Nat) x y, 0 < i → 0 < j → (j - 1) / 2 = i → l[j]? = some x → l[(i - 1) / 2]? = some y → ah O x y = false
variable {O}
theorem Hp.gap {l : List (κ × Int)} (h : Hp O l) (i : Nat) : HpG O l i := by
  refine ⟨fun j x y hj _ _ h1 h2 => h j x y hj h1 h2, fun j x y hi hj hji h1 h2 => ?_⟩
  have hl : j < l.length := (List.getElem?_eq_some_iff.1 h1).1
  have hil : i < l.length := by omega
  have e1 := h j x l[i] hj h1 (by rw [hji]; exact List.getElem?_eq_getElem hil)
  have e2 := h i l[i] y hi (List.getElem?_eq_getElem hil) h2
  exact le_tr O e2 e1
theorem Hp.take {l : List (κ × Int)} (h : Hp O l) (n : Nat) : Hp O (l.take n) := fun j x y hj h1 h2 => by
  rw [List.getElem?_take] at h1 h2
  split at h1
  · split at h2
    · exact h j x y hj h1 h2
    · cases h2
  · cases h1
theorem Hp.snoc {l : List (κ × Int)} (h : Hp O l) (x : κ × Int) : HpG O (l ++ [x]) l.length := by
  refine ⟨fun j u v hj hne _ h1 h2 => ?_, fun j u v _ hj hji h1 _ => ?_⟩
  · have hl : j < (l ++ [x]).length := (List.getElem?_eq_some_iff.1 h1).1
    simp at hl
    rw [List.getElem?_append_left (by omega)] at h1 h2
    exact h j u v hj h1 h2
  · have hl : j < (l ++ [x]).length := (List.getElem?_eq_some_iff.1 h1).1
    simp at hl
    omega
theorem HpG.rise {l : List (κ × Int)} {i : Nat} (h : HpG O l i) (hi : 0 < i) (hl : i < l.length) {y : κ × Int} (hy : l[(i - 1) / 2]? = some y) : HpG O (l.set i y) ((i - 1) / 2) := by
  refine ⟨fun j u v hj h1 h2 h3 h4 => ?_, fun j u v hp hj hji h3 h4 => ?_⟩
  · rw [List.getElem?_set] at h3 h4
    by_cases e : j = i
    · subst e; exact absurd rfl h2
    · rw [if_neg (Ne.symm e)] at h3
      by_cases e2 : (j - 1) / 2 = i
      · rw [if_pos e2.symm, if_pos hl] at h4
        cases h4
        exact h.near j u y hi hj e2 h3 hy
      · rw [if_neg (Ne.symm e2)] at h4
        exact h.far j u v hj e e2 h3 h4
  · rw [List.getElem?_set] at h3 h4
    rw [if_neg (by omega)] at h4
    have hyv := h.far ((i - 1) / 2) y v hp (by omega) (by omega) hy h4
    by_cases e : i = j
    · subst e
      rw [if_pos rfl, if_pos hl] at h3
      cases h3
      exact hyv
    · rw [if_neg e] at h3
      exact le_tr O hyv (h.far j u y hj (Ne.symm e) (by omega) h3 (by rw [hji]; exact hy))
theorem HpG.sink {l : List (κ × Int)} {i c : Nat} (h : HpG O l i) (hl : i < l.length) (hc : 0 < c) (hci : (c - 1) / 2 = i) {y : κ × Int} (hy : l[c]? = some y) (hb : ∀ (j : Nat) x, 0 < j → (j - 1) / 2 = i → l[j]? = some x → ah O x y = false) : HpG O (l.set i y) c := by
  refine ⟨fun j u v hj h1 h2 h3 h4 => ?_, fun j u v hp hj hji h3 h4 => ?_⟩
  · rw [List.getElem?_set] at h3 h4
    by_cases e : i = j
    · subst e
      rw [if_pos rfl, if_pos hl] at h3
      cases h3
      rw [if_neg (by omega)] at h4
      exact h.near c y v hj hc hci hy h4
    · rw [if_neg e] at h3
      by_cases e2 : i = (j - 1) / 2
      · rw [if_pos e2, if_pos hl] at h4
        cases h4
        exact hb j u hj e2.symm h3
      · rw [if_neg e2] at h4
        exact h.far j u v hj (Ne.symm e) (Ne.symm e2) h3 h4
  · rw [List.getElem?_set, hci] at h4
    rw [if_pos rfl, if_pos hl] at h4
    cases h4
    rw [List.getElem?_set, if_neg (by omega)] at h3
    exact h.far j u y hj (by omega) (by omega) h3 (by rw [hji]; exact hy)
theorem HpG.done {l : List (κ × Int)} {i : Nat} (h : HpG O l i) (hl : i < l.length) (x : κ × Int) (h1 : 0 < i → ∀ y, l[(i - 1) / 2]? = some y → ah O x y = false) (h2 : ∀ (j : Nat) y, 0 < j → (j - 1) / 2 = i → l[j]? = some y → ah O y x = false) : Hp O (l.set i x) := fun j u v hj h3 h4 => by
  rw [List.getElem?_set] at h3 h4
  by_cases e : i = j
  · subst e
    rw [if_pos rfl, if_pos hl] at h3
    cases h3
    rw [if_neg (by omega)] at h4
    exact h1 hj v h4
  · rw [if_neg e] at h3
    by_cases e2 : i = (j - 1) / 2
    · rw [if_pos e2, if_pos hl] at h4
      cases h4
      exact h2 j u hj e2.symm h3
    · rw [if_neg e2] at h4
      exact h.far j u v hj (Ne.symm e) (Ne.symm e2) h3 h4
/-- The first one is ahead of all others. -/
theorem Hp.first {l : List (κ × Int)} (h : Hp O l) {m : κ × Int} (hm : l[0]? = some m) : ∀ (n j : Nat) x, j < n → l[j]? = some x → ah O x m = false := by
  intro n
  induction n with
  | zero => intro j x hj; omega
  | succ n ih =>
    intro j x hj hx
    by_cases e : j = 0
    · subst e; rw [hm] at hx; cases hx; exact ah_irr O m
    · have hl : j < l.length := (List.getElem?_eq_some_iff.1 hx).1
      have hp : (j - 1) / 2 < l.length := by omega
      have e1 := h j x _ (by omega) hx (List.getElem?_eq_getElem hp)
      exact le_tr O (ih ((j - 1) / 2) _ (by omega) (List.getElem?_eq_getElem hp)) e1

variable [DecidableEq κ]
/-- The gap moves. -/
theorem swap_perm {l : List (κ × Int)} {i q : Nat} (hne : i ≠ q) (hi : i < l.length) {y : κ × Int} (hy : l[q]? = some y) (x : κ × Int) : ((l.set i y).set q x).Perm (l.set i x) := by
  obtain ⟨hq, hy⟩ := List.getElem?_eq_some_iff.1 hy
  rw [List.perm_iff_count]
  intro a
  have hc1 : (if (l[i] == a) = true then 1 else 0) ≤ List.count a l := by
    split
    · rename_i e
      exact List.count_pos_iff.2 (by rw [← eq_of_beq e]; exact List.getElem_mem _)
    · omega
  rw [List.count_set (by simpa using hq), List.count_set hi, List.count_set hi, List.getElem_set_ne hne, hy]
  omega
/-- The keys are unlike, and their places are told: f is the map, i the gap, x what will be laid there. -/
structure MG (f : κ → Option Nat) (l : List (κ × Int)) (i : Nat) (x : κ × Int) : Prop where
  hi : i < l.length
  nd : ((l.set i x).map Prod.fst).Nodup
  pl : ∀ (j : Nat) y, j ≠ i → l[j]? = some y → f y.1 = some j
  dom : ∀ k, (f k).isSome = true → k ∈ (l.set i x).map Prod.fst
/-- A key's place is told anew. -/
def upd (f : κ → Option Nat) (k : κ) (n : Nat) : κ → Option Nat := fun a => if a = k then some n else f a
def del (f : κ → Option Nat) (k : κ) : κ → Option Nat := fun a => if a = k then none else f a
omit [DecidableEq κ] in
theorem key_inj {l : List (κ × Int)} (h : (l.map Prod.fst).Nodup) {i j : Nat} {x y : κ × Int} (hi : l[i]? = some x) (hj : l[j]? = some y) (e : x.1 = y.1) : i = j := by
  obtain ⟨h1, rfl⟩ := List.getElem?_eq_some_iff.1 hi
  obtain ⟨h2, rfl⟩ := List.getElem?_eq_some_iff.1 hj
  refine (List.getElem_inj (xs := l.map Prod.fst) (h₀ := by simpa using h1) (h₁ := by simpa using h2) h).1 ?_
  simpa using e
theorem MG.move {f : κ → Option Nat} {l : List (κ × Int)} {i q : Nat} {x y : κ × Int} (h : MG f l i x) (hne : i ≠ q) (hy : l[q]? = some y) : MG (upd f y.1 i) (l.set i y) q x := by
  have hp := swap_perm hne h.hi hy x
  have hyx : (l.set i x)[q]? = some y := by rw [List.getElem?_set_ne hne]; exact hy
  refine ⟨by simpa using (List.getElem?_eq_some_iff.1 hy).1, (hp.map Prod.fst).nodup_iff.2 h.nd, fun j z hj hz => ?_, fun k hk => ?_⟩
  · rw [List.getElem?_set] at hz
    unfold upd
    by_cases e : i = j
    · subst e
      rw [if_pos rfl, if_pos h.hi] at hz
      cases hz
      simp
    · rw [if_neg e] at hz
      have hzx : (l.set i x)[j]? = some z := by rw [List.getElem?_set_ne e]; exact hz
      rw [if_neg (fun e2 => hj (key_inj h.nd hzx hyx e2))]
      exact h.pl j z (Ne.symm e) hz
  · rw [(hp.map Prod.fst).mem_iff]
    unfold upd at hk
    by_cases e : k = y.1
    · rw [e]; exact List.mem_map.2 ⟨y, List.mem_of_getElem? hyx, rfl⟩
    · rw [if_neg e] at hk; exact h.dom k hk
/-- All places are told. -/
structure Mp (f : κ → Option Nat) (l : List (κ × Int)) : Prop where
  nd : (l.map Prod.fst).Nodup
  pl : ∀ (j : Nat) y, l[j]? = some y → f y.1 = some j
  dom : ∀ k, (f k).isSome = true → k ∈ l.map Prod.fst
theorem MG.done {f : κ → Option Nat} {l : List (κ × Int)} {i : Nat} {x : κ × Int} (h : MG f l i x) : Mp (upd f x.1 i) (l.set i x) := by
  have hx : (l.set i x)[i]? = some x := by rw [List.getElem?_set, if_pos rfl, if_pos h.hi]
  refine ⟨h.nd, fun j y hy => ?_, fun k hk => ?_⟩
  · unfold upd
    by_cases e : i = j
    · subst e
      rw [hx] at hy; cases hy
      simp
    · rw [if_neg (fun e2 => e (key_inj h.nd hx hy e2.symm))]
      rw [List.getElem?_set_ne e] at hy
      exact h.pl j y (Ne.symm e) hy
  · unfold upd at hk
    by_cases e : k = x.1
    · rw [e]; exact List.mem_map.2 ⟨x, List.mem_of_getElem? hx, rfl⟩
    · rw [if_neg e] at hk; exact h.dom k hk
omit [DecidableEq κ] in
theorem Mp.at {f : κ → Option Nat} {l : List (κ × Int)} (h : Mp f l) {k : κ} {n : Nat} (hk : f k = some n) : ∃ a, l[n]? = some (k, a) := by
  obtain ⟨y, hy, rfl⟩ := List.mem_map.1 (h.dom k (by rw [hk]; rfl))
  obtain ⟨j, hj⟩ := List.mem_iff_getElem?.1 hy
  have := h.pl j y hj
  rw [hk] at this
  cases this
  exact ⟨y.2, hj⟩
omit [DecidableEq κ] in
theorem Mp.no {f : κ → Option Nat} {l : List (κ × Int)} (h : Mp f l) {k : κ} (hk : f k = none) : k ∉ l.map Prod.fst := fun hm => by
  obtain ⟨y, hy, rfl⟩ := List.mem_map.1 hm
  obtain ⟨j, hj⟩ := List.mem_iff_getElem?.1 hy
  rw [h.pl j y hj] at hk; cases hk
omit [DecidableEq κ] in
theorem Mp.same {f : κ → Option Nat} {l : List (κ × Int)} (h : Mp f l) {n : Nat} {k : κ} {a b : Int} (hn : l[n]? = some (k, a)) : MG f l n (k, b) := by
  have hl := (List.getElem?_eq_some_iff.1 hn).1
  have e : (l.set n (k, b)).map Prod.fst = l.map Prod.fst := by
    rw [List.map_set]
    apply List.ext_getElem?
    intro j
    rw [List.getElem?_set]
    split
    · rename_i q; subst q
      simp [hl]
      have := (List.getElem?_eq_some_iff.1 hn).2
      rw [this]
    · rfl
  exact ⟨hl, by rw [e]; exact h.nd, fun j y _ hy => h.pl j y hy, fun k hk => by rw [e]; exact h.dom k hk⟩
omit [DecidableEq κ] in
theorem Mp.snoc {f : κ → Option Nat} {l : List (κ × Int)} (h : Mp f l) {x : κ × Int} (hk : f x.1 = none) : MG f (l ++ [x]) l.length x := by
  have e : (l ++ [x]).set l.length x = l ++ [x] := by simp
  refine ⟨by simp, ?_, fun j y hj hy => ?_, fun k hk2 => ?_⟩
  · rw [e, List.map_append, List.nodup_append]
    refine ⟨h.nd, by simp, fun a ha b hb => ?_⟩
    simp at hb
    subst hb
    rintro rfl
    exact h.no hk ha
  · have hl : j < (l ++ [x]).length := (List.getElem?_eq_some_iff.1 hy).1
    simp at hl
    rw [List.getElem?_append_left (by omega)] at hy
    exact h.pl j y hy
  · rw [e, List.map_append]
    exact List.mem_append_left _ (h.dom k hk2)
end Go.Proofs.Ytbopghpfghaoeaa
