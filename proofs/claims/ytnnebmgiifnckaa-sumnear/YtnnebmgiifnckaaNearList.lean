/- Of lists: a change within four neighbouring bytes; what the statement's loop makes. -/
import Derived.Test.YtnnebmgiifnckaaNearMath
import Derived.Test.YtnnebmgiifnckaaMore
namespace Go.Proofs.Ytnnebmgiifnckaa
open Go.RowKit
set_option maxRecDepth 100000

theorem near4L {g : Int} {X Y : List Int} (hg : U g) (hX : X.length = 4) (hY : Y.length = 4) (hx : ∀ x ∈ X, By x) (hy : ∀ x ∈ Y, By x) (h : fwd g X = fwd g Y) : X = Y := by
  match X, Y, hX, hY with
  | [a0, a1, a2, a3], [b0, b1, b2, b3], _, _ =>
    obtain ⟨rfl, rfl, rfl, rfl⟩ := near4 hg (hx a0 (by simp)) (hx a1 (by simp)) (hx a2 (by simp)) (hx a3 (by simp)) (hy b0 (by simp)) (hy b1 (by simp)) (hy b2 (by simp)) (hy b3 (by simp)) h
    rfl

theorem nearL {g : Int} {X Y : List Int} (hg : U g) (hX : X.length ≤ 4) (hY : X.length = Y.length) (hx : ∀ x ∈ X, By x) (hy : ∀ x ∈ Y, By x) (h : fwd g X = fwd g Y) : X = Y := by
  have hz : ∀ x ∈ List.replicate (4 - X.length) (0 : Int), By x := fun x hx => by
    rw [List.eq_of_mem_replicate hx]; decide
  have e := near4L (X := X ++ List.replicate (4 - X.length) 0) (Y := Y ++ List.replicate (4 - X.length) 0) hg (by simp; omega) (by simp; omega)
    (fun x h => (List.mem_append.1 h).elim (hx x) (hz x)) (fun x h => (List.mem_append.1 h).elim (hy x) (hz x)) (by rw [fwd_append, fwd_append, h])
  exact List.append_cancel_right e

theorem near_lists {h : Int} {bs cs : List Int} (a : Nat) (hh : U h) (hl : bs.length = cs.length) (hb : ∀ x ∈ bs, By x) (hc : ∀ x ∈ cs, By x) (ht : bs.take a = cs.take a) (hd : bs.drop (a + 4) = cs.drop (a + 4)) :
    fwd h bs = fwd h cs ↔ bs = cs := by
  refine ⟨fun e => ?_, fun e => by rw [e]⟩
  have split : ∀ l : List Int, l = l.take a ++ ((l.drop a).take 4 ++ l.drop (a + 4)) := fun l => by
    rw [← List.drop_drop, List.take_append_drop, List.take_append_drop]
  have mem : ∀ {l : List Int}, (∀ x ∈ l, By x) → ∀ x ∈ (l.drop a).take 4, By x := fun h x hx => h x (List.mem_of_mem_drop (List.mem_of_mem_take hx))
  rw [split bs, split cs, fwd_append, fwd_append, fwd_append, fwd_append, ht, hd] at e
  have hsuf : ∀ x ∈ cs.drop (a + 4), By x := fun x hx => hc x (List.mem_of_mem_drop hx)
  have e2 := (fwd_inj _ hsuf (U.fwd _ (U.fwd _ hh)) (U.fwd _ (U.fwd _ hh))).1 e
  have e3 := nearL (U.fwd _ hh) (by simp; omega) (by simp; omega) (mem hb) (mem hc) e2
  rw [split bs, split cs, ht, hd, e3]

/-- What the statement's loop has made behind k rounds. -/
def mix (bs : List Int) (a : Nat) (xs : List Int) (k : Nat) : List Int :=
  (List.range bs.length).map fun j => if a ≤ j ∧ j < a + k then bits .xor .u8 (bs.getD j 0) (xs.getD (j - a) 0) else bs.getD j 0
theorem mix_length (bs : List Int) (a : Nat) (xs : List Int) (k : Nat) : (mix bs a xs k).length = bs.length := by simp [mix]
theorem mix_get (bs : List Int) (a : Nat) (xs : List Int) (k j : Nat) (hj : j < bs.length) : (mix bs a xs k).getD j 0 = if a ≤ j ∧ j < a + k then bits .xor .u8 (bs.getD j 0) (xs.getD (j - a) 0) else bs.getD j 0 := by
  simp [mix, List.getD, hj]
theorem ext_getD {xs ys : List Int} (hl : xs.length = ys.length) (h : ∀ j, j < xs.length → xs.getD j 0 = ys.getD j 0) : xs = ys := by
  refine List.ext_getElem hl fun j h1 h2 => ?_
  have := h j h1
  simpa [List.getD, h1, h2] using this
theorem mix_zero (bs : List Int) (a : Nat) (xs : List Int) : mix bs a xs 0 = bs := by
  refine ext_getD (mix_length ..) fun j hj => ?_
  rw [mix_length] at hj
  rw [mix_get _ _ _ _ _ hj, if_neg (by omega)]
theorem getD_set (l : List Int) (i j : Nat) (v : Int) (hj : j < l.length) : (l.set i v).getD j 0 = if i = j then v else l.getD j 0 := by
  simp only [List.getD, List.getElem?_set]
  by_cases h : i = j
  · subst h; simp [hj]
  · simp [h]
theorem mix_succ (bs : List Int) (a : Nat) (xs : List Int) (k : Nat) (hk : a + k < bs.length) : (mix bs a xs k).set (a + k) (bits .xor .u8 ((mix bs a xs k).getD (a + k) 0) (xs.getD k 0)) = mix bs a xs (k + 1) := by
  refine ext_getD (by simp [mix_length]) fun j hj => ?_
  rw [List.length_set, mix_length] at hj
  have e := mix_get bs a xs k (a + k) hk
  rw [if_neg (by omega)] at e
  rw [getD_set _ _ _ _ (by rw [mix_length]; exact hj), e, mix_get _ _ _ _ _ hj, mix_get _ _ _ _ _ hj]
  by_cases h : a + k = j
  · subst h
    rw [if_pos rfl, if_pos (by omega), Nat.add_sub_cancel_left]
  · rw [if_neg h]
    by_cases h2 : a ≤ j ∧ j < a + k
    · rw [if_pos h2, if_pos (by omega)]
    · rw [if_neg h2, if_neg (by omega)]

theorem xor8N {a b : Int} (ha : By a) (hb : By b) : bits .xor .u8 a b = ((a.toNat ^^^ b.toNat : Nat) : Int) := by
  have h1 := ha.1; have h2 := ha.2; have h3 := hb.1; have h4 := hb.2
  exact u8_xor a b h1 (by omega) h3 (by omega)
theorem By.xor {a b : Int} (ha : By a) (hb : By b) : By (bits .xor .u8 a b) := by
  rw [xor8N ha hb]
  have h1 := ha.1; have h2 := ha.2; have h3 := hb.1; have h4 := hb.2
  have : a.toNat ^^^ b.toNat < 2 ^ 8 := Nat.xor_lt_two_pow (by omega) (by omega)
  exact ⟨by omega, by omega⟩
theorem xor8_same {a x : Int} (ha : By a) (hx : By x) : bits .xor .u8 a x = a ↔ x = 0 := by
  rw [xor8N ha hx]
  have h1 := ha.1; have h3 := hx.1
  constructor
  · intro h
    have h' : a.toNat ^^^ x.toNat = a.toNat := by omega
    have : x.toNat = 0 := by
      have e := congrArg (fun t => a.toNat ^^^ t) h'
      simp only [← Nat.xor_assoc, Nat.xor_self, Nat.zero_xor] at e
      exact e
    omega
  · intro h
    subst h
    simp; omega
theorem mix_by {bs xs : List Int} (a k : Nat) (hb : ∀ x ∈ bs, By x) (hx : ∀ j, By (xs.getD j 0)) : ∀ x ∈ mix bs a xs k, By x := by
  intro x hxm
  simp only [mix, List.mem_map, List.mem_range] at hxm
  obtain ⟨j, hj, rfl⟩ := hxm
  have h1 := by_getD hb hj
  split
  · exact h1.xor (hx _)
  · exact h1
theorem mix_same {bs xs : List Int} {a k : Nat} (hb : ∀ x ∈ bs, By x) (hx : ∀ j, By (xs.getD j 0)) (hk : a + k ≤ bs.length) : bs = mix bs a xs k ↔ ∀ j, j < k → xs.getD j 0 = 0 := by
  constructor
  · intro h j hj
    have e := mix_get bs a xs k (a + j) (by omega)
    rw [← h, if_pos (by omega), Nat.add_sub_cancel_left] at e
    exact (xor8_same (by_getD hb (by omega)) (hx j)).1 e.symm
  · intro h
    refine ext_getD (mix_length ..).symm fun j hj => ?_
    rw [mix_get _ _ _ _ _ hj]
    split
    · rename_i hc
      rw [h _ (by omega)]
      exact ((xor8_same (by_getD hb hj) (by decide)).2 rfl).symm
    · rfl
theorem mix_take (bs xs : List Int) (a k : Nat) : bs.take a = (mix bs a xs k).take a := by
  refine ext_getD (by simp [mix_length]) fun j hj => ?_
  simp only [List.length_take] at hj
  have := mix_get bs a xs k j (by omega)
  rw [if_neg (by omega)] at this
  simp only [List.getD, List.getElem?_take] at this ⊢
  rw [if_pos (by omega), if_pos (by omega), this]
theorem mix_drop (bs xs : List Int) (a k : Nat) (hk : k ≤ 4) : bs.drop (a + 4) = (mix bs a xs k).drop (a + 4) := by
  refine ext_getD (by simp [mix_length]) fun j hj => ?_
  simp only [List.length_drop] at hj
  have := mix_get bs a xs k (a + 4 + j) (by omega)
  rw [if_neg (by omega)] at this
  simp only [List.getD, List.getElem?_drop] at this ⊢
  rw [this]
/-- Is one of the first k bytes not zero? -/
def unl (xs : List Int) (k : Nat) : Bool := (List.range k).any (fun j => xs.getD j 0 != 0)
theorem unl_succ (xs : List Int) (k : Nat) : unl xs (k + 1) = (unl xs k || (xs.getD k 0 != 0)) := by
  simp [unl, List.range_succ]
/-- Unlike just where a byte that is not zero was laid over. -/
theorem mix_told {h : Int} {bs xs : List Int} {a k : Nat} (hh : U h) (hb : ∀ x ∈ bs, By x) (hx : ∀ j, By (xs.getD j 0)) (hk4 : k ≤ 4) (hk : a + k ≤ bs.length) :
    (fwd h bs != fwd h (mix bs a xs k)) = unl xs k := by
  have e := (near_lists (h := h) a hh (mix_length bs a xs k).symm hb (mix_by a k hb hx) (mix_take ..) (mix_drop _ _ _ _ hk4)).trans (mix_same hb hx hk)
  rw [Bool.eq_iff_iff]
  simp only [bne_iff_ne, ne_eq, e, unl, List.any_eq_true, List.mem_range]
  constructor
  · intro hne
    exact Classical.byContradiction fun hno => hne fun j hj => Classical.byContradiction fun hz => hno ⟨j, hj, hz⟩
  · rintro ⟨j, hj, hz⟩ hall
    exact hz (hall j hj)
end Go.Proofs.Ytnnebmgiifnckaa
