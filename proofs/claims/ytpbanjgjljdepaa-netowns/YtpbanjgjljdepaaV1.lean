/- A map from numbers to structs, as a rising list. -/
import Derived.Test.YtpbanjgjljdepaaQ1
import Derived.Test.YtpbanjgjljdepaaSame
import Derived.WalkArith
import Derived.Maps.Range
import Derived.Maps.Ext
import Derived.Maps.RangeWalk
namespace Go.Proofs.Ytpbanjgjljdepaa
open Go.RowKit Go.Maps
set_option maxRecDepth 100000

theorem below_drewN (w : World) (m : Nat) : Below w.heap.size w (w.drewN m) := ⟨rfl, rfl, rfl, Nat.le_refl _, fun _ _ => rfl⟩
/-- A map's element is held as it is. -/
abbrev RV (v : Value) : Option (DataW Value × List MemPlace) := some (.held v, [])
/-- The datum of a map. -/
def vD (m : List (Int × Value)) : DataW Value := .map (m.map fun p => (.int .i64 p.1, .held p.2))
variable {α : Type}
def VRis (m : List (Int × α)) : Prop := m.Pairwise (fun p q => p.1 < q.1)
/-- What the map has at a key. -/
def vlk : List (Int × α) → Int → Option α
  | [], _ => none
  | p :: r, b => if p.1 = b then some p.2 else vlk r b
theorem vlk_cons (p : Int × α) (r : List (Int × α)) (b : Int) : vlk (p :: r) b = if p.1 = b then some p.2 else vlk r b := rfl
/-- The map with one more entry. -/
def vput : List (Int × α) → Int → α → List (Int × α)
  | [], b, g => [(b, g)]
  | p :: r, b, g => if b < p.1 then (b, g) :: p :: r else if b = p.1 then (b, g) :: r else p :: vput r b g
/-- The map without one. -/
def vcut (m : List (Int × α)) (b : Int) : List (Int × α) := m.filter fun p => p.1 != b
theorem vput_mem : ∀ {m : List (Int × α)} {b : Int} {g : α} {p : Int × α}, p ∈ vput m b g → p = (b, g) ∨ p ∈ m
  | [], b, g, p, h => by simp [vput] at h; exact Or.inl h
  | q :: r, b, g, p, h => by
    unfold vput at h
    split at h
    · rcases List.mem_cons.1 h with h | h
      · exact Or.inl h
      · exact Or.inr h
    · split at h
      · rcases List.mem_cons.1 h with h | h
        · exact Or.inl h
        · exact Or.inr (List.mem_cons_of_mem _ h)
      · rcases List.mem_cons.1 h with h | h
        · exact Or.inr (by rw [h]; simp)
        · rcases vput_mem h with h | h
          · exact Or.inl h
          · exact Or.inr (List.mem_cons_of_mem _ h)
theorem vput_ris : ∀ {m : List (Int × α)} (b : Int) (g : α), VRis m → VRis (vput m b g)
  | [], b, g, _ => by simp [vput, VRis]
  | q :: r, b, g, h => by
    obtain ⟨h1, h2⟩ := List.pairwise_cons.1 h
    unfold vput
    split
    · refine List.pairwise_cons.2 ⟨fun p hp => ?_, h⟩
      rcases List.mem_cons.1 hp with rfl | hp
      · assumption
      · have := h1 p hp; simp only; omega
    · split
      · rename_i hb
        exact List.pairwise_cons.2 ⟨fun p hp => by have := h1 p hp; simp only; omega, h2⟩
      · refine List.pairwise_cons.2 ⟨fun p hp => ?_, vput_ris b g h2⟩
        rcases vput_mem hp with rfl | hp
        · simp only; omega
        · exact h1 p hp
theorem vlk_vput : ∀ (m : List (Int × α)) (b : Int) (g : α) (x : Int), VRis m → vlk (vput m b g) x = if b = x then some g else vlk m x
  | [], b, g, x, _ => by simp [vput, vlk]
  | q :: r, b, g, x, h => by
    obtain ⟨h1, h2⟩ := List.pairwise_cons.1 h
    unfold vput
    split
    · simp [vlk]
    · split
      · rename_i h3 h4
        subst h4
        by_cases e : q.1 = x
        · simp [vlk, e]
        · simp [vlk, e]
      · rename_i h3 h4
        have ih := vlk_vput r b g x h2
        by_cases e : q.1 = x
        · have : ¬ b = x := by omega
          simp [vlk, e, this]
        · simp [vlk, e, ih]
theorem vlk_mem {m : List (Int × α)} (hr : VRis m) {p : Int × α} (h : p ∈ m) : vlk m p.1 = some p.2 := by
  induction m with
  | nil => cases h
  | cons q r ih =>
    obtain ⟨h1, h2⟩ := List.pairwise_cons.1 hr
    unfold vlk
    rcases List.mem_cons.1 h with rfl | h
    · rw [if_pos rfl]
    · rw [if_neg (by have := h1 p h; omega)]; exact ih h2 h
theorem mem_vlk {m : List (Int × α)} {b : Int} {g : α} (h : vlk m b = some g) : (b, g) ∈ m := by
  induction m with
  | nil => cases h
  | cons q r ih =>
    unfold vlk at h
    split at h
    · rename_i e; cases h; subst e; simp
    · exact List.mem_cons_of_mem _ (ih h)
theorem vcut_ris {m : List (Int × α)} (b : Int) (h : VRis m) : VRis (vcut m b) := List.Pairwise.filter _ h
theorem vlk_vcut (m : List (Int × α)) (b x : Int) : vlk (vcut m b) x = if x = b then none else vlk m x := by
  induction m with
  | nil => simp [vcut, vlk]
  | cons q r ih =>
    by_cases e : q.1 = b
    · have : vcut (q :: r) b = vcut r b := by simp [vcut, e]
      rw [this, ih, vlk_cons]
      by_cases k : x = b
      · rw [if_pos k, if_pos k]
      · rw [if_neg k, if_neg k, if_neg (by omega)]
    · have : vcut (q :: r) b = q :: vcut r b := by simp [vcut, e]
      rw [this, vlk_cons, vlk_cons, ih]
      by_cases k : x = b
      · rw [if_pos k, if_pos k, if_neg (by omega)]
      · rw [if_neg k, if_neg k]
theorem vD_canon {m : List (Int × Value)} (h : VRis m) : Canon (vD m) := by
  refine ⟨_, rfl, ?_, ?_⟩
  · rw [List.pairwise_map]
    exact h.imp (fun {p q} hpq => by simp [Lit.before]; omega)
  · intro p hp
    obtain ⟨q, _, rfl⟩ := List.mem_map.1 hp
    exact trivial
theorem vD_has (m : List (Int × Value)) (k : Lit) : has (vD m) k = m.any (fun p => (Lit.int .i64 p.1).sameKey k) := by
  simp [vD, has_eq, List.any_map, Function.comp_def]
theorem vD_has_int (m : List (Int × Value)) (b : Int) : has (vD m) (.int .i64 b) = (vlk m b).isSome := by
  rw [vD_has]
  induction m with
  | nil => rfl
  | cons q r ih =>
    rw [List.any_cons, ih, vlk_cons]
    by_cases e : q.1 = b
    · rw [if_pos e]; simp [Lit.sameKey, e]
    · rw [if_neg e]; simp [Lit.sameKey, e]
theorem vD_at (m : List (Int × Value)) (b : Int) (z : DataW Value) : (vD m).atKey (.int .i64 b) z = ((vlk m b).map DataW.held).getD z := by
  induction m with
  | nil => rfl
  | cons q r ih =>
    rw [vlk_cons]
    by_cases e : q.1 = b
    · rw [if_pos e]
      simp [vD, DataW.atKey, Lit.sameKey, e]
    · rw [if_neg e, ← ih]
      simp [vD, DataW.atKey, Lit.sameKey, e]
theorem vkey (b : Int) : WideAt.IsKeyLit (Lit.int .i64 b) := trivial
theorem same_int {k : Lit} {x : Int} (h : (Lit.int .i64 x).sameKey k = true) : k = .int .i64 x := by
  rcases k with _ | ⟨q, y⟩ | _ <;> simp [Lit.sameKey] at h
  obtain ⟨rfl, rfl⟩ := h; rfl
theorem vD_ext {m' : List (Int × Value)} {D : DataW Value} (hc : Canon D) (hr : VRis m') (h1 : ∀ x : Int, has D (.int .i64 x) = (vlk m' x).isSome) (h2 : ∀ k, (∀ x, k ≠ Lit.int .i64 x) → has D k = false) (h3 : ∀ x g z, vlk m' x = some g → D.atKey (.int .i64 x) z = .held g) : D = vD m' := by
  have hno : ∀ k, (∀ x, k ≠ Lit.int .i64 x) → has (vD m') k = false := fun k hk => by
    rw [vD_has, Bool.eq_false_iff]
    intro q
    obtain ⟨p, _, hs⟩ := List.any_eq_true.1 q
    exact hk p.1 (same_int hs)
  refine Maps.ext hc (vD_canon hr) (fun k => ?_) (fun k z hk => ?_)
  · by_cases e : ∃ x, k = Lit.int .i64 x
    · obtain ⟨x, rfl⟩ := e; rw [h1, vD_has_int]
    · rw [h2 k (fun x q => e ⟨x, q⟩), hno k (fun x q => e ⟨x, q⟩)]
  · by_cases e : ∃ x, k = Lit.int .i64 x
    · obtain ⟨x, rfl⟩ := e
      rw [h1] at hk
      obtain ⟨g, hg⟩ := Option.isSome_iff_exists.1 hk
      rw [h3 x g z hg, vD_at, hg]; rfl
    · rw [h2 k (fun x q => e ⟨x, q⟩)] at hk; cases hk
theorem vD_none {m : List (Int × Value)} {k : Lit} (hk : ∀ x, k ≠ Lit.int .i64 x) : has (vD m) k = false := by
  rw [vD_has, Bool.eq_false_iff]
  intro q
  obtain ⟨p, _, hs⟩ := List.any_eq_true.1 q
  exact hk p.1 (same_int hs)
theorem vD_put {m : List (Int × Value)} (hr : VRis m) (b : Int) (g : Value) (hc : Canon ((vD m).put (.int .i64 b) (.held g))) : (vD m).put (.int .i64 b) (.held g) = vD (vput m b g) := by
  have hM : IsMap (vD m) := ⟨_, rfl⟩
  refine vD_ext hc (vput_ris b g hr) (fun x => ?_) (fun k hk => ?_) (fun x v z hv => ?_)
  · rw [vlk_vput m b g x hr]
    by_cases e : b = x
    · subst e; rw [has_put_same hM (vkey b), if_pos rfl]; rfl
    · rw [has_put_other (fun q => e (by injection q with _ q; exact q.symm)), if_neg e, vD_has_int]
  · rw [has_put_other (hk b)]; exact vD_none hk
  · rw [vlk_vput m b g x hr] at hv
    by_cases e : b = x
    · subst e; rw [if_pos rfl] at hv; cases hv; exact atKey_put_same hM (vkey b) _ _
    · rw [if_neg e] at hv
      rw [atKey_put_other (fun q => e (by injection q with _ q; exact q.symm)), vD_at, hv]; rfl
theorem vD_del {m : List (Int × Value)} (hr : VRis m) (b : Int) (hc : Canon ((vD m).del (.int .i64 b))) : (vD m).del (.int .i64 b) = vD (vcut m b) := by
  refine vD_ext hc (vcut_ris b hr) (fun x => ?_) (fun k hk => ?_) (fun x v z hv => ?_)
  · rw [vlk_vcut m b x]
    by_cases e : x = b
    · subst e; rw [if_pos rfl, has_del_same]; rfl
    · rw [if_neg e, has_del_other (fun q => e (by injection q)), vD_has_int]
  · rw [has_del_other (hk b)]; exact vD_none hk
  · rw [vlk_vcut m b x] at hv
    by_cases e : x = b
    · rw [if_pos e] at hv; cases hv
    · rw [if_neg e] at hv
      rw [atKey_del_other (fun q => e (by injection q)), vD_at, hv]; rfl
/-- A map in memory. -/
structure Mv (w : World) (bm n : Nat) (m : List (Int × Value)) : Prop where
  own : w.ownsMap Try.prog 3 RV bm n (vD m)
  ris : VRis m
theorem Mv.turns {F : Nat → Prop} {w w' : World} {bm n : Nat} {m : List (Int × Value)} (h : Mv w bm n m) (t : Turns F w w') (hF : ¬ F bm) : Mv w' bm n m := ⟨map_turns h.own t hF, h.ris⟩
theorem Mv.len {w : World} {bm n : Nat} {m : List (Int × Value)} (h : Mv w bm n m) : m.length ≤ n := by
  have := h.own.size_le
  simpa [vD, Maps.size_eq] using this
theorem Mv.lt {w : World} {bm n : Nat} {m : List (Int × Value)} (h : Mv w bm n m) : bm < w.heap.size := h.own.lt
abbrev KeyI (b : Int) : Prop := -9223372036854775808 ≤ b ∧ b ≤ 9223372036854775807
theorem vkey_mk {b : Int} (h : KeyI b) : keyOf Try.prog 3 (.int .i64 b) = some (.int .i64 b) := keyOf_int_mk Try.underlying3 (q := .i64) (WalkArith.wf_i64 h)
theorem lawI : Keyed Try.prog 3 := int_keyed Try.underlying3
theorem Mv.tight {w : World} {bm n : Nat} {m : List (Int × Value)} (h : Mv w bm n m) : Mv w bm m.length m := by
  refine ⟨?_, h.ris⟩
  obtain ⟨es0, clock, hb, F, hs, hD0⟩ := h.own
  refine ⟨es0, clock, hb, F, ?_, hD0⟩
  have e1 : es0.size = m.length := by
    have := hD0
    unfold vD at this
    injection this with this
    have := congrArg List.length this
    rw [length_sorted] at this
    simpa using this.symm
  exact Nat.le_of_eq e1
/-- The least key, or x. -/
def vmin (m : List (Int × α)) (x : Int) : Int := match m with
  | [] => x
  | p :: _ => p.1
theorem vput_map {β : Type} (f : α → β) (b : Int) (g : α) : ∀ m : List (Int × α), (vput m b g).map (fun p => (p.1, f p.2)) = vput (m.map fun p => (p.1, f p.2)) b (f g)
  | [] => rfl
  | q :: r => by
    simp only [vput, List.map_cons]
    split
    · rfl
    · split
      · rfl
      · rw [List.map_cons, vput_map f b g r]
theorem vcut_map {β : Type} (f : α → β) (b : Int) (m : List (Int × α)) : (vcut m b).map (fun p => (p.1, f p.2)) = vcut (m.map fun p => (p.1, f p.2)) b := by
  unfold vcut; rw [List.filter_map]; rfl
theorem vlk_map {β : Type} (f : α → β) (b : Int) : ∀ m : List (Int × α), vlk (m.map fun p => (p.1, f p.2)) b = (vlk m b).map f
  | [] => rfl
  | q :: r => by
    rw [List.map_cons, vlk_cons, vlk_cons, vlk_map f b r]
    by_cases e : q.1 = b
    · rw [if_pos e, if_pos e]; rfl
    · rw [if_neg e, if_neg e]
theorem vris_map {β : Type} (f : α → β) {m : List (Int × α)} (h : VRis m) : VRis (m.map fun p => (p.1, f p.2)) := List.pairwise_map.2 h
theorem vris_of {β : Type} {f : α → β} {m : List (Int × α)} (h : VRis (m.map fun p => (p.1, f p.2))) : VRis m := by unfold VRis at h ⊢; rw [List.pairwise_map] at h; exact h
theorem vput_len (b : Int) (g : α) : ∀ m : List (Int × α), (vput m b g).length ≤ m.length + 1
  | [] => by simp [vput]
  | q :: r => by
    have := vput_len b g r
    simp only [vput]
    split
    · simp
    · split
      · simp
      · simp; omega
/-- A new key behind all others. -/
theorem vput_end (b : Int) (g : α) : ∀ m : List (Int × α), (∀ p ∈ m, p.1 < b) → vput m b g = m ++ [(b, g)]
  | [], _ => rfl
  | q :: r, h => by
    have h1 := h q (by simp)
    rw [vput, if_neg (by omega), if_neg (by omega), vput_end b g r (fun p hp => h p (by simp [hp]))]; rfl
theorem vput_keys (b : Int) (g : α) : ∀ m : List (Int × α), (vlk m b).isSome = true → (vput m b g).map Prod.fst = m.map Prod.fst ∨ ¬ VRis m
  | [], h => by cases h
  | q :: r, h => by
    by_cases hr : VRis (q :: r)
    · obtain ⟨h1, h2⟩ := List.pairwise_cons.1 hr
      left
      rw [vlk_cons] at h
      by_cases e : q.1 = b
      · simp only [vput]; rw [if_neg (by omega), if_pos e.symm]; simp [e]
      · rw [if_neg e] at h
        obtain ⟨v, hv⟩ := Option.isSome_iff_exists.1 h
        have := h1 _ (mem_vlk hv)
        simp only at this
        simp only [vput]; rw [if_neg (by omega), if_neg (fun q => e q.symm)]
        rcases vput_keys b g r h with k | k
        · rw [List.map_cons, k, List.map_cons]
        · exact absurd h2 k
    · exact Or.inr hr
end Go.Proofs.Ytpbanjgjljdepaa
