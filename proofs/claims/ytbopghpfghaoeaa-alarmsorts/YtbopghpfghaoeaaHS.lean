/- The mathematics of an alarm: the keys with their times, the first ones first; what stays when one goes. -/
import Derived.Test.YtbopghpfghaoeaaHM
namespace Go.Proofs.Ytbopghpfghaoeaa
set_option maxRecDepth 100000
variable {κ : Type} {O : Kord κ}

theorem nodup_of {l : List (κ × Int)} (h : ∀ (i j : Nat) x y, l[i]? = some x → l[j]? = some y → x.1 = y.1 → i = j) : (l.map Prod.fst).Nodup := by
  unfold List.Nodup
  rw [List.pairwise_iff_getElem]
  intro i j hi hj hij e
  simp at hi hj
  have := h i j _ _ (List.getElem?_eq_getElem hi) (List.getElem?_eq_getElem hj) (by simpa using e)
  omega
theorem nodup_pairs {l : List (κ × Int)} (h : (l.map Prod.fst).Nodup) : l.Nodup := by
  unfold List.Nodup
  rw [List.pairwise_iff_getElem]
  intro i j hi hj hij e
  have := key_inj h (List.getElem?_eq_getElem hi) (List.getElem?_eq_getElem hj) (by rw [e])
  omega
/-- Keys and times, the first ones first. -/
def Srt (O : Kord κ) (S : List (κ × Int)) : Prop := S.Pairwise (fun x y => ah O x y = true)
theorem Srt.nodup {S : List (κ × Int)} (h : Srt O S) : S.Nodup := List.Pairwise.imp (fun {a b} q e => by subst e; rw [ah_irr] at q; cases q) h
theorem srt_ext {S T : List (κ × Int)} (h : Srt O S) (k : Srt O T) (e : ∀ x, x ∈ S ↔ x ∈ T) : S = T := by
  refine List.Perm.eq_of_pairwise (le := fun x y => ah O x y = true) (fun a b _ _ p q => ?_) h k ((List.perm_ext_iff_of_nodup h.nodup k.nodup).2 e)
  rw [ah_as O p] at q; cases q
variable [DecidableEq κ]
/-- The list of the keys and times shows what the row holds. -/
structure Sh (O : Kord κ) (l S : List (κ × Int)) : Prop where
  srt : Srt O S
  mem : ∀ x, x ∈ l ↔ x ∈ S
  nd : (l.map Prod.fst).Nodup
omit [DecidableEq κ] in
theorem Sh.perm {l S : List (κ × Int)} (h : Sh O l S) : l.Perm S := (List.perm_ext_iff_of_nodup (nodup_pairs h.nd) h.srt.nodup).2 h.mem
omit [DecidableEq κ] in
theorem Sh.len {l S : List (κ × Int)} (h : Sh O l S) : l.length = S.length := h.perm.length_eq
omit [DecidableEq κ] in
theorem Sh.keys {l S : List (κ × Int)} (h : Sh O l S) : (S.map Prod.fst).Nodup := (h.perm.map Prod.fst).nodup_iff.1 h.nd
omit [DecidableEq κ] in
theorem Sh.of_perm {l l' S : List (κ × Int)} (h : Sh O l S) (p : l'.Perm l) : Sh O l' S := ⟨h.srt, fun x => p.mem_iff.trans (h.mem x), (p.map Prod.fst).nodup_iff.2 h.nd⟩
omit [DecidableEq κ] in
theorem Sh.nil : Sh O [] [] := ⟨List.Pairwise.nil, fun _ => Iff.rfl, by simp⟩
omit [DecidableEq κ] in
/-- Two rows that show the same. -/
theorem Sh.inj {l S T : List (κ × Int)} (h : Sh O l S) (k : Sh O l T) : S = T := srt_ext h.srt k.srt (fun x => (h.mem x).symm.trans (k.mem x))
/-- One more is laid into its place. -/
def ins (O : Kord κ) (x : κ × Int) : List (κ × Int) → List (κ × Int)
  | [] => [x]
  | y :: S => if ah O x y = true then x :: y :: S else y :: ins O x S
omit [DecidableEq κ] in
theorem mem_ins (x z : κ × Int) : ∀ S, z ∈ ins O x S ↔ z = x ∨ z ∈ S
  | [] => by simp [ins]
  | y :: S => by
    unfold ins
    split
    · simp
    · rw [List.mem_cons, mem_ins x z S, List.mem_cons]
      constructor
      · rintro (h | h | h)
        · exact Or.inr (Or.inl h)
        · exact Or.inl h
        · exact Or.inr (Or.inr h)
      · rintro (h | h | h)
        · exact Or.inr (Or.inl h)
        · exact Or.inl h
        · exact Or.inr (Or.inr h)
omit [DecidableEq κ] in
theorem srt_ins (x : κ × Int) : ∀ S, Srt O S → x ∉ S → Srt O (ins O x S)
  | [], _, _ => by simp [ins, Srt]
  | y :: S, h, hn => by
    unfold ins
    unfold Srt at h
    rw [List.pairwise_cons] at h
    split
    · rename_i e
      unfold Srt
      rw [List.pairwise_cons]
      refine ⟨fun z hz => ?_, List.pairwise_cons.2 h⟩
      rcases List.mem_cons.1 hz with rfl | hz
      · exact e
      · exact ah_tr O e (h.1 z hz)
    · rename_i e
      unfold Srt
      rw [List.pairwise_cons]
      refine ⟨fun z hz => ?_, srt_ins x S h.2 (fun q => hn (List.mem_cons_of_mem _ q))⟩
      rcases (mem_ins x z S).1 hz with rfl | hz
      · cases q : ah O y z
        · exact absurd (ah_tot O q (by simpa using e)) (fun e2 => hn (by rw [e2]; exact List.mem_cons_self))
        · rfl
      · exact h.1 z hz
/-- A key is taken out. -/
def cutS (S : List (κ × Int)) (k : κ) : List (κ × Int) := S.filter (fun x => decide (x.1 ≠ k))
/-- A key's time is set. -/
def setS (O : Kord κ) (S : List (κ × Int)) (k : κ) (a : Int) : List (κ × Int) := ins O (k, a) (cutS S k)
/-- A key's time. -/
def atS (S : List (κ × Int)) (k : κ) : Option Int := (S.find? (fun x => decide (x.1 = k))).map Prod.snd
theorem mem_cutS {S : List (κ × Int)} {k : κ} {x : κ × Int} : x ∈ cutS S k ↔ x ∈ S ∧ x.1 ≠ k := by simp [cutS]
theorem srt_cutS {S : List (κ × Int)} (h : Srt O S) (k : κ) : Srt O (cutS S k) := List.Pairwise.filter _ h
theorem mem_setS {S : List (κ × Int)} {k : κ} {a : Int} {x : κ × Int} : x ∈ setS O S k a ↔ x = (k, a) ∨ (x ∈ S ∧ x.1 ≠ k) := by unfold setS; rw [mem_ins, mem_cutS]
theorem srt_setS {S : List (κ × Int)} (h : Srt O S) (k : κ) (a : Int) : Srt O (setS O S k a) := srt_ins _ _ (srt_cutS h k) (fun q => (mem_cutS.1 q).2 rfl)
theorem cutS_len (S : List (κ × Int)) (k : κ) : (cutS S k).length ≤ S.length := List.length_filter_le _ _
omit [DecidableEq κ] in
theorem ins_len (x : κ × Int) : ∀ S, (ins O x S).length = S.length + 1
  | [] => rfl
  | y :: S => by
    unfold ins
    split
    · rfl
    · simp [ins_len x S]
theorem setS_len (S : List (κ × Int)) (k : κ) (a : Int) : (setS O S k a).length ≤ S.length + 1 := by
  unfold setS; rw [ins_len]; have := cutS_len S k; omega
theorem atS_some {S : List (κ × Int)} (h : (S.map Prod.fst).Nodup) {k : κ} {a : Int} (hm : (k, a) ∈ S) : atS S k = some a := by
  unfold atS
  cases e : S.find? (fun x => decide (x.1 = k)) with
  | none => have := List.find?_eq_none.1 e _ hm; simp at this
  | some y =>
    have h1 := List.find?_some e
    have h2 := List.mem_of_find?_eq_some e
    simp at h1
    obtain ⟨i, hi⟩ := List.mem_iff_getElem?.1 hm
    obtain ⟨j, hj⟩ := List.mem_iff_getElem?.1 h2
    obtain rfl := key_inj h hi hj h1.symm
    rw [hi] at hj; cases hj
    rfl
theorem atS_none {S : List (κ × Int)} {k : κ} (hm : k ∉ S.map Prod.fst) : atS S k = none := by
  unfold atS
  rw [List.find?_eq_none.2 (fun y hy => by simp; exact fun e => hm (List.mem_map.2 ⟨y, hy, e⟩))]
  rfl
theorem Sh.at_some {l S : List (κ × Int)} (h : Sh O l S) {k : κ} {a : Int} {n : Nat} (hn : l[n]? = some (k, a)) : atS S k = some a := atS_some h.keys ((h.mem _).1 (List.mem_of_getElem? hn))
theorem Sh.at_none {l S : List (κ × Int)} (h : Sh O l S) {k : κ} (hn : k ∉ l.map Prod.fst) : atS S k = none := atS_none (fun q => hn ((h.perm.map Prod.fst).mem_iff.2 q))
theorem cutS_none {S : List (κ × Int)} {k : κ} (hm : k ∉ S.map Prod.fst) : cutS S k = S := by
  unfold cutS
  rw [List.filter_eq_self]
  intro x hx
  simp
  rintro rfl
  exact hm (List.mem_map.2 ⟨x, hx, rfl⟩)
/-- A key that was there is laid anew. -/
theorem Sh.anew {l S : List (κ × Int)} (h : Sh O l S) {n : Nat} {k : κ} {a b : Int} (hn : l[n]? = some (k, a)) : Sh O (l.set n (k, b)) (setS O S k b) := by
  have hl := (List.getElem?_eq_some_iff.1 hn).1
  have hnd : ((l.set n (k, b)).map Prod.fst).Nodup := by
    refine nodup_of (fun i j x y hi hj e => ?_)
    rw [List.getElem?_set] at hi hj
    have e1 : ∃ x', l[i]? = some x' ∧ x'.1 = x.1 := by
      split at hi
      · rename_i q; subst q
        cases hi
        exact ⟨_, hn, rfl⟩
      · exact ⟨_, hi, rfl⟩
    have e2 : ∃ y', l[j]? = some y' ∧ y'.1 = y.1 := by
      split at hj
      · rename_i q; subst q
        cases hj
        exact ⟨_, hn, rfl⟩
      · exact ⟨_, hj, rfl⟩
    obtain ⟨x', a1, a2⟩ := e1
    obtain ⟨y', b1, b2⟩ := e2
    exact key_inj h.nd a1 b1 (by rw [a2, b2, e])
  refine ⟨srt_setS h.srt k b, fun x => ?_, hnd⟩
  rw [mem_setS]
  constructor
  · intro hx
    obtain ⟨i, hi⟩ := List.mem_iff_getElem?.1 hx
    rw [List.getElem?_set] at hi
    split at hi
    · cases hi; exact Or.inl rfl
    · rename_i q
      exact Or.inr ⟨(h.mem x).1 (List.mem_of_getElem? hi), fun e => q (key_inj h.nd hn hi e.symm)⟩
  · rintro (rfl | ⟨h1, h2⟩)
    · exact List.mem_of_getElem? (i := n) (by rw [List.getElem?_set, if_pos rfl, if_pos hl])
    · obtain ⟨i, hi⟩ := List.mem_iff_getElem?.1 ((h.mem x).2 h1)
      refine List.mem_of_getElem? (i := i) ?_
      rw [List.getElem?_set, if_neg (fun q => ?_)]
      · exact hi
      · subst q; rw [hn] at hi; cases hi; exact h2 rfl
/-- A new key. -/
theorem Sh.more {l S : List (κ × Int)} (h : Sh O l S) {k : κ} {b : Int} (hn : k ∉ l.map Prod.fst) : Sh O (l ++ [(k, b)]) (setS O S k b) := by
  refine ⟨srt_setS h.srt k b, fun x => ?_, ?_⟩
  · rw [mem_setS, List.mem_append, h.mem]
    simp
    constructor
    · rintro (q | q)
      · right; exact ⟨q, fun e => hn (List.mem_map.2 ⟨x, (h.mem x).2 q, e⟩)⟩
      · exact Or.inl q
    · rintro (q | ⟨q, _⟩)
      · exact Or.inr q
      · exact Or.inl q
  · rw [List.map_append, List.nodup_append]
    refine ⟨h.nd, by simp, fun a ha b hb => ?_⟩
    simp at hb
    subst hb
    rintro rfl
    exact hn ha
omit [DecidableEq κ] in
/-- The one at place i goes, the last one fills the gap. -/
theorem gap_at {l : List (κ × Int)} {i e : Nat} (hi : i < e) (he : e + 1 = l.length) {y : κ × Int} (hy : l[e]? = some y) (j : Nat) : ((l.take e).set i y)[j]? = if j < e then l[if j = i then e else j]? else none := by
  rw [List.getElem?_set, List.getElem?_take]
  by_cases h1 : i = j
  · subst h1
    simp [hi, hy]
    omega
  · rw [if_neg h1, if_neg (Ne.symm h1)]
theorem Mp.gap {f : κ → Option Nat} {l : List (κ × Int)} (h : Mp f l) {i e : Nat} (hi : i < e) (he : e + 1 = l.length) {x y : κ × Int} (hx : l[i]? = some x) (hy : l[e]? = some y) : MG (del f x.1) (l.take e) i y := by
  have G := gap_at hi he hy
  refine ⟨by simp; omega, nodup_of (fun a b u v ha hb q => ?_), fun j z hj hz => ?_, fun k hk => ?_⟩
  · rw [G] at ha hb
    split at ha
    · split at hb
      · have := key_inj h.nd ha hb q
        split at this <;> split at this <;> omega
      · cases hb
    · cases ha
  · rw [List.getElem?_take] at hz
    split at hz
    · unfold del
      rw [if_neg (fun q => hj (key_inj h.nd hz hx q))]
      exact h.pl j z hz
    · cases hz
  · unfold del at hk
    split at hk
    · cases hk
    · rename_i hne
      obtain ⟨z, hz, rfl⟩ := List.mem_map.1 (h.dom k hk)
      obtain ⟨j, hj⟩ := List.mem_iff_getElem?.1 hz
      have hjl := (List.getElem?_eq_some_iff.1 hj).1
      have hji : j ≠ i := fun q => by subst q; rw [hx] at hj; cases hj; exact hne rfl
      by_cases q : j = e
      · subst q
        exact List.mem_map.2 ⟨z, List.mem_of_getElem? (i := i) (by rw [G, if_pos hi, if_pos rfl]; exact hj), rfl⟩
      · exact List.mem_map.2 ⟨z, List.mem_of_getElem? (i := j) (by rw [G, if_pos (by omega), if_neg hji]; exact hj), rfl⟩
theorem Sh.gap {l S : List (κ × Int)} (h : Sh O l S) {i e : Nat} (hi : i < e) (he : e + 1 = l.length) {x y : κ × Int} (hx : l[i]? = some x) (hy : l[e]? = some y) : Sh O ((l.take e).set i y) (cutS S x.1) := by
  have G := gap_at hi he hy
  refine ⟨srt_cutS h.srt _, fun z => ?_, nodup_of (fun a b u v ha hb q => ?_)⟩
  · rw [mem_cutS]
    constructor
    · intro hz
      obtain ⟨j, hj⟩ := List.mem_iff_getElem?.1 hz
      rw [G] at hj
      split at hj
      · refine ⟨(h.mem z).1 (List.mem_of_getElem? hj), fun q => ?_⟩
        have := key_inj h.nd hj hx q
        split at this <;> omega
      · cases hj
    · rintro ⟨h1, h2⟩
      obtain ⟨j, hj⟩ := List.mem_iff_getElem?.1 ((h.mem z).2 h1)
      have hjl := (List.getElem?_eq_some_iff.1 hj).1
      have hji : j ≠ i := fun q => by subst q; rw [hx] at hj; cases hj; exact h2 rfl
      by_cases q : j = e
      · subst q
        exact List.mem_of_getElem? (i := i) (by rw [G, if_pos hi, if_pos rfl]; exact hj)
      · exact List.mem_of_getElem? (i := j) (by rw [G, if_pos (by omega), if_neg hji]; exact hj)
  · rw [G] at ha hb
    split at ha
    · split at hb
      · have := key_inj h.nd ha hb q
        split at this <;> split at this <;> omega
      · cases hb
    · cases ha
/-- The last one goes. -/
theorem Mp.last {f : κ → Option Nat} {l : List (κ × Int)} (h : Mp f l) {e : Nat} (he : e + 1 = l.length) {x : κ × Int} (hx : l[e]? = some x) : Mp (del f x.1) (l.take e) := by
  refine ⟨?_, fun j z hz => ?_, fun k hk => ?_⟩
  · rw [List.map_take]; exact h.nd.sublist (List.take_sublist _ _)
  · rw [List.getElem?_take] at hz
    split at hz
    · rename_i hj
      unfold del
      rw [if_neg (fun q => by have := key_inj h.nd hz hx q; omega)]
      exact h.pl j z hz
    · cases hz
  · unfold del at hk
    split at hk
    · cases hk
    · rename_i hne
      obtain ⟨z, hz, rfl⟩ := List.mem_map.1 (h.dom k hk)
      obtain ⟨j, hj⟩ := List.mem_iff_getElem?.1 hz
      have hjl := (List.getElem?_eq_some_iff.1 hj).1
      have hje : j ≠ e := fun q => by subst q; rw [hx] at hj; cases hj; exact hne rfl
      exact List.mem_map.2 ⟨z, List.mem_of_getElem? (i := j) (by rw [List.getElem?_take, if_pos (by omega)]; exact hj), rfl⟩
theorem Sh.last {l S : List (κ × Int)} (h : Sh O l S) {e : Nat} (he : e + 1 = l.length) {x : κ × Int} (hx : l[e]? = some x) : Sh O (l.take e) (cutS S x.1) := by
  refine ⟨srt_cutS h.srt _, fun z => ?_, by rw [List.map_take]; exact h.nd.sublist (List.take_sublist _ _)⟩
  rw [mem_cutS]
  constructor
  · intro hz
    obtain ⟨j, hj⟩ := List.mem_iff_getElem?.1 hz
    rw [List.getElem?_take] at hj
    split at hj
    · refine ⟨(h.mem z).1 (List.mem_of_getElem? hj), fun q => ?_⟩
      have := key_inj h.nd hj hx q
      omega
    · cases hj
  · rintro ⟨h1, h2⟩
    obtain ⟨j, hj⟩ := List.mem_iff_getElem?.1 ((h.mem z).2 h1)
    have hjl := (List.getElem?_eq_some_iff.1 hj).1
    have hje : j ≠ e := fun q => by subst q; rw [hx] at hj; cases hj; exact h2 rfl
    exact List.mem_of_getElem? (i := j) (by rw [List.getElem?_take, if_pos (by omega)]; exact hj)
omit [DecidableEq κ] in
/-- The first of the row is the first of all. -/
theorem Sh.first {l S : List (κ × Int)} (h : Sh O l S) (hp : Hp O l) {m : κ × Int} (hm : l[0]? = some m) : ∃ T, S = m :: T := by
  have hmS := (h.mem m).1 (List.mem_of_getElem? hm)
  cases S with
  | nil => cases hmS
  | cons y T =>
    refine ⟨T, ?_⟩
    rcases List.mem_cons.1 hmS with e | e
    · rw [e]
    · have h1 := (List.pairwise_cons.1 h.srt).1 m e
      obtain ⟨j, hj⟩ := List.mem_iff_getElem?.1 ((h.mem y).2 List.mem_cons_self)
      have := hp.first hm (j + 1) j y (by omega) hj
      rw [this] at h1; cases h1
theorem cutS_head {m : κ × Int} {T : List (κ × Int)} (h : ((m :: T).map Prod.fst).Nodup) : cutS (m :: T) m.1 = T := by
  unfold cutS
  rw [List.map_cons, List.nodup_cons] at h
  rw [List.filter_cons]
  simp
  intro a b hab e
  exact h.1 (List.mem_map.2 ⟨(a, b), hab, e⟩)
/-- Those whose time has come, and the others. -/
def dueS (S : List (κ × Int)) (now : Int) : List (κ × Int) := S.takeWhile (fun x => decide (x.2 ≤ now))
def leftS (S : List (κ × Int)) (now : Int) : List (κ × Int) := S.dropWhile (fun x => decide (x.2 ≤ now))
omit [DecidableEq κ] in
theorem due_split {A R : List (κ × Int)} {now : Int} (hA : ∀ x ∈ A, x.2 ≤ now) (hR : ∀ y T, R = y :: T → now < y.2) : dueS (A ++ R) now = A ∧ leftS (A ++ R) now = R := by
  have h1 : R.takeWhile (fun x => decide (x.2 ≤ now)) = [] := by
    cases R with
    | nil => rfl
    | cons y T => have := hR y T rfl; rw [List.takeWhile_cons, if_neg (by simp; omega)]
  have h2 : R.dropWhile (fun x => decide (x.2 ≤ now)) = R := by
    cases R with
    | nil => rfl
    | cons y T => have := hR y T rfl; rw [List.dropWhile_cons, if_neg (by simp; omega)]
  constructor
  · unfold dueS
    rw [List.takeWhile_append_of_pos (by intro x hx; simpa using hA x hx), h1, List.append_nil]
  · unfold leftS
    rw [List.dropWhile_append_of_pos (by intro x hx; simpa using hA x hx), h2]
omit [DecidableEq κ] in
theorem srt_left {S : List (κ × Int)} (h : Srt O S) (now : Int) : Srt O (leftS S now) := List.Pairwise.sublist (List.dropWhile_sublist _) h
omit [DecidableEq κ] in
theorem due_len (S : List (κ × Int)) (now : Int) : (dueS S now).length + (leftS S now).length = S.length := by
  have := congrArg List.length (List.takeWhile_append_dropWhile (p := fun x : κ × Int => decide (x.2 ≤ now)) (l := S))
  rw [List.length_append] at this
  exact this
end Go.Proofs.Ytbopghpfghaoeaa
