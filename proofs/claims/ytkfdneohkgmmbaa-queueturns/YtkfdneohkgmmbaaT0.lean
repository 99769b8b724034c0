/- What waits, in the statement's own books: the mathematics of QueueTurns. -/
import Derived.Test.YtkfdneohkgmmbaaR1
namespace Go.Proofs.Ytkfdneohkgmmbaa
set_option maxRecDepth 100000

/-- Whose, what, how many Pops there may be till it comes. -/
structure Wi where
  c : Nat
  v : Int
  t : Nat
def Wi.dec (x : Wi) : Wi := ⟨x.c, x.v, x.t - 1⟩
def vals (c : Nat) (W : List Wi) : List Int := (W.filter (fun x => x.c == c)).map Wi.v
theorem vals_cons (c : Nat) (x : Wi) (W : List Wi) : vals c (x :: W) = if x.c = c then x.v :: vals c W else vals c W := by
  unfold vals
  by_cases h : x.c = c <;> simp [h]
theorem vals_snoc (c : Nat) (x : Wi) (W : List Wi) : vals c (W ++ [x]) = if x.c = c then vals c W ++ [x.v] else vals c W := by
  unfold vals
  by_cases h : x.c = c <;> simp [h]
/-- The first one of the client c is struck, all others may wait one Pop less. -/
def strk (c : Nat) : Bool → List Wi → List Wi
  | _, [] => []
  | true, x :: W => x.dec :: strk c true W
  | false, x :: W => if x.c = c then strk c true W else x.dec :: strk c false W
theorem vals_strkT (c d : Nat) (W : List Wi) : vals d (strk c true W) = vals d W := by
  induction W with
  | nil => rfl
  | cons x W ih => rw [strk, vals_cons, vals_cons, ih]; rfl
theorem vals_strkF (c d : Nat) (W : List Wi) : vals d (strk c false W) = if d = c then (vals c W).tail else vals d W := by
  induction W with
  | nil => simp [strk, vals]
  | cons x W ih =>
    rw [strk]
    by_cases h : x.c = c
    · rw [if_pos h, vals_strkT, vals_cons, if_pos h, vals_cons, h]
      by_cases e : d = c
      · rw [if_pos e, e]; rfl
      · rw [if_neg e, if_neg (fun q => e q.symm)]
    · rw [if_neg h, vals_cons, ih, vals_cons, if_neg h, vals_cons]
      by_cases e : d = c
      · subst e; rw [if_pos rfl, if_pos rfl]; exact if_neg h
      · rw [if_neg e, if_neg e]; rfl
theorem len_strkT (c : Nat) (W : List Wi) : (strk c true W).length = W.length := by
  induction W with
  | nil => rfl
  | cons x W ih => rw [strk, List.length_cons, ih, List.length_cons]
theorem len_strkF (c : Nat) (W : List Wi) (h : vals c W ≠ []) : (strk c false W).length + 1 = W.length := by
  induction W with
  | nil => simp [vals] at h
  | cons x W ih =>
    rw [strk]
    by_cases e : x.c = c
    · rw [if_pos e, len_strkT, List.length_cons]
    · rw [vals_cons, if_neg e] at h
      rw [if_neg e, List.length_cons, ih h, List.length_cons]
theorem mem_strk (c : Nat) (f : Bool) (W : List Wi) (y : Wi) (h : y ∈ strk c f W) : ∃ x ∈ W, y = x.dec := by
  induction W generalizing f with
  | nil => cases f <;> simp [strk] at h
  | cons x W ih =>
    cases f with
    | true =>
      rw [strk] at h
      rcases List.mem_cons.1 h with h | h
      · exact ⟨x, List.mem_cons_self, h⟩
      · obtain ⟨z, h1, h2⟩ := ih true h
        exact ⟨z, List.mem_cons_of_mem _ h1, h2⟩
    | false =>
      rw [strk] at h
      by_cases e : x.c = c
      · rw [if_pos e] at h
        obtain ⟨z, h1, h2⟩ := ih true h
        exact ⟨z, List.mem_cons_of_mem _ h1, h2⟩
      · rw [if_neg e] at h
        rcases List.mem_cons.1 h with h | h
        · exact ⟨x, List.mem_cons_self, h⟩
        · obtain ⟨z, h1, h2⟩ := ih false h
          exact ⟨z, List.mem_cons_of_mem _ h1, h2⟩
/-- Each one has Pops enough: of its client k are ahead of it, and its client's turn comes within D. -/
def upd (k : Nat → Nat) (c d : Nat) : Nat := if d = c then k d + 1 else k d
def Enough (n : Nat) (D : Nat → Nat) : (Nat → Nat) → List Wi → Prop
  | _, [] => True
  | k, x :: W => k x.c * n + D x.c + 1 ≤ x.t ∧ Enough n D (upd k x.c) W
theorem Enough.one {n : Nat} {D k : Nat → Nat} {W : List Wi} (h : Enough n D k W) : ∀ x ∈ W, 1 ≤ x.t := by
  induction W generalizing k with
  | nil => intro x hx; cases hx
  | cons y W ih =>
    intro x hx
    rcases List.mem_cons.1 hx with e | e
    · subst e; have := h.1; omega
    · exact ih h.2 x e
theorem Enough.less {n : Nat} {D D' k k' : Nat → Nat} {W : List Wi} (c : Nat) (h : Enough n D k W) (hd : ∀ x ∈ W, k' x.c * n + D' x.c + 1 ≤ k x.c * n + D x.c) : Enough n D' k' (strk c true W) := by
  induction W generalizing k k' with
  | nil => trivial
  | cons y W ih =>
    rw [strk]
    refine ⟨?_, ih h.2 (fun x hx => ?_)⟩
    · have := h.1
      have := hd y List.mem_cons_self
      show k' y.c * n + D' y.c + 1 ≤ y.t - 1
      omega
    · have := hd x (List.mem_cons_of_mem _ hx)
      unfold upd
      show (if x.c = y.dec.c then _ else _) * n + _ + 1 ≤ _
      by_cases e : x.c = y.c
      · rw [if_pos (show x.c = y.dec.c from e), if_pos e, Nat.add_mul, Nat.add_mul]; omega
      · rw [if_neg (show ¬ x.c = y.dec.c from e), if_neg e]; exact this
theorem Enough.struck {n : Nat} {D D' k k' : Nat → Nat} {W : List Wi} (c : Nat) (h : Enough n D k W) (hd : ∀ x ∈ W, x.c ≠ c → k' x.c * n + D' x.c + 1 ≤ k x.c * n + D x.c) (hc : k' c * n + D' c + 1 ≤ (k c + 1) * n + D c) : Enough n D' k' (strk c false W) := by
  induction W generalizing k k' with
  | nil => trivial
  | cons y W ih =>
    rw [strk]
    by_cases e : y.c = c
    · rw [if_pos e]
      refine Enough.less c h.2 (fun x hx => ?_)
      unfold upd
      by_cases q : x.c = y.c
      · rw [if_pos q, q, e]; exact hc
      · rw [if_neg q]; exact hd x (List.mem_cons_of_mem _ hx) (fun r => q (r.trans e.symm))
    · rw [if_neg e]
      refine ⟨?_, ih h.2 (fun x hx q => ?_) ?_⟩
      · have := h.1
        have := hd y List.mem_cons_self e
        show k' y.c * n + D' y.c + 1 ≤ y.t - 1
        omega
      · have := hd x (List.mem_cons_of_mem _ hx) q
        unfold upd
        show (if x.c = y.dec.c then _ else _) * n + _ + 1 ≤ _
        by_cases r : x.c = y.c
        · rw [if_pos (show x.c = y.dec.c from r), if_pos r, Nat.add_mul, Nat.add_mul]; omega
        · rw [if_neg (show ¬ x.c = y.dec.c from r), if_neg r]; exact this
      · unfold upd
        rw [if_neg (show ¬ c = y.dec.c from fun q => e q.symm), if_neg (fun q => e q.symm)]
        exact hc
theorem Enough.snoc {n : Nat} {D k : Nat → Nat} {W : List Wi} (h : Enough n D k W) (x : Wi) (hx : (k x.c + (vals x.c W).length) * n + D x.c + 1 ≤ x.t) : Enough n D k (W ++ [x]) := by
  induction W generalizing k with
  | nil => exact ⟨by simpa [vals] using hx, trivial⟩
  | cons y W ih =>
    refine ⟨h.1, ih h.2 ?_⟩
    rw [vals_cons] at hx
    unfold upd
    by_cases e : y.c = x.c
    · rw [if_pos e.symm]
      rw [if_pos e, List.length_cons] at hx
      rw [show k x.c + 1 + (vals x.c W).length = k x.c + ((vals x.c W).length + 1) by omega]; exact hx
    · rw [if_neg (fun q => e q.symm)]
      rw [if_neg e] at hx
      exact hx
/-- How many clients lie between. -/
def dst (n nx c : Nat) : Nat := (c + n - nx) % n
theorem dst_lt {n nx c : Nat} (hn : 0 < n) : dst n nx c < n := Nat.mod_lt _ hn
theorem dst_at {n nx c : Nat} (hx : nx < n) (hc : c < n) : (nx + dst n nx c) % n = c := by
  unfold dst
  rw [Nat.add_mod_mod, show nx + (c + n - nx) = c + n by omega, Nat.add_mod_right, Nat.mod_eq_of_lt hc]
theorem dst_of {n nx i : Nat} (hx : nx < n) (hi : i < n) : dst n nx ((nx + i) % n) = i := by
  unfold dst
  rcases Nat.lt_or_ge (nx + i) n with h | h
  · rw [Nat.mod_eq_of_lt h, show nx + i + n - nx = i + n by omega, Nat.add_mod_right, Nat.mod_eq_of_lt hi]
  · rw [show nx + i = (nx + i - n) + n by omega, Nat.add_mod_right, Nat.mod_eq_of_lt (show nx + i - n < n by omega), show nx + i - n + n - nx = i by omega, Nat.mod_eq_of_lt hi]
/-- Behind a Pop of the client c the others are nearer. -/
theorem dst_near {n nx c d i : Nat} (hx : nx < n) (hd : d < n) (hc : (nx + i) % n = c) (h : i < dst n nx d) : dst n ((c + 1) % n) d + 1 ≤ dst n nx d := by
  obtain ⟨e, he⟩ : ∃ e, dst n nx d = e := ⟨_, rfl⟩
  have hen : e < n := by rw [← he]; exact dst_lt (by omega)
  have hde : (nx + e) % n = d := by rw [← he]; exact dst_at hx hd
  rw [he] at h ⊢
  have h1 : ((c + 1) % n + (e - i - 1)) % n = d := by
    rw [← hde, ← hc, Nat.mod_add_mod, show (nx + i) % n + 1 + (e - i - 1) = (nx + i) % n + (1 + (e - i - 1)) by omega, Nat.mod_add_mod, show nx + i + (1 + (e - i - 1)) = nx + e by omega]
  have h2 := dst_of (n := n) (nx := (c + 1) % n) (i := e - i - 1) (Nat.mod_lt _ (by omega)) (by omega)
  rw [h1] at h2
  omega
/-- The books are right. -/
structure Inv (n nx P : Nat) (L : List (List Int)) (W : List Wi) : Prop where
  v : ∀ c, c < n → vals c W = L.getD c []
  l : W.length = tot L
  c : ∀ x ∈ W, x.c < n
  e : Enough n (dst n nx) (fun _ => 0) W
  t : ∀ x ∈ W, x.t ≤ 4096
theorem Inv.push {n nx P : Nat} {L : List (List Int)} {W : List Wi} (h : Inv n nx P L W) (c : Nat) (v : Int) (hL : L.length = n) (hc : c < L.length) (hn : n ≤ 64) (hP : P ≤ 64) (hf : L[c].length < P) : Inv n nx P (L.set c (L[c] ++ [v])) (W ++ [⟨c, v, ((vals c W).length + 1) * n⟩]) := by
  have hv := h.v c (by omega)
  rw [getD_at' L c hc] at hv
  have hb : ((vals c W).length + 1) * n ≤ 64 * 64 := Nat.mul_le_mul (by rw [hv]; omega) hn
  refine ⟨fun d hd => ?_, ?_, fun x hx => ?_, ?_, fun x hx => ?_⟩
  · rw [vals_snoc]
    by_cases e : c = d
    · subst e; rw [if_pos rfl, hv]; simp [List.getD, hc]
    · rw [if_neg e, h.v d hd]; simp [List.getD, List.getElem?_set_ne e]
  · have := tot_set L c (L[c] ++ [v]) hc
    rw [List.length_append, h.l]
    simp at this ⊢
    omega
  · rcases List.mem_append.1 hx with q | q
    · exact h.c x q
    · obtain rfl := List.mem_singleton.1 q; show c < n; omega
  · refine h.e.snoc _ ?_
    have := dst_lt (n := n) (nx := nx) (c := c) (by omega)
    show (0 + (vals c W).length) * n + dst n nx c + 1 ≤ ((vals c W).length + 1) * n
    rw [Nat.zero_add, Nat.add_mul]
    omega
  · rcases List.mem_append.1 hx with q | q
    · exact h.t x q
    · obtain rfl := List.mem_singleton.1 q; exact hb
theorem Inv.pop {n nx P : Nat} {L : List (List Int)} {W : List Wi} (h : Inv n nx P L W) (hL : L.length = n) (hx : nx < n) (i c : Nat) (x : Int) (l : List Int) (hc : c < L.length) (hci : (nx + i) % n = c) (hb : ∀ j, j < i → L.getD ((nx + j) % n) [] = []) (hl : L[c] = x :: l) : Inv n ((c + 1) % n) P (L.set c l) (strk c false W) ∧ vals c W = x :: l := by
  have hv := h.v c (by omega)
  rw [getD_at' L c hc, hl] at hv
  refine ⟨⟨fun d hd => ?_, ?_, fun y hy => ?_, ?_, fun y hy => ?_⟩, hv⟩
  · rw [vals_strkF]
    by_cases e : d = c
    · subst e; rw [if_pos rfl, hv]; simp [List.getD, hc]
    · rw [if_neg e, h.v d hd]; simp [List.getD, List.getElem?_set_ne (fun q => e q.symm)]
  · have h1 := len_strkF c W (by rw [hv]; exact fun q => by cases q)
    have h2 := tot_set L c l hc
    rw [hl, List.length_cons] at h2
    have := h.l
    omega
  · obtain ⟨z, h1, rfl⟩ := mem_strk c false W y hy
    exact h.c z h1
  · refine Enough.struck c h.e (fun y hy hne => ?_) ?_
    · have hyn := h.c y hy
      have hne2 : vals y.c W ≠ [] := by
        intro q
        have : y.v ∈ vals y.c W := List.mem_map.2 ⟨y, List.mem_filter.2 ⟨hy, by simp⟩, rfl⟩
        rw [q] at this
        cases this
      rw [h.v y.c hyn] at hne2
      have hgt : i < dst n nx y.c := by
        rcases Nat.lt_trichotomy (dst n nx y.c) i with q | q | q
        · exact absurd (by have := hb _ q; rwa [dst_at hx hyn] at this) hne2
        · have := dst_at hx hyn
          rw [q, hci] at this
          exact absurd this.symm hne
        · exact q
      have := dst_near hx hyn hci hgt
      omega
    · have h1 := dst_lt (n := n) (nx := (c + 1) % n) (c := c) (by omega)
      show 0 * n + _ + 1 ≤ (0 + 1) * n + _
      omega
  · obtain ⟨z, h1, rfl⟩ := mem_strk c false W y hy
    have := h.t z h1
    show z.t - 1 ≤ 4096
    omega
end Go.Proofs.Ytkfdneohkgmmbaa
