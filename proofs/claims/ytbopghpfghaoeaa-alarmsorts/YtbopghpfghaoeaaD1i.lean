/- The document's own alarm, its keys ints: in memory; below and find by their contracts. -/
import Derived.Test.YtbopghpfghaoeaaHBi
namespace Go.Proofs.Ytbopghpfghaoeaa
open Go.RowKit Go.Maps
set_option maxRecDepth 100000
attribute [local go_sem ↓] Go.wp_at_zero Go.wp_at_succ

/-- The cells of an item. -/
def dcI (x : Int × Int) : List Value := [.int .i64 x.1, .string ⟨#[]⟩, .int .i64 x.2]
theorem dc_lenI (l : List (Int × Int)) : (l.flatMap dcI).length = l.length * 3 := by
  induction l with
  | nil => rfl
  | cons x l ih => rw [List.flatMap_cons, List.length_append, ih, List.length_cons]; simp [dcI]; omega
theorem dc_atI : ∀ (l : List (Int × Int)) (j : Nat) (x : Int × Int), l[j]? = some x → ∀ t v, (dcI x)[t]? = some v → (l.flatMap dcI)[j * 3 + t]? = some v := by
  intro l
  induction l with
  | nil => intro j x h; simp at h
  | cons y l ih =>
    intro j x h t v hv
    have ht : t < 3 := (List.getElem?_eq_some_iff.1 hv).1
    cases j with
    | zero => simp at h; subst h; rw [List.flatMap_cons, List.getElem?_append_left (by simp [dcI]; omega)]; simpa using hv
    | succ j =>
      have := ih j x (by simpa using h) t v hv
      rw [List.flatMap_cons, List.getElem?_append_right (by simp [dcI]; omega), show (j + 1) * 3 + t - (dcI y).length = j * 3 + t by simp [dcI]; omega]
      exact this
theorem dc_setI : ∀ (l : List (Int × Int)) (j : Nat) (a : Int) (t u : Int), l[j]? = some (a, t) → (l.flatMap dcI).set (j * 3 + 2) (.int .i64 u) = (l.set j (a, u)).flatMap dcI := by
  intro l
  induction l with
  | nil => intro j a t u h; simp at h
  | cons y l ih =>
    intro j a t u h
    cases j with
    | zero => simp at h; subst h; simp [dcI]
    | succ j =>
      have := ih j a t u (by simpa using h)
      rw [List.flatMap_cons, List.set_append, if_neg (by simp [dcI]; omega), List.set_cons_succ, List.flatMap_cons, show (j + 1) * 3 + 2 - (dcI y).length = j * 3 + 2 by simp [dcI]; omega, this]
/-- The document's alarm: box rb, row rv, items l. -/
structure RxI (w : World) (lab : Nat → Nat) (k rb : Nat) (rv : Value) (l : List (Int × Int)) : Prop where
  box : w.heap[rb]? = some (.cells #[rv] 108)
  row : w.ownsRow 0 114 3 rv l.length (l.flatMap dcI)
  lb : lab rb = k
  lr : ∀ b, rv.ownBlock = some b → lab b = k
  hl : l.length ≤ 4398046511104
theorem RxI.turns {F : Nat → Prop} {w w' : World} {lab lab' : Nat → Nat} {k rb : Nat} {rv : Value} {l : List (Int × Int)} (h : RxI w lab k rb rv l) (t : Turns F w w') (hF : ∀ i, i < w.heap.size → lab i = k → ¬ F i) (hl : ∀ i, i < w.heap.size → lab' i = lab i) : RxI w' lab' k rb rv l :=
  { h with
    box := (t.block rb (heap_lt h.box) (hF _ (heap_lt h.box) h.lb)).trans h.box
    row := own_turns h.row t (fun b e => hF b (own_lt h.row e) (h.lr b e))
    lb := (hl _ (heap_lt h.box)).trans h.lb
    lr := fun b e => (hl b (own_lt h.row e)).trans (h.lr b e) }
theorem RxI.below {w w' : World} {lab : Nat → Nat} {k rb : Nat} {rv : Value} {l : List (Int × Int)} (h : RxI w lab k rb rv l) (b : Below w.heap.size w w') : RxI w' lab k rb rv l :=
  h.turns (Below.turns b (fun _ => False)) (fun _ _ _ q => q) (fun _ _ => rfl)
theorem RxI.c0 {w : World} {lab : Nat → Nat} {k rb : Nat} {rv : Value} {l : List (Int × Int)} (h : RxI w lab k rb rv l) : w.cell? ⟨rb, 0, none⟩ = some rv := by simp [World.cell?, h.box]
theorem RxI.f0 {w : World} {lab : Nat → Nat} {k rb : Nat} {rv : Value} {l : List (Int × Int)} (h : RxI w lab k rb rv l) : w.frozen? ⟨rb, 0, none⟩ = false := by simp [World.frozen?, h.box]
theorem RxI.rvb {w : World} {lab : Nat → Nat} {k rb : Nat} {rv : Value} {l : List (Int × Int)} (h : RxI w lab k rb rv l) : rv.ownBlock ≠ some rb := own_typ h.row h.box (by decide)
theorem RxI.at {w : World} {lab : Nat → Nat} {k rb : Nat} {rv : Value} {l : List (Int × Int)} (h : RxI w lab k rb rv l) {j : Nat} {x : Int × Int} (hj : l[j]? = some x) : ∃ gr cap, rv = .slice (some ⟨gr, 0, none⟩) l.length cap ∧ l.length ≤ cap ∧ w.cell? ⟨gr, j * 3, none⟩ = some (.int .i64 x.1) ∧ w.cell? ⟨gr, j * 3 + 1, none⟩ = some (.string ⟨#[]⟩) ∧ w.cell? ⟨gr, j * 3 + 2, none⟩ = some (.int .i64 x.2) ∧ ∀ i, w.frozen? ⟨gr, i, none⟩ = false := by
  have hlt := (List.getElem?_eq_some_iff.1 hj).1
  have hrow := h.row
  rcases own_shape hrow with ⟨_, q⟩ | ⟨gr, cap, rfl, hc, _⟩
  · omega
  · have e := dc_atI l j x hj
    exact ⟨gr, cap, rfl, hc, (hrow.cellAt _ (by omega)).trans (e 0 _ rfl), (hrow.cellAt _ (by omega)).trans (e 1 _ rfl), (hrow.cellAt _ (by omega)).trans (e 2 _ rfl), fun i => hrow.frozenAt i⟩
set_option maxHeartbeats 1000000 in
theorem dbelow_I (a b : Int) (w : World) : Calls Try.prog 62 #[.agg #[.int .i64 a, .string ⟨#[]⟩], .agg #[.int .i64 b, .string ⟨#[]⟩]] w fun e w' => e = .returned (.bool (OI.lt a b)) ∧ Below w.heap.size w w' := by
  have hb : ∀ o o', Below w.heap.size w ((w.alloc o).alloc o') := fun o o' => ((Below.refl _ w).alloc (Nat.le_refl _) o).alloc (by simp) o'
  by_cases h : a < b
  · have e : OI.lt a b = true := decide_eq_true h
    rw [e]
    go_enter Try.func62, Try.ntmps62
    go_wp2
    go_ret
    exact ⟨rfl, hb _ _⟩
  · have e : OI.lt a b = false := decide_eq_false h
    rw [e]
    by_cases h2 : a = b
    · subst h2
      clear h e
      go_enter Try.func62, Try.ntmps62
      go_wp2
      go_ret
      exact ⟨rfl, hb _ _⟩
    · have h3 : (a == b) = false := by simpa using h2
      clear e h2
      go_enter Try.func62, Try.ntmps62
      go_wp2
      go_ret
      exact ⟨rfl, hb _ _⟩
/-- What find answers. -/
def FndI (l : List (Int × Int)) (a : Int) (z : Int) : Prop := (z = -1 ∧ a ∉ l.map Prod.fst) ∨ ∃ (n : Nat) (t : Int), z = n ∧ l[n]? = some (a, t)
set_option maxHeartbeats 2000000 in
theorem find_I {w : World} {lab : Nat → Nat} {k rb : Nat} {rv : Value} {l : List (Int × Int)} (h : RxI w lab k rb rv l) (a : Int) :
    Calls Try.prog 50 #[.pointer (some ⟨rb, 0, none⟩), .agg #[.int .i64 a, .string ⟨#[]⟩]] w fun e w' => ∃ z : Int, e = .returned (.int .i64 z) ∧ FndI l a z ∧ Below w.heap.size w w' := by
  obtain ⟨N, hN⟩ : ∃ N, l.length = N := ⟨_, rfl⟩
  have HN : Hid (l.length = N) := hN
  have hL := h.hl
  rw [hN] at hL
  have HR : Hid (RxI w lab k rb rv l) := h
  have hlb := heap_lt h.box
  obtain ⟨ao, cap, hrv⟩ := own_slice h.row
  have c0 := h.c0
  rw [hrv, hN] at c0
  obtain ⟨W, hW⟩ : ∃ W, w.alloc (.cells #[.int .i64 a, .string ⟨#[]⟩] 51) = W := ⟨_, rfl⟩
  obtain ⟨z0, z1, _⟩ := box_two w (([.int .i64 a, .string ⟨#[]⟩] : List Value)[0]) (([.int .i64 a, .string ⟨#[]⟩] : List Value)[1]) 51
  simp only [List.getElem_cons_zero, List.getElem_cons_succ] at z0 z1
  rw [hW] at z0 z1
  have bW : Below w.heap.size w W := by rw [← hW]; exact (Below.refl _ w).alloc (Nat.le_refl _) _
  have hxb := World.block_lt_of_cell? W _ z0
  have HV : Hid (rv = .slice ao N cap) := by show _ = _; rw [hrv, hN]
  have a0 : (N : Int) ≤ 4398046511104 := by omega
  clear h hN hrv
  go_enter Try.func50, Try.ntmps50
  go_wp2_with fail
  go_loopw [5] (fun u wr => ∃ i m : Nat, i ≤ N ∧ u = .int .i64 i ∧ wr = W.drewN m ∧ Hid (∀ (j : Nat) x, j < i → l[j]? = some x → x.1 ≠ a)) (fun u _ => N + 1 - (intOf u).toNat)
  case atStart => exact ⟨0, 0, Nat.zero_le _, rfl, rfl, fun j x hj => by omega⟩
  case round =>
    obtain ⟨i, m, hi, rfl, rfl, hno⟩ := hrel
    have c1 : W.cell? ⟨rb, 0, none⟩ = some (.slice ao N cap) := (bW.cell (p := ⟨rb, 0, none⟩) hlb).trans c0
    by_cases hlt : i < N
    · obtain ⟨x, hx⟩ : ∃ x, l[i]? = some x := ⟨_, List.getElem?_eq_getElem (by rw [HN.out]; exact hlt)⟩
      obtain ⟨gr, cap', hrv', hcap, x0, x1, x2, _⟩ := HR.out.at hx
      rw [HV.out] at hrv'
      rw [HN.out] at hrv' hcap
      cases hrv'
      have hgl := World.block_lt_of_cell? w _ x0
      have y0 := (bW.cell (p := ⟨gr, i * 3, none⟩) hgl).trans x0
      have y1 := (bW.cell (p := ⟨gr, i * 3 + 1, none⟩) hgl).trans x1
      have a1 : (i : Int) < N := by omega
      have a2 : (0 : Int) ≤ i := by omega
      by_cases hk : x.1 = a
      · have HX : Hid (l[i]? = some x) := hx
        clear hx
        go_wp2_with fail
        go_region
        go_wp2_with fail
        go_ret
        exact ⟨i, rfl, Or.inr ⟨i, x.2, rfl, by rw [HX.out, ← hk]⟩, bW.trans ⟨rfl, rfl, rfl, Nat.le_refl _, fun _ _ => rfl⟩⟩
      · have hno2 : Hid (∀ (j : Nat) x, j < i + 1 → l[j]? = some x → x.1 ≠ a) := fun j y hj hy => by
          by_cases e : j = i
          · subst e; rw [hx] at hy; cases hy; exact hk
          · exact hno.out j y (by omega) hy
        clear hx hno
        go_wp2_with fail
        go_region
        go_wp2_with fail
        go_roundw
        case rel => exact ⟨i + 1, m + 1, by omega, by go_num, by first | rfl | simp, hno2⟩
        case measure => simp [intOf]; omega
    · go_wp2_with fail
      go_ret
      refine ⟨-1, rfl, Or.inl ⟨rfl, fun q => ?_⟩, bW.trans ⟨rfl, rfl, rfl, Nat.le_refl _, fun _ _ => rfl⟩⟩
      obtain ⟨y, hy, e⟩ := List.mem_map.1 q
      obtain ⟨j, hj⟩ := List.mem_iff_getElem?.1 hy
      have := (List.getElem?_eq_some_iff.1 hj).1
      exact hno.out j y (by rw [HN.out] at this; omega) hj e
end Go.Proofs.Ytbopghpfghaoeaa
