/- A heap of timers in memory: its box, its row, its map; whose each block is. -/
import Derived.Test.YtbopghpfghaoeaaHS
import Derived.WalkArith
import Derived.Maps.Range
namespace Go.Proofs.Ytbopghpfghaoeaa
open Go.RowKit Go.Maps
set_option maxRecDepth 100000

/-- All blocks that are made from now on are k's. -/
def rl (lab : Nat → Nat) (w : World) (k : Nat) (i : Nat) : Nat := if i < w.heap.size then lab i else k
theorem rl_old {lab : Nat → Nat} {w : World} {k i : Nat} (h : i < w.heap.size) : rl lab w k i = lab i := if_pos h
theorem rl_new {lab : Nat → Nat} {w : World} {k i : Nat} (h : w.heap.size ≤ i) : rl lab w k i = k := if_neg (by omega)
theorem own_typ {w : World} {base e s n hb t : Nat} {v : Value} {xs : List Value} {cs : Array Value} {f : Nat × Nat} (h : w.ownsRow base e s v n xs) (hb' : w.heap[hb]? = some (.cells cs t f)) (hne : e ≠ t) : v.ownBlock ≠ some hb := by
  rcases h.2 with ⟨rfl, _⟩ | ⟨g, cap, cur, rfl, hg, hh, _⟩
  · intro q; cases q
  · intro q; cases q
    rw [hh] at hb'
    cases hb'
    exact hne rfl
theorem own_lt {w : World} {base e s n : Nat} {v : Value} {xs : List Value} (h : w.ownsRow base e s v n xs) {b : Nat} (hb : v.ownBlock = some b) : b < w.heap.size := by
  rcases h.2 with ⟨rfl, _⟩ | ⟨g, cap, cur, rfl, hg, hh, _⟩
  · cases hb
  · cases hb; exact heap_lt hh
theorem own_shape {w : World} {base e s n : Nat} {v : Value} {xs : List Value} (h : w.ownsRow base e s v n xs) : (v = .slice none 0 0 ∧ n = 0) ∨ ∃ g cap, v = .slice (some ⟨g, 0, none⟩) n cap ∧ n ≤ cap ∧ cap ≤ maxLen := by
  rcases h.2 with h2 | ⟨g, cap, cur, rfl, hg, hh, h3, h4, _⟩
  · exact Or.inl h2
  · exact Or.inr ⟨g, cap, rfl, h3, h4⟩
theorem own_slice {w : World} {base e s n : Nat} {v : Value} {xs : List Value} (h : w.ownsRow base e s v n xs) : ∃ ao cap, v = .slice ao n cap := by
  rcases own_shape h with ⟨rfl, rfl⟩ | ⟨g, cap, rfl, _⟩
  · exact ⟨_, _, rfl⟩
  · exact ⟨_, _, rfl⟩
theorem below_drewN (w : World) (m : Nat) : Below w.heap.size w (w.drewN m) := ⟨rfl, rfl, rfl, Nat.le_refl _, fun _ _ => rfl⟩
/-- A map's element is held as it is. -/
abbrev RV (v : Value) : Option (DataW Value × List MemPlace) := some (.held v, [])

/-- The kinds of heaps: the keys' order, values and literals, the types. -/
structure Kd (κ : Type) where
  O : Kord κ
  val : κ → Value
  lit : κ → Lit
  ok : κ → Prop
  ta : TypeId
  tt : TypeId
  kt : TypeId
  fv : Value
  inj : ∀ a b, lit a = lit b → a = b
  key : ∀ a, ok a → keyOf Try.prog kt (val a) = some (lit a)
  isk : ∀ a, WideAt.IsKeyLit (lit a)
  law : Keyed Try.prog kt
  ne : tt ≠ ta
variable {κ : Type} {K : Kd κ}
/-- The cells of a timer. -/
def tc (K : Kd κ) (x : κ × Int) : List Value := [K.val x.1, .int .i64 x.2]
theorem tc_len (l : List (κ × Int)) : (l.flatMap (tc K)).length = l.length * 2 := by
  induction l with
  | nil => rfl
  | cons x l ih => rw [List.flatMap_cons, List.length_append, ih, List.length_cons]; simp [tc]; omega
theorem tc_at : ∀ (l : List (κ × Int)) (j : Nat) (x : κ × Int), l[j]? = some x → (l.flatMap (tc K))[j * 2]? = some (K.val x.1) ∧ (l.flatMap (tc K))[j * 2 + 1]? = some (.int .i64 x.2) := by
  intro l
  induction l with
  | nil => intro j x h; simp at h
  | cons y l ih =>
    intro j x h
    cases j with
    | zero => simp at h; subst h; simp [tc]
    | succ j =>
      obtain ⟨h1, h2⟩ := ih j x (by simpa using h)
      rw [List.flatMap_cons, List.getElem?_append_right (by simp [tc]; omega), List.getElem?_append_right (by simp [tc]; omega)]
      exact ⟨by rw [show (j + 1) * 2 - (tc K y).length = j * 2 by simp [tc]; omega]; exact h1, by rw [show (j + 1) * 2 + 1 - (tc K y).length = j * 2 + 1 by simp [tc]; omega]; exact h2⟩
theorem tc_set : ∀ (l : List (κ × Int)) (j : Nat) (x : κ × Int), j < l.length → ((l.flatMap (tc K)).set (j * 2) (K.val x.1)).set (j * 2 + 1) (.int .i64 x.2) = (l.set j x).flatMap (tc K) := by
  intro l
  induction l with
  | nil => intro j x h; simp at h
  | cons y l ih =>
    intro j x h
    cases j with
    | zero => simp [tc]
    | succ j =>
      have := ih j x (by simpa using h)
      rw [List.flatMap_cons, List.set_append, if_neg (by simp [tc]; omega), List.set_append, if_neg (by simp [tc]; omega), List.set_cons_succ, List.flatMap_cons]
      rw [show (j + 1) * 2 - (tc K y).length = j * 2 by simp [tc]; omega, show (j + 1) * 2 + 1 - (tc K y).length = j * 2 + 1 by simp [tc]; omega, this]
theorem tc_take (l : List (κ × Int)) (n : Nat) : (l.flatMap (tc K)).take (n * 2) = (l.take n).flatMap (tc K) := by
  induction l generalizing n with
  | nil => simp
  | cons y l ih =>
    cases n with
    | zero => simp
    | succ n =>
      rw [List.take_succ_cons, List.flatMap_cons, List.flatMap_cons, ← ih n, show (n + 1) * 2 = (tc K y).length + n * 2 by simp [tc]; omega, List.take_length_add_append]

/-- What a map holds. -/
structure MapIs (K : Kd κ) (D : DataW Value) (f : κ → Option Nat) : Prop where
  has : ∀ k, Maps.has D (K.lit k) = (f k).isSome
  val : ∀ k zd, D.atKey (K.lit k) zd = ((f k).map (fun n : Nat => DataW.held (.int .i64 n))).getD zd
  only : ∀ kl, Maps.has D kl = true → ∃ k, kl = K.lit k
theorem MapIs.empty : MapIs K (.map []) (fun _ => none) := ⟨fun _ => rfl, fun _ _ => rfl, fun _ h => by cases h⟩
theorem MapIs.put [DecidableEq κ] {D : DataW Value} {f : κ → Option Nat} (h : MapIs K D f) (hm : IsMap D) (k : κ) (n : Nat) : MapIs K (D.put (K.lit k) (.held (.int .i64 n))) (upd f k n) := by
  refine ⟨fun a => ?_, fun a zd => ?_, fun kl hk => ?_⟩
  · unfold upd
    by_cases e : a = k
    · subst e; rw [if_pos rfl]; exact has_put_same hm (K.isk a) _
    · rw [if_neg e, has_put_other (fun q => e (K.inj _ _ q)), h.has]
  · unfold upd
    by_cases e : a = k
    · subst e; rw [if_pos rfl]; exact atKey_put_same hm (K.isk a) _ _
    · rw [if_neg e, atKey_put_other (fun q => e (K.inj _ _ q)), h.val]
  · by_cases e : kl = K.lit k
    · exact ⟨k, e⟩
    · rw [has_put_other e] at hk; exact h.only kl hk
theorem MapIs.cut [DecidableEq κ] {D : DataW Value} {f : κ → Option Nat} (h : MapIs K D f) (k : κ) : MapIs K (D.del (K.lit k)) (del f k) := by
  refine ⟨fun a => ?_, fun a zd => ?_, fun kl hk => ?_⟩
  · unfold del
    by_cases e : a = k
    · subst e; rw [if_pos rfl]; exact has_del_same
    · rw [if_neg e, has_del_other (fun q => e (K.inj _ _ q)), h.has]
  · unfold del
    by_cases e : a = k
    · subst e; rw [if_pos rfl]; exact atKey_del_same _
    · rw [if_neg e, atKey_del_other (fun q => e (K.inj _ _ q)), h.val]
  · by_cases e : kl = K.lit k
    · exact ⟨k, e⟩
    · rw [has_del_other e] at hk; exact h.only kl hk
/-- A map has no more entries than keys. -/
theorem MapIs.tight {w : World} {b n : Nat} {D : DataW Value} {f : κ → Option Nat} (h : MapIs K D f) (ho : w.ownsMap Try.prog K.kt RV b n D) (ks : List κ) (hk : ∀ k, (f k).isSome = true → k ∈ ks) : w.ownsMap Try.prog K.kt RV b ks.length D := by
  obtain ⟨es, hD, hp, hl⟩ := ho.entries K.law
  obtain ⟨es0, clock, hb, F, hs, hD0⟩ := ho
  refine ⟨es0, clock, hb, F, ?_, hD0⟩
  have e1 : es0.size = es.length := by
    have := hD0.symm.trans hD
    injection this with this
    rw [← this, length_sorted]; simp
  rw [e1]
  have hnd : (es.map Prod.fst).Nodup := by
    unfold List.Nodup
    rw [List.pairwise_map]
    exact hp
  have hsub : es.map Prod.fst ⊆ ks.map K.lit := fun kl hkl => by
    obtain ⟨p, hp, rfl⟩ := List.mem_map.1 hkl
    have hh : Maps.has D p.1 = true := by
      rw [hD, has_eq]
      exact List.any_eq_true.2 ⟨p, hp, WideAt.sameKey_self (hl p hp)⟩
    obtain ⟨k, e⟩ := h.only _ hh
    rw [e] at hh ⊢
    rw [h.has] at hh
    exact List.mem_map.2 ⟨k, hk k hh, rfl⟩
  have := hnd.length_le_of_subset hsub
  simpa using this
/-- What a look at the map answers. -/
theorem MapIs.look {w : World} {b n : Nat} {D : DataW Value} {f : κ → Option Nat} (h : MapIs K D f) (ho : w.ownsMap Try.prog K.kt RV b n D) {t : TypeId} (ht : Try.prog.underlying t = some (.map K.kt 3)) (hz : (zeroValue 3).run Try.prog w = .ok (.int .i64 0) w) (k : κ) (hk : K.ok k) :
    (Instr.lookup t (.map (some b)) (K.val k) true).run Try.prog w = .ok (.tuple #[.int .i64 (((f k).getD 0 : Nat) : Int), .bool (f k).isSome]) w := by
  obtain ⟨v, ps, hrun, hv⟩ := ho.look_ok K.law ht hz (zd := .held (.int .i64 0)) (zp := []) rfl (K.key k hk)
  rw [hrun, h.has]
  rw [h.val] at hv
  cases e : f k with
  | none => rw [e] at hv; simp [RV] at hv; rw [hv.1]; rfl
  | some g => rw [e] at hv; simp [RV] at hv; rw [hv.1]; rfl

/-- A heap of timers: box hb, map bm, row rv; f the places, l the timers, g how many have gone. -/
structure Hx (K : Kd κ) (w : World) (lab : Nat → Nat) (k hb bm : Nat) (rv : Value) (D : DataW Value) (f : κ → Option Nat) (l : List (κ × Int)) (g : Nat) : Prop where
  box : w.heap[hb]? = some (.cells #[rv, .map (some bm), K.fv, .int .i64 g] K.ta)
  row : w.ownsRow 0 K.tt 2 rv l.length (l.flatMap (tc K))
  map : w.ownsMap Try.prog K.kt RV bm l.length D
  mis : MapIs K D f
  lh : lab hb = k
  lm : lab bm = k
  lr : ∀ b, rv.ownBlock = some b → lab b = k
  ok : ∀ x ∈ l, K.ok x.1
  hl : l.length ≤ 4398046511104
  hg : g ≤ 8796093022208
theorem Hx.turns {F : Nat → Prop} {w w' : World} {lab lab' : Nat → Nat} {k hb bm g : Nat} {rv : Value} {D : DataW Value} {f : κ → Option Nat} {l : List (κ × Int)} (h : Hx K w lab k hb bm rv D f l g) (t : Turns F w w') (hF : ∀ i, i < w.heap.size → lab i = k → ¬ F i) (hl : ∀ i, i < w.heap.size → lab' i = lab i) : Hx K w' lab' k hb bm rv D f l g :=
  { h with
    box := (t.block hb (heap_lt h.box) (hF _ (heap_lt h.box) h.lh)).trans h.box
    row := own_turns h.row t (fun b e => hF b (own_lt h.row e) (h.lr b e))
    map := map_turns h.map t (hF _ h.map.lt h.lm)
    lh := (hl _ (heap_lt h.box)).trans h.lh
    lm := (hl _ h.map.lt).trans h.lm
    lr := fun b e => (hl b (own_lt h.row e)).trans (h.lr b e) }
theorem Hx.turnsX {F : Nat → Prop} {w w' : World} {lab : Nat → Nat} {k hb bm g : Nat} {rv : Value} {D : DataW Value} {f : κ → Option Nat} {l : List (κ × Int)} (h : Hx K w lab k hb bm rv D f l g) (t : Turns F w w') (h1 : ¬ F hb) (h2 : ¬ F bm) (h3 : ∀ b, rv.ownBlock = some b → ¬ F b) : Hx K w' lab k hb bm rv D f l g :=
  { h with
    box := (t.block hb (heap_lt h.box) h1).trans h.box
    row := own_turns h.row t h3
    map := map_turns h.map t h2 }
theorem Hx.below {w w' : World} {lab : Nat → Nat} {k hb bm g : Nat} {rv : Value} {D : DataW Value} {f : κ → Option Nat} {l : List (κ × Int)} (h : Hx K w lab k hb bm rv D f l g) (b : Below w.heap.size w w') (j : Nat) : Hx K w' (rl lab w j) k hb bm rv D f l g :=
  h.turns (Below.turns b (fun _ => False)) (fun _ _ _ q => q) (fun _ hi => rl_old hi)
theorem Hx.drew {w : World} {lab : Nat → Nat} {k hb bm g : Nat} {rv : Value} {D : DataW Value} {f : κ → Option Nat} {l : List (κ × Int)} (h : Hx K w lab k hb bm rv D f l g) (m : Nat) : Hx K (w.drewN m) lab k hb bm rv D f l g :=
  h.turns (Turns.drewN (fun _ => False) w m) (fun _ _ _ q => q) (fun _ _ => rfl)
structure HxC (K : Kd κ) (w : World) (hb bm g : Nat) (rv : Value) : Prop where
  c0 : w.cell? ⟨hb, 0, none⟩ = some rv
  c1 : w.cell? ⟨hb, 1, none⟩ = some (.map (some bm))
  c2 : w.cell? ⟨hb, 2, none⟩ = some K.fv
  c3 : w.cell? ⟨hb, 3, none⟩ = some (.int .i64 g)
  fz : ∀ j, w.frozen? ⟨hb, j, none⟩ = false
theorem Hx.cells {w : World} {lab : Nat → Nat} {k hb bm g : Nat} {rv : Value} {D : DataW Value} {f : κ → Option Nat} {l : List (κ × Int)} (h : Hx K w lab k hb bm rv D f l g) : HxC K w hb bm g rv :=
  ⟨by simp [World.cell?, h.box], by simp [World.cell?, h.box], by simp [World.cell?, h.box], by simp [World.cell?, h.box], fun j => by simp [World.frozen?, h.box]⟩
theorem HxC.alloc {w : World} {hb bm g : Nat} {rv : Value} (h : HxC K w hb bm g rv) (o : Obj) : HxC K (w.alloc o) hb bm g rv := by
  have hlt := World.block_lt_of_cell? w _ h.c0
  have e := Below.heap_alloc w o hb hlt
  exact ⟨(World.cell?_of_block (a := ⟨hb, 0, none⟩) e).trans h.c0, (World.cell?_of_block (a := ⟨hb, 1, none⟩) e).trans h.c1, (World.cell?_of_block (a := ⟨hb, 2, none⟩) e).trans h.c2, (World.cell?_of_block (a := ⟨hb, 3, none⟩) e).trans h.c3, fun j => by
    have := h.fz j
    unfold World.frozen? at this ⊢
    simp only at this ⊢
    rw [e]; exact this⟩
/-- The row's cells. -/
theorem Hx.at {w : World} {lab : Nat → Nat} {k hb bm g : Nat} {rv : Value} {D : DataW Value} {f : κ → Option Nat} {l : List (κ × Int)} (h : Hx K w lab k hb bm rv D f l g) {j : Nat} {x : κ × Int} (hj : l[j]? = some x) : ∃ gr cap, rv = .slice (some ⟨gr, 0, none⟩) l.length cap ∧ l.length ≤ cap ∧ w.cell? ⟨gr, j * 2, none⟩ = some (K.val x.1) ∧ w.cell? ⟨gr, j * 2 + 1, none⟩ = some (.int .i64 x.2) ∧ ∀ i, w.frozen? ⟨gr, i, none⟩ = false := by
  have hlt := (List.getElem?_eq_some_iff.1 hj).1
  have hrow := h.row
  rcases own_shape hrow with ⟨_, q⟩ | ⟨gr, cap, rfl, hc, _⟩
  · omega
  · obtain ⟨e1, e2⟩ := tc_at (K := K) l j x hj
    exact ⟨gr, cap, rfl, hc, by rw [hrow.cellAt _ (by omega), e1], by rw [hrow.cellAt _ (by omega), e2], fun i => hrow.frozenAt i⟩
theorem map_cells {w : World} {P : Program} {kt : TypeId} {R : Value → Option (DataW Value × List MemPlace)} {b n g t : Nat} {D : DataW Value} {cs : Array Value} {q : Nat × Nat} (h : w.ownsMap P kt R b n D) (hg : w.heap[g]? = some (.cells cs t q)) : b ≠ g := by
  rintro rfl
  obtain ⟨es, cl, hx, _⟩ := h
  rw [hg] at hx; cases hx
theorem Hx.bmr {w : World} {lab : Nat → Nat} {k hb bm g : Nat} {rv : Value} {D : DataW Value} {f : κ → Option Nat} {l : List (κ × Int)} (h : Hx K w lab k hb bm rv D f l g) : rv.ownBlock ≠ some bm := fun e => by
  obtain ⟨es, cl, hx, _⟩ := h.map
  rcases h.row.2 with ⟨hv, _⟩ | ⟨g, cap, cur, hv, _, hg, _⟩
  · subst hv; cases e
  · subst hv; cases e
    rw [hg] at hx; cases hx
theorem Hx.bmh {w : World} {lab : Nat → Nat} {k hb bm g : Nat} {rv : Value} {D : DataW Value} {f : κ → Option Nat} {l : List (κ × Int)} (h : Hx K w lab k hb bm rv D f l g) : bm ≠ hb := map_cells h.map h.box
theorem Hx.rvh {w : World} {lab : Nat → Nat} {k hb bm g : Nat} {rv : Value} {D : DataW Value} {f : κ → Option Nat} {l : List (κ × Int)} (h : Hx K w lab k hb bm rv D f l g) : rv.ownBlock ≠ some hb := own_typ h.row h.box K.ne
theorem own_set2 {w : World} {base e size g n cap : Nat} {xs : List Value} (h : w.ownsRow base e size (.slice (some ⟨g, 0, none⟩) n cap) n xs) (j : Nat) (u v : Value) : ((w.setCell ⟨g, j, none⟩ u).setCell ⟨g, j + 1, none⟩ v).ownsRow base e size (.slice (some ⟨g, 0, none⟩) n cap) n ((xs.set j u).set (j + 1) v) := ((h.stored j u).1.stored (j + 1) v).1
theorem turns_set2 {w : World} (g j m : Nat) (u v : Value) : Turns (fun i => i = g) w (((w.setCell ⟨g, j, none⟩ u).setCell ⟨g, j + 1, none⟩ v).drewN m) := ((Turns.cell w g j u).trans (Turns.cell _ g (j + 1) v) (fun _ _ q => q)).trans (Turns.drewN _ _ m) (fun _ _ q => q)
/-- One more timer is laid behind the row. -/
theorem Hx.grew {W wC : World} {lab : Nat → Nat} {k hb bm g : Nat} {rv rv' : Value} {D : DataW Value} {f : κ → Option Nat} {l : List (κ × Int)} (h : Hx K W lab k hb bm rv D f l g) {x : κ × Int} (t : Turns (fun i => rv.ownBlock = some i) W wC) (ho : wC.ownsRow 0 K.tt 2 rv' (l.length + 1) (l.flatMap (tc K) ++ tc K x)) (hlab : ∀ b, rv'.ownBlock = some b → lab b = k) (hx : K.ok x.1) (hl : l.length < 4398046511104) :
    Hx K (wC.setCell ⟨hb, 0, none⟩ rv') lab k hb bm rv' D f (l ++ [x]) g ∧ Turns (fun i => i = hb ∨ rv.ownBlock = some i) W (wC.setCell ⟨hb, 0, none⟩ rv') := by
  have hbx := (t.block hb (heap_lt h.box) h.rvh).trans h.box
  have t2 := Turns.cell wC hb 0 rv'
  have mC := map_turns h.map t h.bmr
  have hlen : (l ++ [x]).length = l.length + 1 := by simp
  refine ⟨⟨?_, ?_, ?_, h.mis, h.lh, h.lm, hlab, fun y hy => ?_, by rw [hlen]; omega, h.hg⟩, (t.mono (fun _ _ q => Or.inr q)).trans t2 (fun _ _ q => Or.inl q)⟩
  · rw [heap_setCell_same _ _ _ _ _ _ hbx]; rfl
  · have : (l ++ [x]).flatMap (tc K) = l.flatMap (tc K) ++ tc K x := by rw [List.flatMap_append]; simp
    rw [hlen, this]
    exact own_turns ho t2 (fun b hb' q => by subst q; exact own_typ ho hbx K.ne hb')
  · rw [hlen]
    exact (map_turns mC t2 h.bmh).mono (by omega)
  · rcases List.mem_append.1 hy with q | q
    · exact h.ok y q
    · rw [List.mem_singleton.1 q]; exact hx
/-- The blocks of a heap's map and row. -/
def Fb (bm : Nat) (rv : Value) (i : Nat) : Prop := i = bm ∨ rv.ownBlock = some i
theorem Hx.fb {w : World} {lab : Nat → Nat} {k hb bm g : Nat} {rv : Value} {D : DataW Value} {f : κ → Option Nat} {l : List (κ × Int)} (h : Hx K w lab k hb bm rv D f l g) {i : Nat} (hi : Fb bm rv i) : i < w.heap.size ∧ lab i = k := by
  rcases hi with rfl | e
  · exact ⟨h.map.lt, h.lm⟩
  · exact ⟨own_lt h.row e, h.lr i e⟩
/-- A timer is laid into the row and into the map. -/
theorem Hx.laid [DecidableEq κ] {w W w3 : World} {lab : Nat → Nat} {k hb bm g gr cap m : Nat} {D : DataW Value} {f : κ → Option Nat} {l : List (κ × Int)} (h : Hx K w lab k hb bm (.slice (some ⟨gr, 0, none⟩) l.length cap) D f l g) {i : Nat} (hi : i < l.length) {x : κ × Int} (hx : K.ok x.1) {ks : List κ} (hks : ks.length ≤ l.length) (hd : ∀ a, (upd f x.1 i a).isSome = true → a ∈ ks)
    (b : Below w.heap.size w W) (h3 : w3.ownsMap Try.prog K.kt RV bm (l.length + 1) (D.put (K.lit x.1) (.held (.int .i64 i)))) (t3 : (((W.setCell ⟨gr, i * 2, none⟩ (K.val x.1)).setCell ⟨gr, i * 2 + 1, none⟩ (.int .i64 x.2)).drewN m).mapTurned w3 bm) :
    (∃ D', Hx K w3 lab k hb bm (.slice (some ⟨gr, 0, none⟩) l.length cap) D' (upd f x.1 i) (l.set i x) g) ∧ Turns (Fb bm (.slice (some ⟨gr, 0, none⟩) l.length cap)) w w3 := by
  have tW : Turns (fun _ => False) w W := Below.turns b _
  have t2 := turns_set2 (w := W) gr (i * 2) m (K.val x.1) (.int .i64 x.2)
  have tm : Turns (fun i => i = bm) (((W.setCell ⟨gr, i * 2, none⟩ (K.val x.1)).setCell ⟨gr, i * 2 + 1, none⟩ (.int .i64 x.2)).drewN m) w3 := Turns.grown t3.grown (fun b hb => (Option.some.inj hb).symm)
  have T : Turns (fun i => i = gr ∨ i = bm) w w3 := ((tW.mono (fun _ _ q => q.elim)).trans t2 (fun _ _ q => Or.inl q)).trans tm (fun _ _ q => Or.inr q)
  have hbg : hb ≠ gr := fun e => h.rvh (by rw [e]; rfl)
  have hmg : bm ≠ gr := fun e => h.bmr (by rw [e]; rfl)
  have rW : W.ownsRow 0 K.tt 2 (.slice (some ⟨gr, 0, none⟩) l.length cap) l.length (l.flatMap (tc K)) := own_turns h.row tW (fun _ _ q => q)
  have r2 := own_set2 rW (i * 2) (K.val x.1) (.int .i64 x.2)
  rw [tc_set l i x hi] at r2
  have r3 := own_turns (own_turns r2 (Turns.drewN (fun _ => False) _ m) (fun _ _ q => q)) tm (fun b hb q => by cases hb; exact hmg q.symm)
  refine ⟨⟨_, ⟨(T.block hb (heap_lt h.box) (fun q => q.elim hbg (fun q => h.bmh q.symm))).trans h.box, by rw [List.length_set]; exact r3, ?_, h.mis.put h.map.isMap x.1 i, h.lh, h.lm, h.lr, fun y hy => ?_, by rw [List.length_set]; exact h.hl, h.hg⟩⟩, T.mono (fun i _ q => ?_)⟩
  · have := (h.mis.put h.map.isMap x.1 i).tight h3 ks hd
    rw [List.length_set]
    exact this.mono hks
  · rcases List.mem_or_eq_of_mem_set hy with q | q
    · exact h.ok y q
    · rw [q]; exact hx
  · rcases q with rfl | rfl
    · exact Or.inr rfl
    · exact Or.inl rfl
theorem cell_old {w : World} {a : Addr} {v : Value} (h : w.cell? a = some v) (o : Obj) : (w.alloc o).cell? a = some v := (World.cell?_of_block (Below.heap_alloc w o a.block (World.block_lt_of_cell? w _ h))).trans h
theorem cell_turn {F : Nat → Prop} {w w' : World} {a : Addr} {v : Value} (h : w.cell? a = some v) (t : Turns F w w') (hF : ¬ F a.block) : w'.cell? a = some v := (World.cell?_of_block (t.block _ (World.block_lt_of_cell? w _ h) hF)).trans h
theorem froz_turn {F : Nat → Prop} {w w' : World} {a : Addr} (h : w.frozen? a = false) (hl : a.block < w.heap.size) (t : Turns F w w') (hF : ¬ F a.block) : w'.frozen? a = false := (World.frozen?_of_block (t.block _ hl hF)).trans h
theorem own_short {w : World} {base e size g n cap : Nat} {xs : List Value} (h : w.ownsRow base e size (.slice (some ⟨g, 0, none⟩) (n + 1) cap) (n + 1) xs) : w.ownsRow base e size (.slice (some ⟨g, 0, none⟩) n cap) n (xs.take (n * size)) := by
  have hl := h.1
  have hm : n * size ≤ (n + 1) * size := Nat.mul_le_mul_right _ (Nat.le_succ n)
  refine ⟨by rw [List.length_take, hl, Nat.min_eq_left hm], ?_⟩
  rcases h.2 with ⟨q, _⟩ | ⟨g', cap', cur, q, h1, h2, h3, h4, h5, h6⟩
  · cases q
  · cases q
    refine Or.inr ⟨g, cap, cur, rfl, h1, h2, by omega, h4, h5, ?_⟩
    rw [← h6, List.take_take, Nat.min_eq_left hm]
theorem Turns.set3 {w : World} (gr hb j m : Nat) (u v z : Value) : Turns (fun i => i = hb ∨ i = gr) w ((((w.setCell ⟨gr, j, none⟩ u).setCell ⟨gr, j + 1, none⟩ v).setCell ⟨hb, 0, none⟩ z).drewN m) :=
  ((((Turns.cell w gr j u).trans (Turns.cell _ gr (j + 1) v) (fun _ _ q => q)).mono (fun _ _ q => Or.inr q)).trans (Turns.cell _ hb 0 z) (fun _ _ q => Or.inl q)).trans (Turns.drewN _ _ m) (fun _ _ q => q)
/-- The last place is struck, and one key. -/
theorem Hx.cutAt [DecidableEq κ] {w W w6 : World} {lab : Nat → Nat} {k hb bm g gr cap e m : Nat} {D : DataW Value} {f : κ → Option Nat} {l : List (κ × Int)} (h : Hx K w lab k hb bm (.slice (some ⟨gr, 0, none⟩) (e + 1) cap) D f l g) (he : e + 1 = l.length) {x : κ × Int} {ks : List κ} (hks : ks.length ≤ e) (hd : ∀ a, (del f x.1 a).isSome = true → a ∈ ks) (hg : g < 8796093022208) (u v : Value)
    (b : Below w.heap.size w W) (h6 : w6.ownsMap Try.prog K.kt RV bm l.length (D.del (K.lit x.1))) (t6 : ((((W.setCell ⟨gr, e * 2, none⟩ u).setCell ⟨gr, e * 2 + 1, none⟩ v).setCell ⟨hb, 0, none⟩ (.slice (some ⟨gr, 0, none⟩) e cap)).drewN m).mapTurned w6 bm) :
    Hx K (w6.setCell ⟨hb, 3, none⟩ (.int .i64 (g + 1 : Nat))) lab k hb bm (.slice (some ⟨gr, 0, none⟩) e cap) (D.del (K.lit x.1)) (del f x.1) (l.take e) (g + 1) ∧ Turns (fun i => i = hb ∨ i = gr ∨ i = bm) W (w6.setCell ⟨hb, 3, none⟩ (.int .i64 (g + 1 : Nat))) := by
  have tW : Turns (fun _ => False) w W := Below.turns b _
  have t3 := Turns.set3 (w := W) gr hb (e * 2) m u v (.slice (some ⟨gr, 0, none⟩) e cap)
  have tm : Turns (fun i => i = bm) ((((W.setCell ⟨gr, e * 2, none⟩ u).setCell ⟨gr, e * 2 + 1, none⟩ v).setCell ⟨hb, 0, none⟩ (.slice (some ⟨gr, 0, none⟩) e cap)).drewN m) w6 := Turns.grown t6.grown (fun b hb => (Option.some.inj hb).symm)
  have tg := Turns.cell w6 hb 3 (.int .i64 (g + 1 : Nat))
  have hbg : hb ≠ gr := fun e => h.rvh (by rw [e]; rfl)
  have hmg : bm ≠ gr := fun e => h.bmr (by rw [e]; rfl)
  have hmh := h.bmh
  have bxW := (tW.block hb (heap_lt h.box) (fun q => q)).trans h.box
  have bx3 : ((((W.setCell ⟨gr, e * 2, none⟩ u).setCell ⟨gr, e * 2 + 1, none⟩ v).setCell ⟨hb, 0, none⟩ (.slice (some ⟨gr, 0, none⟩) e cap)).drewN m).heap[hb]? = some (.cells #[.slice (some ⟨gr, 0, none⟩) e cap, .map (some bm), K.fv, .int .i64 g] K.ta) := by
    have := ((turns_set2 (w := W) gr (e * 2) 0 u v).block hb (heap_lt bxW) hbg).trans bxW
    exact heap_setCell_same _ _ _ _ _ _ this
  have bx6 := (tm.block hb (heap_lt bx3) (fun q => hmh q.symm)).trans bx3
  have hr : w.ownsRow 0 K.tt 2 (.slice (some ⟨gr, 0, none⟩) (e + 1) cap) (e + 1) (l.flatMap (tc K)) := by have := h.row; rw [← he] at this; exact this
  have r2 := own_short (own_set2 (own_turns hr tW (fun _ _ q => q)) (e * 2) u v)
  have er : (((l.flatMap (tc K)).set (e * 2) u).set (e * 2 + 1) v).take (e * 2) = (l.take e).flatMap (tc K) := by
    rw [List.take_set_of_le (by omega), List.take_set_of_le (by omega), tc_take]
  rw [er] at r2
  have r3 := own_turns r2 (Turns.cell _ hb 0 (.slice (some ⟨gr, 0, none⟩) e cap)) (fun b q q2 => by cases q; exact hbg q2.symm)
  have r6 := own_turns (own_turns r3 (Turns.drewN (fun _ => False) _ m) (fun _ _ q => q)) tm (fun b q q2 => by cases q; exact hmg q2.symm)
  have r7 := own_turns r6 tg (fun b q q2 => by cases q; exact hbg q2.symm)
  have hlen : (l.take e).length = e := by rw [List.length_take]; omega
  refine ⟨⟨?_, by rw [hlen]; exact r7, ?_, h.mis.cut x.1, h.lh, h.lm, fun b q => h.lr b (by cases q; rfl), fun y hy => h.ok y (List.mem_of_mem_take hy), by have := h.hl; omega, by omega⟩, ?_⟩
  · rw [heap_setCell_same _ _ _ _ _ _ bx6]; rfl
  · rw [hlen]
    exact (map_turns ((h.mis.cut x.1).tight h6 ks hd) tg hmh).mono hks
  · refine (((t3.mono (fun i _ q => ?_)).trans tm (fun _ _ q => Or.inr (Or.inr q))).trans tg (fun _ _ q => Or.inl q))
    rcases q with q | q
    · exact Or.inl q
    · exact Or.inr (Or.inl q)
end Go.Proofs.Ytbopghpfghaoeaa
