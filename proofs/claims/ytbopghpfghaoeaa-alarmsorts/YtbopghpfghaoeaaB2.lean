/- The book of lists that were handed out: keep, by its contract. -/
import Derived.Test.YtbopghpfghaoeaaB1
namespace Go.Proofs.Ytbopghpfghaoeaa
open Go.RowKit Go.Maps
set_option maxRecDepth 100000
attribute [local go_sem ↓] Go.wp_at_zero Go.wp_at_succ

theorem Try.infoSl : (Try.prog.info? 29).map (fun i => (i.zero, i.size, i.bytes)) = some (some (.slice none 0 0), 1, 24) := by kernel_rfl
/-- What a list's appends leave: only v's block of the old ones. -/
theorem Laid.step {w wr w3 : World} {v gv g' : Value} {N k : Nat} {o : Obj} (hgb : ∀ b, gv.ownBlock = some b → v.ownBlock = some b ∨ w.heap.size ≤ b) (t : Turns (fun i => v.ownBlock = some i) w wr) (l : Laid (wr.alloc o) w3 gv g' N k) : Turns (fun i => v.ownBlock = some i) w w3 ∧ ∀ b, g'.ownBlock = some b → v.ownBlock = some b ∨ w.heap.size ≤ b := by
  have hs := t.size
  have ta := t.trans (Turns.alloc (fun _ => False) wr o) (fun _ _ q => q.elim)
  rcases l with ⟨g, cap, h1, h2, h3⟩ | ⟨cap', h1, h2⟩
  · subst h1 h2
    refine ⟨ta.trans (Turns.grown (F := fun i => i = g) h3 (fun b hb => (Option.some.inj hb).symm)) (fun i hi q => ?_), fun b hb => hgb b hb⟩
    subst q
    rcases hgb i rfl with q | q
    · exact q
    · omega
  · subst h1
    refine ⟨ta.trans (Turns.grown (F := fun _ => False) h2 (fun b hb => by cases hb)) (fun _ _ q => q.elim), fun b hb => Or.inr ?_⟩
    cases hb
    show w.heap.size ≤ _
    simp; omega
/-- The labels behind keep. -/
def kl (lab : Nat → Nat) (w : World) (Lv Nv : Value) (i : Nat) : Nat := if i < w.heap.size then (if lab i = 4 then 3 else lab i) else if Lv.ownBlock = some i ∨ Nv.ownBlock = some i then 5 else 3
/-- What keep leaves. -/
def KepR (w w' : World) (lab : Nat → Nat) (kb : Nat) (es : List Ke) (v : Value) (n : Nat) : Prop := ∃ g1 g2 lab', Bw w' lab' kb (es ++ [⟨v, n⟩, ⟨g1, n + 1⟩, ⟨g2, n + 66⟩]) ∧ Turns (fun i => lab i = 4 ∨ lab i = 5) w w' ∧ ∀ i, i < w.heap.size → lab i ≠ 4 → lab' i = lab i
theorem cells_3 (w : World) (x y z : Value) (t : TypeId) : ∀ j u, [x, y, z][j]? = some u → (w.alloc (.cells #[x, y, z] t)).cell? ((⟨w.heap.size, 0, none⟩ : Addr).add j) = some u := by
  intro j u hj
  match j, hj with
  | 0, hj => simp at hj; subst hj; simp [Addr.add]
  | 1, hj => simp at hj; subst hj; simp [Addr.add]
  | 2, hj => simp at hj; subst hj; simp [Addr.add]
theorem cells_2 (w : World) (x y : Value) (t : TypeId) : ∀ j u, [x, y][j]? = some u → (w.alloc (.cells #[x, y] t)).cell? ((⟨w.heap.size, 0, none⟩ : Addr).add j) = some u := by
  intro j u hj
  match j, hj with
  | 0, hj => simp at hj; subst hj; simp [Addr.add]
  | 1, hj => simp at hj; subst hj; simp [Addr.add]
/-- Where an append lays its list. -/
theorem Laid.turns {w w' : World} {v v' : Value} {n k : Nat} (l : Laid w w' v v' n k) : Turns (fun i => v.ownBlock = some i) w w' ∧ ∀ b, v'.ownBlock = some b → v.ownBlock = some b ∨ w.heap.size ≤ b := by
  rcases l with ⟨g, cap, h1, h2, h3⟩ | ⟨cap', h1, h2⟩
  · subst h1 h2
    exact ⟨Turns.grown h3 (fun b hb => hb), fun b hb => Or.inl hb⟩
  · subst h1
    exact ⟨Turns.grown h2 (fun b hb => by cases hb), fun b hb => Or.inr (by cases hb; exact Nat.le_refl _)⟩
theorem own_ap {w : World} {b1 b2 e1 e2 s1 s2 n1 n2 : Nat} {v1 v2 : Value} {x1 x2 : List Value} (h1 : w.ownsRow b1 e1 s1 v1 n1 x1) (h2 : w.ownsRow b2 e2 s2 v2 n2 x2) (hne : e1 ≠ e2) {b : Nat} (hb1 : v1.ownBlock = some b) (hb2 : v2.ownBlock = some b) : False := by
  rcases h2.2 with ⟨rfl, _⟩ | ⟨g, cap, cur, rfl, _, hh, _⟩
  · cases hb2
  · cases hb2
    exact own_typ h1 hh hne hb1
/-- The three lists of one keep stand in the book. -/
theorem bo_kept {w W6 W7 W9 : World} {lab : Nat → Nat} {kb : Nat} {Lv Nv L' N' v v2 v3 : Value} {es : List Ke} {q n : Nat} {a : Int} (h : Bo w lab kb Lv Nv es) (hq : es.length = 3 * q) (ha : ∀ i : Nat, i / 3 = q → (-1 : Int) - ((i / 3 : Nat) : Int) = a) (hes : es.length + 3 ≤ 4000000) (hn : n ≤ 3000000)
    (hvl : ∀ b, v.ownBlock = some b → lab b = 4) (t3 : Turns (fun j => v.ownBlock = some j) w W6)
    (p1 : W6.ownsRow 0 3 1 v n (mk n a)) (p2 : W6.ownsRow 0 3 1 v2 (n + 1) (mk (n + 1) a)) (p3 : W6.ownsRow 0 3 1 v3 (n + 66) (mk (n + 66) a)) (g2 : ∀ b, v2.ownBlock = some b → v.ownBlock = some b ∨ w.heap.size ≤ b) (g3 : ∀ b, v3.ownBlock = some b → v.ownBlock = some b ∨ w.heap.size ≤ b)
    (T7 : Turns (fun j => Lv.ownBlock = some j) W6 W7) (o7 : W7.ownsRow 0 29 1 L' (es.length + 3) (es.map (·.v) ++ [v, v2, v3])) (n7 : ∀ b, L'.ownBlock = some b → Lv.ownBlock = some b ∨ W6.heap.size ≤ b)
    (T9 : Turns (fun j => Nv.ownBlock = some j) (W7.setCell ⟨kb, 0, none⟩ L') W9) (o9 : W9.ownsRow 0 3 1 N' (es.length + 3) (es.map (fun e => Value.int .i64 e.n) ++ [.int .i64 n, .int .i64 (n + 1 : Nat), .int .i64 (n + 66 : Nat)])) (n9 : ∀ b, N'.ownBlock = some b → Nv.ownBlock = some b ∨ W7.heap.size ≤ b) :
    Bo (W9.setCell ⟨kb, 1, none⟩ N') (kl lab w L' N') kb L' N' (es ++ [⟨v, n⟩, ⟨v2, n + 1⟩, ⟨v3, n + 66⟩]) ∧ Turns (fun i => lab i = 4 ∨ lab i = 5) w (W9.setCell ⟨kb, 1, none⟩ N') := by
  have hkw := heap_lt h.box
  have hvk : v.ownBlock ≠ some kb := fun e => by have := hvl kb e; rw [h.lk] at this; omega
  have bx6 := (t3.block kb hkw hvk).trans h.box
  have hLk : Lv.ownBlock ≠ some kb := own_typ h.rowL h.box (by decide)
  have hNk : Nv.ownBlock ≠ some kb := own_typ h.rowN h.box (by decide)
  have bx7 := (T7.block kb (heap_lt bx6) hLk).trans bx6
  have bx8 := heap_setCell_same _ _ 0 _ _ L' bx7
  have t8 := Turns.cell W7 kb 0 L'
  have bx9 := (T9.block kb (heap_lt bx8) hNk).trans bx8
  have t10 := Turns.cell W9 kb 1 N'
  have s6 := t3.size
  have s7 := T7.size
  have hLs : ∀ b, Lv.ownBlock = some b → b < w.heap.size := fun b hb => own_lt h.rowL hb
  have hNs : ∀ b, Nv.ownBlock = some b → b < w.heap.size := fun b hb => own_lt h.rowN hb
  have T : Turns (fun i => lab i = 4 ∨ lab i = 5) w (W9.setCell ⟨kb, 1, none⟩ N') := by
    refine ((((t3.mono (fun i _ e => Or.inl (hvl i e))).trans T7 (fun i _ e => Or.inr (h.lL i e))).trans t8 (fun i _ e => ?_)).trans T9 (fun i _ e => Or.inr (h.lN i e))).trans t10 (fun i _ e => ?_)
    · subst e; exact Or.inr h.lk
    · subst e; exact Or.inr h.lk
  -- a list of ints made by this keep stays
  have stay : ∀ (x : Value) (m : Nat), W6.ownsRow 0 3 1 x m (mk m a) → (∀ b, x.ownBlock = some b → v.ownBlock = some b ∨ w.heap.size ≤ b) → (W9.setCell ⟨kb, 1, none⟩ N').ownsRow 0 3 1 x m (mk m a) ∧ ∀ b, x.ownBlock = some b → kl lab w L' N' b = 3 := fun x m hx hxb => by
    have hL6 := own_turns h.rowL t3 (fun b hb e => by have h1 := hvl b e; have h2 := h.lL b hb; omega)
    have x7 := own_turns hx T7 (fun b hb e => own_ap hx hL6 (by decide) hb e)
    have x8 := own_turns x7 t8 (fun b hb e => by subst e; exact own_typ x7 bx7 (by decide) hb)
    have hxN : ∀ b, x.ownBlock = some b → Nv.ownBlock ≠ some b := fun b hb e => by
      rcases hxb b hb with r | r
      · have h1 := hvl b r; have h2 := h.lN b e; omega
      · have := hNs b e; omega
    have x9 := own_turns x8 T9 (fun b hb e => hxN b hb e)
    have x10 := own_turns x9 t10 (fun b hb e => by subst e; exact own_typ x9 bx9 (by decide) hb)
    refine ⟨x10, fun b hb => ?_⟩
    unfold kl
    have hb6 := own_lt hx hb
    split
    · rename_i r
      rcases hxb b hb with r2 | r2
      · rw [if_pos (hvl b r2)]
      · omega
    · rename_i r
      rw [if_neg]
      rintro (e | e)
      · rcases n7 b e with e2 | e2
        · exact r (hLs b e2)
        · omega
      · rcases n9 b e with e2 | e2
        · exact r (hNs b e2)
        · omega
  refine ⟨⟨heap_setCell_same _ _ _ _ _ _ bx9, ?_, ?_, ?_, fun b hb => ?_, fun b hb => ?_, fun i e he => ?_, by simp; omega⟩, T⟩
  · have r8 := own_turns o7 t8 (fun b hb e => by subst e; exact own_typ o7 bx7 (by decide) hb)
    have hN7 := own_turns (own_turns (own_turns h.rowN t3 (fun b hb e => by have h1 := hvl b e; have h2 := h.lN b hb; omega)) T7 (fun b hb e => by
      have hL6 := own_turns h.rowL t3 (fun b hb e => by have h1 := hvl b e; have h2 := h.lL b hb; omega)
      have hN6 := own_turns h.rowN t3 (fun b hb e => by have h1 := hvl b e; have h2 := h.lN b hb; omega)
      exact own_ap hN6 hL6 (by decide) hb e)) t8 (fun b hb e => by subst e; exact hNk hb)
    have r9 := own_turns r8 T9 (fun b hb e => own_ap r8 hN7 (by decide) hb e)
    have r10 := own_turns r9 t10 (fun b hb e => by subst e; exact own_typ r9 bx9 (by decide) hb)
    simpa using r10
  · have r10 := own_turns o9 t10 (fun b hb e => by subst e; exact own_typ o9 bx9 (by decide) hb)
    simpa using r10
  · unfold kl; rw [if_pos hkw, if_neg (by rw [h.lk]; decide)]; exact h.lk
  · unfold kl
    split
    · rename_i r
      rcases n7 b hb with e | e
      · rw [if_neg (by rw [h.lL b e]; decide)]; exact h.lL b e
      · omega
    · rw [if_pos (Or.inl hb)]
  · unfold kl
    split
    · rename_i r
      rcases n9 b hb with e | e
      · rw [if_neg (by rw [h.lN b e]; decide)]; exact h.lN b e
      · omega
    · rw [if_pos (Or.inr hb)]
  · by_cases hi : i < es.length
    · rw [List.getElem?_append_left hi] at he
      obtain ⟨h1, h2, h3⟩ := h.ent i e he
      refine ⟨own_turns h1 T (fun b hb r => ?_), fun b hb => ?_, h3⟩
      · have := h2 b hb; omega
      · have := h2 b hb
        unfold kl
        rw [if_pos (own_lt h1 hb), if_neg (by omega)]; exact this
    · rw [List.getElem?_append_right (by omega)] at he
      have hi3 : i - es.length < 3 := by
        have := (List.getElem?_eq_some_iff.1 he).1
        simpa using this
      have hq3 : i / 3 = q := by omega
      rw [ha i hq3]
      have hcase : i - es.length = 0 ∨ i - es.length = 1 ∨ i - es.length = 2 := by omega
      rcases hcase with r | r | r
      · rw [r] at he; simp at he; subst he
        have := stay v n p1 (fun b hb => Or.inl hb)
        exact ⟨this.1, this.2, by show n ≤ _; omega⟩
      · rw [r] at he; simp at he; subst he
        have := stay v2 (n + 1) p2 g2
        exact ⟨this.1, this.2, by show n + 1 ≤ _; omega⟩
      · rw [r] at he; simp at he; subst he
        have := stay v3 (n + 66) p3 g3
        exact ⟨this.1, this.2, by show n + 66 ≤ _; omega⟩
set_option maxHeartbeats 8000000 in
theorem keep_any {w : World} {lab : Nat → Nat} {kb : Nat} {es : List Ke} (h : Bw w lab kb es) (q : Nat) (hq : es.length = 3 * q) (v : Value) (n : Nat) (xs : List Value) (hv : w.ownsRow 0 3 1 v n xs) (hvl : ∀ b, v.ownBlock = some b → lab b = 4) (hn : n ≤ 3000000) (hes : es.length + 3 ≤ 4000000) :
    Calls Try.prog 35 #[.pointer (some ⟨kb, 0, none⟩), v] w fun e w' => e = .returned (.tuple #[]) ∧ KepR w w' lab kb es v n := by
  obtain ⟨i0, hi, hz0, hz1, hz2⟩ := info_parts Try.infoInt
  obtain ⟨j0, ji, jz0, jz1, jz2⟩ := info_parts Try.infoSl
  obtain ⟨va, vc, hvv⟩ := own_slice hv
  subst hvv
  obtain ⟨Lv, Nv, h⟩ := h
  have HH : Hid (Bo w lab kb Lv Nv es) := h
  obtain ⟨La, Lc, hLv⟩ := own_slice h.rowL
  obtain ⟨Na, Nc, hNv⟩ := own_slice h.rowN
  have HL : Hid (w.ownsRow 0 29 1 (.slice La es.length Lc) es.length (es.map (·.v))) := by have := h.rowL; rw [hLv] at this; exact this
  have HNr : Hid (w.ownsRow 0 3 1 (.slice Na es.length Nc) es.length (es.map (fun e => Value.int .i64 e.n))) := by have := h.rowN; rw [hNv] at this; exact this
  have hbx := h.box
  rw [hLv, hNv] at hbx
  have HLv : Hid (Lv = .slice La es.length Lc) := hLv
  have HNv : Hid (Nv = .slice Na es.length Nc) := hNv
  have HV : Hid (w.ownsRow 0 3 1 (.slice va n vc) n xs) := hv
  have HXL : Hid (xs.length = n) := by show _ = _; have := hv.1; simpa using this
  have hkl := heap_lt h.box
  have Hvk : Hid (∀ b, (Value.slice va n vc).ownBlock = some b → b ≠ kb) := fun b hb e => by have := hvl b hb; rw [e, h.lk] at this; omega
  have HvL : Hid (∀ b, (Value.slice va n vc).ownBlock = some b → lab b = 4) := hvl
  obtain ⟨M, hM⟩ : ∃ M, es.length = M := ⟨_, rfl⟩
  rw [hM] at hbx hq hes
  have HM : Hid (es.length = M) := hM
  have c0 : w.cell? ⟨kb, 0, none⟩ = some (.slice La M Lc) := by simp [World.cell?, hbx]
  have b0 : (M : Int) ≤ 4000000 := by omega
  have b1 : (q : Int) ≤ 4000000 := by omega
  have b2 : (n : Int) ≤ 3000000 := by omega
  have hdiv : (M : Int) / 3 = q := by omega
  have HQ : Hid (M = 3 * q) := hq
  clear h hv hM hLv hNv hvl hq
  go_enter Try.func35, Try.ntmps35
  go_wp2_with fail
  have HA : Hid (∀ (i : Nat), i / 3 = q → (-1 : Int) - ((i / 3 : Nat) : Int) = -1 - (q : Int)) := fun i hi => by rw [hi]
  generalize (-1 : Int) - (q : Int) = a at HA ⊢
  clear hdiv b1
  go_loopw [6] (fun u wr => ∃ i : Nat, i ≤ n ∧ u = .int .i64 i ∧ wr.ownsRow 0 3 1 (.slice va n vc) n (List.replicate i (Value.int .i64 a) ++ xs.drop i) ∧ Turns (fun i => (Value.slice va n vc).ownBlock = some i) w wr) (fun u _ => n + 1 - (intOf u).toNat)
  case atStart => exact ⟨0, Nat.zero_le _, rfl, by simpa using HV.out, Turns.refl _ _⟩
  case round =>
  obtain ⟨i, hin, rfl, o1, t1⟩ := hrel
  by_cases hlt : i < n
  · have a1 : (i : Int) < n := by omega
    have a2 : (0 : Int) ≤ i := by omega
    obtain ⟨g, rfl, hvc⟩ : ∃ g, va = some ⟨g, 0, none⟩ ∧ n ≤ vc := by
      rcases own_shape o1 with ⟨_, r⟩ | ⟨g, cap', r, r2, _⟩
      · omega
      · cases r; exact ⟨g, rfl, r2⟩
    obtain ⟨z, hz⟩ : ∃ z, (List.replicate i (Value.int .i64 a) ++ xs.drop i)[i]? = some z := ⟨_, List.getElem?_eq_getElem (by have := o1.1; omega)⟩
    have y1 := (o1.cellAt i (by omega)).trans hz
    have y2 := o1.frozenAt i
    have o2 := (o1.stored i (.int .i64 a)).1
    rw [rep_set _ i _ (by rw [HXL.out]; exact hlt)] at o2
    have t2 := t1.trans (Turns.cell wr g i (.int .i64 a)) (fun j _ r => by rw [r]; rfl)
    clear o1 t1 hz
    go_wp2_with fail
    go_roundw
    case rel => exact ⟨i + 1, by omega, by go_num, o2, t2⟩
    case measure => simp [intOf]; omega
  · obtain rfl : i = n := by omega
    rw [List.drop_eq_nil_of_le (by rw [HXL.out]; exact Nat.le_refl _), List.append_nil] at o1
    obtain ⟨W0, hW0⟩ : ∃ W0, W0 = wr := ⟨wr, rfl⟩
    subst hW0
    have g0 : ∀ b, (Value.slice va i vc).ownBlock = some b → (Value.slice va i vc).ownBlock = some b ∨ w.heap.size ≤ b := fun b hb => Or.inl hb
    go_wp2_with (first
      | (at_builtin; refine wpList_append_own_split _ rfl _ _ 29 rfl 0 3 i0 (.int .i64 0) 1 8 Try.underlying29 hi hz0 hz1 hz2 rfl (by decide) _ i _ rfl (World.ownsRow.alloc o1 _) ⟨W0.heap.size, 0, none⟩ 1 1 [.int .i64 a] (by decide) rfl rfl (cell_one_new _ _ _) (by intro u hu; simp at hu; subst hu; rfl) (by unfold maxLen; omega) (by omega) (Nat.zero_le _) ?_; intro v2 w2 o2 l2; rw [mk_succ] at o2; have p2 := own_after (m := 0) (World.ownsRow.alloc o1 _) (World.ownsRow.alloc o1 _) o2 l2 (by omega); have s2 := Laid.step g0 t1 l2; clear l2)
      | (at_builtin; refine wpList_append_own_split _ rfl _ _ 29 rfl 0 3 i0 (.int .i64 0) 1 8 Try.underlying29 hi hz0 hz1 hz2 rfl (by decide) _ i _ rfl (World.ownsRow.alloc p2 _) ⟨w2.heap.size, 0, none⟩ 2 2 [.int .i64 a, .int .i64 a] (by decide) rfl rfl (cells_2 _ _ _ _) (by intro u hu; simp at hu; subst hu; rfl) (by unfold maxLen; omega) (by omega) (Nat.zero_le _) ?_; intro v3 w3 o3 l3; rw [mk_two] at o3; have p3 := own_after (m := 0) (World.ownsRow.alloc p2 _) (World.ownsRow.alloc p2 _) o3 l3 (by omega); have r3 := own_after (m := 0) (World.ownsRow.alloc o2 _) (World.ownsRow.alloc p2 _) o3 l3 (by omega); have s3 := Laid.step g0 s2.1 l3; clear l3))
    have g2 := s2.2
    clear o1 t1 o2 p2 s2
    go_loopw [8, 9] (fun gv u wr => ∃ r : Nat, r ≤ 64 ∧ u = .int .i64 r ∧ wr.ownsRow 0 3 1 gv (i + 2 + r) (mk (i + 2 + r) a) ∧ wr.ownsRow 0 3 1 (.slice va i vc) i (mk i a) ∧ wr.ownsRow 0 3 1 v2 (i + 1) (mk (i + 1) a) ∧ Turns (fun j => (Value.slice va i vc).ownBlock = some j) w wr ∧ Hid (∀ b, gv.ownBlock = some b → (Value.slice va i vc).ownBlock = some b ∨ w.heap.size ≤ b)) (fun _ u _ => 65 - (intOf u).toNat)
    case atStart => exact ⟨0, Nat.zero_le _, rfl, o3, p3, r3, s3.1, s3.2⟩
    case round =>
    clear o3 p3 r3 s3
    obtain ⟨r, hr, rfl, o3, p3, r3, t3, gb⟩ := hrel
    obtain ⟨ga, gc, hgv⟩ := own_slice o3
    subst hgv
    by_cases hr6 : r < 64
    · have a1 : (r : Int) < 64 := by omega
      obtain ⟨W4, hW4⟩ : ∃ W4, W4 = wr := ⟨wr, rfl⟩
      subst hW4
      go_wp2_with (at_builtin; refine wpList_append_own_split _ rfl _ _ 29 rfl 0 3 i0 (.int .i64 0) 1 8 Try.underlying29 hi hz0 hz1 hz2 rfl (by decide) _ (i + 2 + r) _ rfl (World.ownsRow.alloc o3 _) ⟨W4.heap.size, 0, none⟩ 1 1 [.int .i64 a] (by decide) rfl rfl (cell_one_new _ _ _) (by intro u hu; simp at hu; subst hu; rfl) (by unfold maxLen; omega) (by omega) (Nat.zero_le _) ?_; intro v5 w5 o5 l5; rw [mk_succ] at o5; have p5 := own_after (m := 0) (World.ownsRow.alloc p3 _) (World.ownsRow.alloc o3 _) o5 l5 (by omega); have r5 := own_after (m := 0) (World.ownsRow.alloc r3 _) (World.ownsRow.alloc o3 _) o5 l5 (by omega); have s5 := Laid.step gb.out t3 l5; clear l5)
      have H5 : Hid (∀ b, v5.ownBlock = some b → (Value.slice va i vc).ownBlock = some b ∨ w.heap.size ≤ b) := s5.2
      have T5 := s5.1
      clear o3 p3 r3 t3 gb s5
      go_roundw
      case rel => exact ⟨r + 1, by omega, by go_num, o5, p5, r5, T5, H5⟩
      case measure => simp [intOf]; omega
    · obtain rfl : r = 64 := by omega
      obtain ⟨W6, hW6⟩ : ∃ W6, W6 = wr := ⟨wr, rfl⟩
      subst hW6
      obtain ⟨a2, c2, hv2⟩ := own_slice r3
      subst hv2
      have L6 : W6.ownsRow 0 29 1 (.slice La M Lc) M (es.map (·.v)) := by
        have := own_turns HH.out.rowL t3 (fun b hb e => by have h1 := HvL.out b e; have h2 := HH.out.lL b hb; omega)
        rw [HLv.out, HM.out] at this; exact this
      have N6 : W6.ownsRow 0 3 1 (.slice Na M Nc) M (es.map (fun e => Value.int .i64 e.n)) := by
        have := own_turns HH.out.rowN t3 (fun b hb e => by have h1 := HvL.out b e; have h2 := HH.out.lN b hb; omega)
        rw [HNv.out, HM.out] at this; exact this
      have bx6 := (t3.block kb hkl (fun e => Hvk.out kb e rfl)).trans hbx
      have hk6 := heap_lt bx6
      have d0 : W6.cell? ⟨kb, 0, none⟩ = some (.slice La M Lc) := by simp [World.cell?, bx6]
      have d1 : W6.cell? ⟨kb, 1, none⟩ = some (.slice Na M Nc) := by simp [World.cell?, bx6]
      have hLk : (Value.slice La M Lc).ownBlock ≠ some kb := own_typ L6 bx6 (by decide)
      have hNk : (Value.slice Na M Nc).ownBlock ≠ some kb := own_typ N6 bx6 (by decide)
      go_wp2_with (first
        | (at_builtin; refine wpList_append_own_split _ rfl _ _ 69 rfl 0 29 j0 (.slice none 0 0) 1 24 Try.underlying69 ji jz0 jz1 jz2 rfl (by decide) _ M _ rfl (World.ownsRow.alloc L6 _) ⟨W6.heap.size, 0, none⟩ 3 3 [.slice va i vc, .slice a2 (i + 1) c2, .slice ga (i + 2 + 64) gc] (by decide) rfl rfl (cells_3 _ _ _ _ _) (by intro u hu; simp at hu; rcases hu with rfl | rfl | rfl <;> rfl) (by unfold maxLen; omega) (by omega) (Nat.zero_le _) ?_; intro L7 W7 o7 l7
           have e7 := l7.turns
           have T7 := (Turns.alloc _ W6 _).trans e7.1 (fun _ _ e => e)
           have n7 : ∀ b, L7.ownBlock = some b → (Value.slice La M Lc).ownBlock = some b ∨ W6.heap.size ≤ b := fun b hb => (by { rcases e7.2 b hb with e | e; · { exact Or.inl e }; · { right; simp at e; omega } })
           have bx7 := (T7.block kb hk6 hLk).trans bx6
           have f0 : W7.cell? ⟨kb, 0, none⟩ = some (.slice La M Lc) := (by simp [World.cell?, bx7])
           have f1 : W7.cell? ⟨kb, 1, none⟩ = some (.slice Na M Nc) := (by simp [World.cell?, bx7])
           have z0 : W7.frozen? ⟨kb, 0, none⟩ = false := (by simp [World.frozen?, bx7])
           obtain ⟨La7, Lc7, hL7⟩ := own_slice o7
           subst hL7
           have bx8 := heap_setCell_same _ _ 0 _ _ (.slice La7 (M + 3) Lc7) bx7
           have k1 : (W7.setCell ⟨kb, 0, none⟩ (.slice La7 (M + 3) Lc7)).cell? ⟨kb, 1, none⟩ = some (.slice Na M Nc) := (by simp [World.cell?, bx8])
           have N7 := own_turns N6 T7 (fun b hb e => own_ap N6 L6 (by decide) hb e)
           have N8 := own_turns N7 (Turns.cell W7 kb 0 (.slice La7 (M + 3) Lc7)) (fun b hb e => by { subst e; exact hNk hb })
           have hs8 : (W7.setCell ⟨kb, 0, none⟩ (.slice La7 (M + 3) Lc7)).heap.size = W7.heap.size := (by simp)
           clear l7 e7)
        | (at_builtin; refine wpList_append_own_split _ rfl _ _ 29 rfl 0 3 i0 (.int .i64 0) 1 8 Try.underlying29 hi hz0 hz1 hz2 rfl (by decide) _ M _ rfl (World.ownsRow.alloc N8 _) ⟨W7.heap.size, 0, none⟩ 3 3 [.int .i64 i, .int .i64 ((i : Int) + 1), .int .i64 ((i : Int) + 66)] (by decide) rfl rfl (fun j u hu => by { have h9 := cells_3 (W7.setCell ⟨kb, 0, none⟩ (.slice La7 (M + 3) Lc7)) (.int .i64 i) (.int .i64 ((i : Int) + 1)) (.int .i64 ((i : Int) + 66)) 3 j u hu; rw [hs8] at h9; exact h9 }) (by intro u hu; simp at hu; rcases hu with rfl | rfl | rfl <;> rfl) (by unfold maxLen; omega) (by omega) (Nat.zero_le _) ?_; intro N9 W9 o9 l9
           have e9 := l9.turns
           have T9 := (Turns.alloc _ (W7.setCell ⟨kb, 0, none⟩ (.slice La7 (M + 3) Lc7)) _).trans e9.1 (fun _ _ e => e)
           have n9 : ∀ b, N9.ownBlock = some b → (Value.slice Na M Nc).ownBlock = some b ∨ W7.heap.size ≤ b := fun b hb => (by { rcases e9.2 b hb with e | e; · { exact Or.inl e }; · { right; simp at e; omega } })
           have bx9 := (T9.block kb (heap_lt bx8) hNk).trans bx8
           have y1 : W9.cell? ⟨kb, 1, none⟩ = some (.slice Na M Nc) := (by simp [World.cell?, bx9])
           have y2 : W9.frozen? ⟨kb, 1, none⟩ = false := (by simp [World.frozen?, bx9])
           obtain ⟨Na9, Nc9, hN9⟩ := own_slice o9
           subst hN9
           clear l9 e9))
      first | go_end0 | refine bodyPost_ret (results_none rfl _ _ _) rfl ?_
      have K := bo_kept (h := HH.out) (q := q) (n := i) (a := a) (v := .slice va i vc) (v2 := .slice a2 (i + 1) c2) (v3 := .slice ga (i + 2 + 64) gc) (L' := .slice La7 (M + 3) Lc7) (N' := .slice Na9 (M + 3) Nc9) (by rw [HM.out]; exact HQ.out) HA.out (by rw [HM.out]; exact hes) hn HvL.out t3 p3 r3 o3 g2 gb.out (by rw [HLv.out, HM.out]; exact T7) (by rw [HM.out]; exact o7) (by rw [HLv.out, HM.out]; exact n7) (by rw [HNv.out, HM.out]; exact T9) (by rw [HM.out]; exact o9) (by rw [HNv.out, HM.out]; exact n9)
      exact ⟨rfl, _, _, _, ⟨_, _, K.1⟩, K.2, fun j hj hj4 => by unfold kl; rw [if_pos hj, if_neg hj4]⟩
end Go.Proofs.Ytbopghpfghaoeaa
