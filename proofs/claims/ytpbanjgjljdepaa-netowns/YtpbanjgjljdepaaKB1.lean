/- The book of lists that were handed out or in, each full of its mark; keep by its contract. -/
import Derived.Test.YtpbanjgjljdepaaKB0
import Derived.Test.YtpbanjgjljdepaaSplit
namespace Go.Proofs.Ytpbanjgjljdepaa
open Go.RowKit Go.Maps
set_option maxRecDepth 100000

theorem Try.info90 : (Try.prog.info? 90).map (fun i => (i.zero, i.size, i.bytes)) = some (some (.agg #[.slice none 0 0, .int .u8 0, .int .i64 0]), 3, 40) := by kernel_rfl
/-- A list of the book, its mark, its length. -/
structure Ke where
  v : Value
  m : Int
  n : Nat
def kcs : List Ke → List Value
  | [] => []
  | e :: es => e.v :: .int .u8 e.m :: .int .i64 e.n :: kcs es
theorem kcs_app : ∀ (es fs : List Ke), kcs (es ++ fs) = kcs es ++ kcs fs
  | [], _ => rfl
  | e :: es, fs => by simp [kcs, kcs_app es fs]
theorem kcs_len : ∀ (es : List Ke), (kcs es).length = es.length * 3
  | [] => rfl
  | e :: es => by simp [kcs, kcs_len es]; omega
theorem kcs_at : ∀ (es : List Ke) (i : Nat) (e : Ke), es[i]? = some e → (kcs es)[i * 3]? = some e.v ∧ (kcs es)[i * 3 + 1]? = some (.int .u8 e.m) ∧ (kcs es)[i * 3 + 2]? = some (.int .i64 e.n)
  | [], _, _, h => by simp at h
  | x :: es, 0, e, h => by
    simp at h; subst h
    simp [kcs]
  | x :: es, i + 1, e, h => by
    have := kcs_at es i e (by simpa using h)
    rw [show (i + 1) * 3 = i * 3 + 1 + 1 + 1 by omega]
    simpa [kcs] using this
theorem kcs_drop : ∀ (es : List Ke) (i : Nat), kcs (es.drop i) = (kcs es).drop (i * 3)
  | [], i => by simp [kcs]
  | e :: es, 0 => by simp
  | e :: es, i + 1 => by
    rw [show (i + 1) * 3 = i * 3 + 1 + 1 + 1 by omega]
    simp [kcs, kcs_drop es i]
/-- n times the mark. -/
abbrev mks (m : Int) (n : Nat) : List Value := List.replicate n (Value.int .u8 m)
/-- The book in memory; K holds of every block that is the book's. -/
structure Bk (w : World) (K : Nat → Prop) (bv : Value) (es : List Ke) : Prop where
  row : Tl w 90 3 bv es.length (kcs es)
  kb : ∀ b, bv.ownBlock = some b → K b
  ml : ∀ e ∈ es, w.ownsRow 0 5 1 e.v e.n (mks e.m e.n)
  km : ∀ e ∈ es, ∀ b, e.v.ownBlock = some b → K b
  le : ∀ e ∈ es, e.n ≤ 4000000
theorem Bk.turns {F : Nat → Prop} {w w' : World} {K : Nat → Prop} {bv : Value} {es : List Ke} (h : Bk w K bv es) (t : Turns F w w') (hF : ∀ i, K i → ¬ F i) : Bk w' K bv es :=
  { h with
    row := tl_turns h.row t (fun b e => hF b (h.kb b e))
    ml := fun e he => own_turns (h.ml e he) t (fun b q => hF b (h.km e he b q)) }
theorem Bk.below {w w' : World} {K : Nat → Prop} {bv : Value} {es : List Ke} (h : Bk w K bv es) (hb : Below w.heap.size w w') : Bk w' K bv es := h.turns (Below.turns hb (fun _ => False)) (fun _ _ => id)
theorem Bk.mono {w : World} {K G : Nat → Prop} {bv : Value} {es : List Ke} (h : Bk w K bv es) (hG : ∀ i, K i → G i) : Bk w G bv es :=
  { h with kb := fun b e => hG b (h.kb b e), km := fun e he b q => hG b (h.km e he b q) }
theorem Bk.nil (w : World) (K : Nat → Prop) : Bk w K (.slice none 0 0) [] := ⟨Tl.of (World.ownsRow_nil w 0 _ _), (fun b h => by cases h), by simp, by simp, by simp⟩
theorem own_apart {w : World} {b1 b2 e1 e2 s1 s2 n m : Nat} {v u : Value} {xs ys : List Value} (h : w.ownsRow b1 e1 s1 v n xs) (k : w.ownsRow b2 e2 s2 u m ys) (hne : e1 ≠ e2) : ∀ b, v.ownBlock = some b → u.ownBlock ≠ some b := fun b hb hu => by
  rcases k.2 with ⟨rfl, _⟩ | ⟨g, cap, cur, rfl, _, hh, _⟩
  · cases hu
  · cases hu; exact own_typ h hh hne hb
/-- A list that stands while another one in its block, or elsewhere, is appended to. -/
theorem own_stays {w w' : World} {o : Obj} {x v v' : Value} {n k : Nat} {m : Int} (hx : w.ownsRow 0 5 1 x n (mks m n)) (hv : w.ownsRow 0 5 1 v k (mks m k)) (ho : w'.ownsRow 0 5 1 v' (k + 1) (mks m (k + 1))) (hL : Laid (w.alloc o) w' v v' k (k + 1)) (hn : n ≤ k + 1) : w'.ownsRow 0 5 1 x n (mks m n) := by
  have ha : w.grownBy (w.alloc o) none := ⟨rfl, rfl, rfl, by simp, fun i hi _ => Below.heap_alloc w o i hi⟩
  rcases hx.2 with hx2 | ⟨gx, cap, cur, rfl, hg, hh, hnc, hcm, hcs, htk⟩
  · exact ⟨hx.1, Or.inl hx2⟩
  · have hha : (w.alloc o).heap[gx]? = some (.cells cur 5 (0, 0)) := (ha.block gx (heap_lt hh) (by simp)).trans hh
    rcases hL with ⟨g, capv, rfl, rfl, hgr⟩ | ⟨cap', rfl, hgr⟩
    · by_cases e : gx = g
      · subst e
        rcases hv.2 with ⟨q, _⟩ | ⟨g2, cap2, cur2, q, _, hh2, _, _, hcs2, _⟩
        · cases q
        · obtain ⟨q1, q2⟩ : g2 = gx ∧ cap2 = capv := by cases q; exact ⟨rfl, rfl⟩
          subst q1
          rw [hh] at hh2
          have q3 : cur = cur2 := (Obj.cells.inj (Option.some.inj hh2)).1
          subst q3
          rcases ho.2 with ⟨r, _⟩ | ⟨g3, cap3, cur3, r, _, hh3, hnc3, hcm3, hcs3, htk3⟩
          · cases r
          · obtain ⟨r1, r2⟩ : g3 = g2 ∧ cap3 = capv := by cases r; exact ⟨rfl, rfl⟩
            subst r1
            refine ⟨hx.1, Or.inr ⟨g3, cap, cur3, rfl, Nat.zero_le _, hh3, hnc, hcm, by omega, ?_⟩⟩
            have : (cur3.toList.take ((k + 1) * 1)).take (n * 1) = (mks m (k + 1)).take (n * 1) := by rw [htk3]
            rw [List.take_take, Nat.min_eq_left (by omega)] at this
            rw [this]
            simp [Nat.min_eq_left hn]
      · exact ⟨hx.1, Or.inr ⟨gx, cap, cur, rfl, hg, (hgr.block gx (heap_lt hha) (fun q => e (Option.some.inj q))).trans hha, hnc, hcm, hcs, htk⟩⟩
    · exact ⟨hx.1, Or.inr ⟨gx, cap, cur, rfl, hg, (hgr.block gx (heap_lt hha) (by simp)).trans hha, hnc, hcm, hcs, htk⟩⟩
theorem laid_turns {w w' : World} {o : Obj} {v v' : Value} {n k : Nat} (hL : Laid (w.alloc o) w' v v' n k) : Turns (fun i => v.ownBlock = some i) w w' ∧ (v'.ownBlock = v.ownBlock ∨ v'.ownBlock = some (w.heap.size + 1)) := by
  have ta := Turns.alloc (fun i => v.ownBlock = some i) w o
  rcases hL with ⟨g, cap, rfl, rfl, hg⟩ | ⟨cap, rfl, hg⟩
  · exact ⟨ta.trans (Turns.grown (F := fun i => (Value.slice (some ⟨g, 0, none⟩) n cap).ownBlock = some i) hg (fun b hb => hb)) (fun _ _ h => h), Or.inl rfl⟩
  · exact ⟨ta.trans (Turns.grown (F := fun i => v.ownBlock = some i) hg (fun b hb => by cases hb)) (fun _ _ h => h), Or.inr (by simp [Value.ownBlock])⟩
theorem cell_three_new (w : World) (x y z : Value) (t : TypeId) : ∀ j u, [x, y, z][j]? = some u → (w.alloc (.cells #[x, y, z] t)).cell? ((⟨w.heap.size, 0, none⟩ : Addr).add j) = some u := by
  intro j u hj
  match j, hj with
  | 0, hj => simp at hj; subst hj; simp [Addr.add]
  | 1, hj => simp at hj; subst hj; simp [Addr.add]
  | 2, hj => simp at hj; subst hj; simp [Addr.add]
theorem mks_set (m : Int) (j : Nat) (y : Value) (ys : List Value) : (mks m j ++ y :: ys).set j (.int .u8 m) = mks m (j + 1) ++ ys := by
  rw [List.set_append_right _ _ (by simp)]
  simp [mks, List.replicate_succ']
theorem mks_succ (m : Int) (n : Nat) : mks m n ++ [.int .u8 m] = mks m (n + 1) := by simp [mks, List.replicate_succ']
/-- One more list in the book. -/
theorem Bk.add {w w' : World} {K : Nat → Prop} {bv bv' : Value} {es : List Ke} {o : Obj} (h : Bk w K bv es) {v : Value} {m : Int} {n : Nat} (hv : w.ownsRow 0 5 1 v n (mks m n)) (hn : n ≤ 4000000)
    (hr : Tl w' 90 3 bv' (es.length + 1) (kcs es ++ [v, .int .u8 m, .int .i64 n])) (hg : (w.alloc o).grownBy w' bv.ownBlock) (hat : bv'.ownBlock = bv.ownBlock ∨ bv'.ownBlock = some (w.alloc o).heap.size) :
    Bk w' (fun i => K i ∨ v.ownBlock = some i ∨ (w.heap.size ≤ i ∧ i < w'.heap.size)) bv' (es ++ [⟨v, m, n⟩]) ∧ Turns (fun i => bv.ownBlock = some i) w w' := by
  have t : Turns (fun i => bv.ownBlock = some i) w w' := (Turns.alloc _ w o).trans (Turns.grown (F := fun i => bv.ownBlock = some i) hg (fun b hb => hb)) (fun _ _ h => h)
  refine ⟨⟨by rw [kcs_app]; simpa [kcs] using hr, fun b e => ?_, fun e he => ?_, fun e he b q => ?_, fun e he => ?_⟩, t⟩
  · rcases hat with q | q
    · exact Or.inl (h.kb b (by rw [← q]; exact e))
    · have hlt := tl_lt hr e
      rw [q] at e; cases e
      exact Or.inr (Or.inr ⟨by simp, hlt⟩)
  · rcases List.mem_append.1 he with q | q
    · exact own_turns (h.ml e q) t (fun b hb => tl_apart (h.ml e q) h.row (by decide) b hb)
    · obtain rfl := List.mem_singleton.1 q
      exact own_turns hv t (fun b hb => tl_apart hv h.row (by decide) b hb)
  · rcases List.mem_append.1 he with r | r
    · exact Or.inl (h.km e r b q)
    · obtain rfl := List.mem_singleton.1 r
      exact Or.inr (Or.inl q)
  · rcases List.mem_append.1 he with r | r
    · exact h.le e r
    · obtain rfl := List.mem_singleton.1 r
      exact hn

/-- What keep leaves. -/
def Kept3 (w w' : World) (K : Nat → Prop) (bv l bv' : Value) (es : List Ke) : Prop :=
  ∃ fs : List Ke, fs.length = 3 ∧ Bk w' (fun i => K i ∨ l.ownBlock = some i ∨ (w.heap.size ≤ i ∧ i < w'.heap.size)) bv' (es ++ fs) ∧ Turns (fun i => bv.ownBlock = some i ∨ l.ownBlock = some i) w w'

set_option maxHeartbeats 4000000 in
theorem keep_any {w : World} {K : Nat → Prop} {bv : Value} {es : List Ke} (h : Bk w K bv es) (l : Value) (n : Nat) (xs : List Value) (hl : w.ownsRow 0 5 1 l n xs) (hlK : ∀ b, l.ownBlock = some b → ¬ K b) (hn : n ≤ 3000000) (hes : es.length ≤ 1000000000000) (m : Int) :
    Calls Try.prog 46 #[bv, l, .int .u8 m] w fun e w' => ∃ bv', e = .returned bv' ∧ Kept3 w w' K bv l bv' es := by
  obtain ⟨i0, hi, hz0, hz1, hz2⟩ := info_parts Try.info5
  obtain ⟨i1, hi', hy0, hy1, hy2⟩ := info_parts Try.info90
  obtain ⟨la, lc, rfl⟩ := own_slice hl
  obtain ⟨ba, bc, hbv⟩ := tl_slice h.row
  obtain ⟨E, hE⟩ : ∃ E, es.length = E := ⟨_, rfl⟩
  rw [hE] at hbv hes
  have HE : Hid (es.length = E) := hE
  clear hE
  subst hbv
  have hni : (n : Int) ≤ 3000000 := by omega
  go_enter Try.func46, Try.ntmps46
  go_wp2_with fail
  go_loopw [8] (fun i wr => ∃ (j : Nat) (ys : List Value), j ≤ n ∧ i = .int .i64 j ∧ wr.ownsRow 0 5 1 (.slice la n lc) n (mks m j ++ ys) ∧ Turns (fun i => (Value.slice la n lc).ownBlock = some i) w wr) (fun i _ => n - (intOf i).toNat)
  case atStart => exact ⟨0, xs, Nat.zero_le _, rfl, by simpa [mks] using hl, Turns.refl _ _⟩
  case round =>
    obtain ⟨j, ys, hj, rfl, hr, hT⟩ := hrel
    have hlen := hr.1
    by_cases hlt : j < n
    · have hji : (j : Int) < n := by omega
      obtain ⟨y, yt, rfl⟩ : ∃ y yt, ys = y :: yt := by
        cases ys with
        | nil => simp [mks] at hlen; omega
        | cons y yt => exact ⟨y, yt, rfl⟩
      obtain ⟨g, rfl⟩ : ∃ g, la = some ⟨g, 0, none⟩ := by
        rcases hr.2 with ⟨_, h0⟩ | ⟨g, cap, cur, q, _⟩
        · omega
        · cases q; exact ⟨g, rfl⟩
      have k0 : wr.cell? ⟨g, j, none⟩ = some y := by
        rw [hr.cellAt j (by omega)]; simp [mks]
      have f0 := hr.frozenAt j
      have hr2 := (hr.stored j (.int .u8 m)).1
      rw [mks_set] at hr2
      have hT2 := hT.trans (Turns.cell wr g j (.int .u8 m)) (fun i _ e => by subst e; rfl)
      have HR2 : Hid _ := hr2
      clear hr hr2 hlen
      go_wp2
      go_roundw
      case rel => exact ⟨j + 1, yt, by omega, by go_num, HR2.out, hT2⟩
      case measure => simp [intOf]; omega
    · obtain rfl : j = n := by omega
      obtain rfl : ys = [] := by simpa [mks] using hlen
      rw [List.append_nil] at hr
      clear hlen
      have hB := h.turns hT (fun i hK e => hlK i e hK)
      go_wp2_with (first | (at_builtin; refine wpList_append_own_split _ rfl _ _ 22 rfl 0 5 i0 (.int .u8 0) 1 1 Try.underlying22 hi hz0 hz1 hz2 rfl (by decide) _ j _ rfl (hr.alloc _) ⟨wr.heap.size, 0, none⟩ 1 1 [.int .u8 m] (by decide) rfl rfl (cell_one_new _ _ _) (by intro u hu; simp at hu; subst hu; rfl) (by unfold maxLen; omega) (by omega) (Nat.zero_le _) ?_; intro v1 w1 ho1 hL1))
      rw [mks_succ] at ho1
      obtain ⟨tA, atA⟩ := laid_turns hL1
      have hrA := own_stays hr hr ho1 hL1 (by omega)
      have hBA := hB.turns tA (fun i hK e => hlK i e hK)
      have hTA := hT.trans tA (fun _ _ h => h)
      have sA := hTA.size
      have sT := hT.size
      have b1 : ∀ b, v1.ownBlock = some b → (Value.slice la j lc).ownBlock = some b ∨ w.heap.size ≤ b := fun b e => by
        rcases atA with q | q
        · left; exact q.symm.trans e
        · right; rw [q] at e; cases e; omega
      obtain ⟨a1, c1, rfl⟩ := own_slice ho1
      clear hL1 atA tA hT hB hr
      obtain ⟨wA, hwA⟩ : ∃ wA, wA = w1 := ⟨w1, rfl⟩
      subst hwA
      go_loopw [10, 11] (fun v2 i wr => ∃ t : Nat, t ≤ 80 ∧ i = .int .i64 t ∧ wr.ownsRow 0 5 1 v2 (j + t) (mks m (j + t)) ∧ wr.ownsRow 0 5 1 (.slice la j lc) j (mks m j) ∧ wr.ownsRow 0 5 1 (.slice a1 (j + 1) c1) (j + 1) (mks m (j + 1)) ∧ Turns (fun i => (Value.slice la j lc).ownBlock = some i) w wr ∧ (∀ b, v2.ownBlock = some b → (Value.slice la j lc).ownBlock = some b ∨ w.heap.size ≤ b)) (fun _ i _ => 80 - (intOf i).toNat)
      case atStart => exact ⟨0, Nat.zero_le _, rfl, hrA, hrA, ho1, hTA, fun b e => Or.inl e⟩
      case round =>
        obtain ⟨t, ht, rfl, r2, rl, r1, hT, b2⟩ := hrel
        obtain ⟨a2, c2, rfl⟩ := own_slice r2
        by_cases hlt : t < 80
        · have hti : (t : Int) < 80 := by omega
          have hgoes : ∀ {v' : Value} {w' : World} {o : Obj}, w'.ownsRow 0 5 1 v' (j + t + 1) (mks m (j + t) ++ [.int .u8 m]) → Laid (wr.alloc o) w' (.slice a2 (j + t) c2) v' (j + t) (j + t + 1) → w'.ownsRow 0 5 1 v' (j + (t + 1)) (mks m (j + (t + 1))) ∧ w'.ownsRow 0 5 1 (.slice la j lc) j (mks m j) ∧ w'.ownsRow 0 5 1 (.slice a1 (j + 1) c1) (j + 1) (mks m (j + 1)) ∧ Turns (fun i => (Value.slice la j lc).ownBlock = some i) w w' ∧ (∀ b, v'.ownBlock = some b → (Value.slice la j lc).ownBlock = some b ∨ w.heap.size ≤ b) := fun {v' w' o} ho hL => by
            rw [mks_succ] at ho
            obtain ⟨tN, atN⟩ := laid_turns hL
            refine ⟨ho, own_stays rl r2 ho hL (by omega), own_stays r1 r2 ho hL (by omega), ⟨tN.os.trans hT.os, tN.tape.trans hT.tape, tN.output.trans hT.output, Nat.le_trans hT.size tN.size, fun i hi hF => ?_⟩, fun b e => ?_⟩
            · refine (tN.block i (Nat.lt_of_lt_of_le hi hT.size) (fun e => ?_)).trans (hT.block i hi hF)
              rcases b2 i e with q | q
              · exact hF q
              · omega
            · rcases atN with q | q
              · exact b2 b (q.symm.trans e)
              · right; rw [q] at e; cases e; have := hT.size; omega
          have HG : Hid (∀ {v' : Value} {w' : World} {o : Obj}, w'.ownsRow 0 5 1 v' (j + t + 1) (mks m (j + t) ++ [.int .u8 m]) → Laid (wr.alloc o) w' (.slice a2 (j + t) c2) v' (j + t) (j + t + 1) → w'.ownsRow 0 5 1 v' (j + (t + 1)) (mks m (j + (t + 1))) ∧ w'.ownsRow 0 5 1 (.slice la j lc) j (mks m j) ∧ w'.ownsRow 0 5 1 (.slice a1 (j + 1) c1) (j + 1) (mks m (j + 1)) ∧ Turns (fun i => (Value.slice la j lc).ownBlock = some i) w w' ∧ (∀ b, v'.ownBlock = some b → (Value.slice la j lc).ownBlock = some b ∨ w.heap.size ≤ b)) := hgoes
          clear hgoes
          go_wp2_with (first | (at_builtin; refine wpList_append_own_split _ rfl _ _ 22 rfl 0 5 i0 (.int .u8 0) 1 1 Try.underlying22 hi hz0 hz1 hz2 rfl (by decide) _ (j + t) _ rfl (r2.alloc _) ⟨wr.heap.size, 0, none⟩ 1 1 [.int .u8 m] (by decide) rfl rfl (cell_one_new _ _ _) (by intro u hu; simp at hu; subst hu; rfl) (by unfold maxLen; omega) (by omega) (Nat.zero_le _) ?_; intro v3 w3 ho3 hL3))
          have hN := HG.out ho3 hL3
          clear HG ho3 hL3
          go_roundw
          case rel => exact ⟨t + 1, by omega, by go_num, hN⟩
          case measure => simp [intOf]; omega
        · obtain rfl : t = 80 := by omega
          have hB := h.turns hT (fun i hK e => hlK i e hK)
          have hrowB := hB.row
          rw [HE.out] at hrowB
          clear hrA ho1 hTA hBA sA
          have sT2 := hT.size
          go_wp2_with (first
            | (at_builtin; refine wpList_append_tl _ rfl _ _ 69 rfl 90 i1 (.agg #[.slice none 0 0, .int .u8 0, .int .i64 0]) 3 40 Try.underlying69 hi' hy0 hy1 hy2 rfl (by decide) _ (E) _ rfl (tl_alloc hrowB _) ⟨wr.heap.size, 0, none⟩ 1 1 [.slice la j lc, .int .u8 m, .int .i64 j] rfl rfl (cell_three_new _ _ _ _ _) (by intro u hu; simp at hu; rcases hu with rfl | rfl | rfl <;> rfl) (by unfold maxLen; omega) (by omega) ?_; intro vA wA hoA hgA hatA; obtain ⟨aA, cA, rfl⟩ := tl_slice hoA)
            | (at_builtin; refine wpList_append_tl _ rfl _ _ 69 rfl 90 i1 (.agg #[.slice none 0 0, .int .u8 0, .int .i64 0]) 3 40 Try.underlying69 hi' hy0 hy1 hy2 rfl (by decide) _ (E + 1) _ rfl (tl_alloc hoA _) ⟨wA.heap.size, 0, none⟩ 1 1 [.slice a1 (j + 1) c1, .int .u8 m, .int .i64 ((j + 1 : Nat) : Int)] rfl rfl (cell_three_new _ _ _ _ _) (by intro u hu; simp at hu; rcases hu with rfl | rfl | rfl <;> rfl) (by unfold maxLen; omega) (by omega) ?_; intro vB wB hoB hgB hatB; obtain ⟨aB, cB, rfl⟩ := tl_slice hoB)
            | (at_builtin; refine wpList_append_tl _ rfl _ _ 69 rfl 90 i1 (.agg #[.slice none 0 0, .int .u8 0, .int .i64 0]) 3 40 Try.underlying69 hi' hy0 hy1 hy2 rfl (by decide) _ (E + 1 + 1) _ rfl (tl_alloc hoB _) ⟨wB.heap.size, 0, none⟩ 1 1 [.slice a2 (j + 80) c2, .int .u8 m, .int .i64 ((j + 80 : Nat) : Int)] rfl rfl (cell_three_new _ _ _ _ _) (by intro u hu; simp at hu; rcases hu with rfl | rfl | rfl <;> rfl) (by unfold maxLen; omega) (by omega) ?_; intro vC wC hoC hgC hatC; obtain ⟨aC, cC, rfl⟩ := tl_slice hoC))
          go_ret
          obtain ⟨A1, A2⟩ := hB.add (v := .slice la j lc) (m := m) (n := j) rl (by omega) (by rw [HE.out]; exact hoA) hgA hatA
          have r1A := own_turns r1 A2 (fun b hb => tl_apart r1 hrowB (by decide) b hb)
          have r2A := own_turns r2 A2 (fun b hb => tl_apart r2 hrowB (by decide) b hb)
          obtain ⟨B1, B2⟩ := A1.add (v := .slice a1 (j + 1) c1) (m := m) (n := j + 1) r1A (by omega) (by rw [List.length_append, HE.out, kcs_app]; exact hoB) hgB hatB
          have r2B := own_turns r2A B2 (fun b hb => tl_apart r2A A1.row (by decide) b hb)
          obtain ⟨C1, C2⟩ := B1.add (v := .slice a2 (j + 80) c2) (m := m) (n := j + 80) r2B (by omega) (by rw [List.length_append, List.length_append, HE.out, kcs_app, kcs_app]; exact hoC) hgC hatC
          have sA2 := A2.size
          have sB2 := B2.size
          have sC2 := C2.size
          refine ⟨_, rfl, [⟨.slice la j lc, m, j⟩, ⟨.slice a1 (j + 1) c1, m, j + 1⟩, ⟨.slice a2 (j + 80) c2, m, j + 80⟩], rfl, ?_, ?_⟩
          · rw [show es ++ [(⟨.slice la j lc, m, j⟩ : Ke), ⟨.slice a1 (j + 1) c1, m, j + 1⟩, ⟨.slice a2 (j + 80) c2, m, j + 80⟩] = es ++ [⟨.slice la j lc, m, j⟩] ++ [⟨.slice a1 (j + 1) c1, m, j + 1⟩] ++ [⟨.slice a2 (j + 80) c2, m, j + 80⟩] by simp]
            refine C1.mono (fun i hi => ?_)
            rcases hi with ((hi | hi | hi) | hi | hi) | hi | hi
            · exact Or.inl hi
            · exact Or.inr (Or.inl hi)
            · exact Or.inr (Or.inr ⟨by omega, by omega⟩)
            · rcases b1 i hi with q | q
              · exact Or.inr (Or.inl q)
              · exact Or.inr (Or.inr ⟨q, by have := (r1A.lt i hi).2; omega⟩)
            · exact Or.inr (Or.inr ⟨by omega, by omega⟩)
            · rcases b2 i hi with q | q
              · exact Or.inr (Or.inl q)
              · exact Or.inr (Or.inr ⟨q, by have := (r2B.lt i hi).2; omega⟩)
            · exact Or.inr (Or.inr ⟨by omega, by omega⟩)
          · have t0 : Turns (fun i => (Value.slice ba E bc).ownBlock = some i ∨ (Value.slice la j lc).ownBlock = some i) w wr := hT.mono (fun i _ e => Or.inr e)
            refine ((t0.trans A2 (fun i _ e => Or.inl e)).trans B2 (fun i hi e => ?_)).trans C2 (fun i hi e => ?_)
            · rcases hatA with q | q
              · exact Or.inl (q.symm.trans e)
              · have q' := q.symm.trans e
                simp at q'
                omega
            · rcases hatB with q | q
              · rcases hatA with r | r
                · exact Or.inl (r.symm.trans (q.symm.trans e))
                · have r' := r.symm.trans (q.symm.trans e)
                  simp at r'
                  omega
              · have q' := q.symm.trans e
                simp at q'
                omega
end Go.Proofs.Ytpbanjgjljdepaa
