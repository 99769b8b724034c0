/- Due of the document's own alarm, its keys ints, by its contract. -/
import Derived.Test.YtbopghpfghaoeaaD5i
namespace Go.Proofs.Ytbopghpfghaoeaa
open Go.RowKit Go.Maps
set_option maxRecDepth 100000
attribute [local go_sem ↓] Go.wp_at_zero Go.wp_at_succ

theorem Try.infoKeyI : (Try.prog.info? 51).map (fun i => (i.zero, i.size, i.bytes)) = some (some (.agg #[.int .i64 0, .string ⟨#[]⟩]), 2, 24) := by kernel_rfl
/-- The cells of a key. -/
def kcI (x : Int × Int) : List Value := [.int .i64 x.1, .string ⟨#[]⟩]
theorem kc_lenI (l : List (Int × Int)) : (l.flatMap kcI).length = l.length * 2 := by
  induction l with
  | nil => rfl
  | cons x l ih => rw [List.flatMap_cons, List.length_append, ih, List.length_cons]; simp [kcI]; omega
theorem kc_atI : ∀ (l : List (Int × Int)) (j : Nat) (x : Int × Int), l[j]? = some x → ∀ t v, (kcI x)[t]? = some v → (l.flatMap kcI)[j * 2 + t]? = some v := by
  intro l
  induction l with
  | nil => intro j x h; simp at h
  | cons y l ih =>
    intro j x h t v hv
    have ht : t < 2 := (List.getElem?_eq_some_iff.1 hv).1
    cases j with
    | zero => simp at h; subst h; rw [List.flatMap_cons, List.getElem?_append_left (by simp [kcI]; omega)]; simpa using hv
    | succ j =>
      have := ih j x (by simpa using h) t v hv
      rw [List.flatMap_cons, List.getElem?_append_right (by simp [kcI]; omega), show (j + 1) * 2 + t - (kcI y).length = j * 2 + t by simp [kcI]; omega]
      exact this
/-- What the document's Due leaves: the list v is labelled j. -/
def DueDI (w w' : World) (lab : Nat → Nat) (k rb j : Nat) (S : List (Int × Int)) (now : Int) (v : Value) : Prop :=
  ∃ lab', w'.ownsRow 0 51 2 v (dueS S now).length ((dueS S now).flatMap kcI) ∧ (∀ b, v.ownBlock = some b → w.heap.size ≤ b ∧ lab' b = j) ∧ ReI w' lab' k rb (leftS S now) ∧ (∀ i, i < w.heap.size → lab' i = lab i) ∧ Turns (fun i => lab i = k) w w'
set_option maxHeartbeats 4000000 in
theorem ddue_I {w : World} {lab : Nat → Nat} {k rb : Nat} {S : List (Int × Int)} (h : ReI w lab k rb S) (now : Int) (j : Nat) :
    Calls Try.prog 31 #[.pointer (some ⟨rb, 0, none⟩), .int .i64 now] w fun e w' => ∃ v, e = .returned v ∧ DueDI w w' lab k rb j S now v := by
  obtain ⟨i0, hi0, hz0, hz1, hz2⟩ := info_parts Try.infoKeyI
  obtain ⟨rv, l, h1, h2⟩ := h
  have hlb := heap_lt h1.box
  have hla := h1.lb
  have hL := h1.hl
  rw [h2.len] at hL
  obtain ⟨N, hN⟩ : ∃ N, S.length = N := ⟨_, rfl⟩
  rw [hN] at hL
  have HN : Hid (S.length = N) := hN
  have HR : Hid (RxI w lab k rb rv l) := h1
  have hf := first_I h1
  clear h1 hN
  go_enter Try.func31, Try.ntmps31
  go_wp2_with (go_at_call 54; refine hf.mono ?_; rintro e w1 ⟨z, rfl, hF, b1⟩)
  have HF : Hid (FstI l z) := hF
  clear hf hF
  go_loopw [5, 6] (fun v u wr => ∃ (A R : List (Int × Int)) (rv : Value) (l : List (Int × Int)) (z : Int), Hid (S = A ++ R) ∧ Hid (∀ x ∈ A, x.2 ≤ now) ∧ RxI wr (rl lab w k) k rb rv l ∧ Sh OI l R ∧ Hid (FstI l z) ∧ A.length + R.length = N ∧ u = .int .i64 z ∧ wr.ownsRow w.heap.size 51 2 v A.length (A.flatMap kcI) ∧ Turns (fun i => lab i = k) w wr)
    (fun v _ _ => N + 1 - (match v with | .slice _ n _ => n | _ => 0))
  case atStart => exact ⟨[], S, rv, l, z, rfl, fun x hx => (by cases hx), (HR.out.below b1).lift, h2, HF, by simpa using HN.out, rfl, World.ownsRow_nil _ _ _ _, Below.turns b1 _⟩
  case round =>
    obtain ⟨A, R, rv, l, z, hS, hA, hR, hSh, hFz, hAR, rfl, hown, tr⟩ := hrel
    obtain ⟨ao, cap, hv⟩ := own_slice hown
    subst hv
    have HEnd : Hid ((∀ y T, R = y :: T → now < y.2) → DueDI w wr lab k rb j S now (.slice ao A.length cap)) := fun hb => by
      have E := due_split (A := A) (R := R) (now := now) hA.out hb
      rw [← hS.out] at E
      refine ⟨dl lab w k j (.slice ao A.length cap), by rw [E.1]; exact own_zeroI hown, fun b hb => ⟨(hown.lt b hb).1, by unfold dl; rw [if_neg (by have := (hown.lt b hb).1; omega), if_pos hb]⟩, ?_, fun i hi => if_pos hi, tr⟩
      rw [E.2]
      refine ⟨rv, l, { hR with lb := ?_, lr := fun b q => ?_ }, hSh⟩
      · unfold dl; rw [if_pos hlb]; exact hla
      · have := hR.lr b q
        unfold rl at this
        unfold dl
        by_cases q1 : b < w.heap.size
        · rw [if_pos q1]; rw [if_pos q1] at this; exact this
        · rw [if_neg q1, if_neg (fun q2 => own_apartI (own_zeroI hown) hR.row (by decide) q2 q)]
    rcases hFz.out with ⟨rfl, rfl⟩ | ⟨n, m, rfl, hn, hmin⟩
    · have hRn : R = [] := List.eq_nil_of_length_eq_zero (by have := hSh.len; simpa using this.symm)
      have HE2 : Hid (DueDI w wr lab k rb j S now (.slice ao A.length cap)) := HEnd.out (fun y T q => by rw [hRn] at q; cases q)
      clear hR hSh hFz HEnd
      go_wp2_with fail
      go_ret
      exact ⟨_, rfl, HE2.out⟩
    · obtain ⟨T, hT⟩ := hSh.minI hn hmin
      subst hT
      obtain ⟨gr, cap', hrv, hcap, y0, y1, y2, yf⟩ := hR.at hn
      have c0 := hR.c0
      rw [hrv] at c0
      have hnl := (List.getElem?_eq_some_iff.1 hn).1
      have a1 : (n : Int) < l.length := by omega
      have a2 : (0 : Int) ≤ n := by omega
      by_cases hle : m.2 ≤ now
      · have hA1 : A.length < 4398046511104 := by simp at hAR; omega
        have hlt2 : rb < wr.heap.size := heap_lt hR.box
        have HR2 : Hid (RxI wr (rl lab w k) k rb rv l) := hR
        have HO : Hid (wr.ownsRow w.heap.size 51 2 (.slice ao A.length cap) A.length (A.flatMap kcI)) := hown
        have hws := tr.size
        clear hR HEnd hFz hmin hrv yf
        go_wp2_with (at_builtin; refine wpList_append_own _ rfl _ _ 64 rfl w.heap.size 51 i0 (.agg #[.int .i64 0, .string ⟨#[]⟩]) 2 24 Try.underlying64 hi0 hz0 hz1 hz2 rfl (by decide) _ _ _ rfl (hown.alloc _) ⟨wr.heap.size, 0, none⟩ 1 1 [.int .i64 m.1, .string ⟨#[]⟩] rfl rfl (World.news_of_block (heap_alloc_new _ _)) (by intro u hu; simp at hu; rcases hu with rfl | rfl <;> rfl) (by unfold maxLen; omega) (by omega) (by simp; omega) ?_; intro v' w3 o3 gr3 nil3)
        have T3 : Turns (fun i => (Value.slice ao A.length cap).ownBlock = some i) wr w3 := (Turns.alloc _ _ _).trans (Turns.grown gr3 (fun b hb => hb)) (fun _ _ q => q)
        have R3 : RxI w3 (rl lab w k) k rb rv l := { HR2.out with
          box := (T3.block rb hlt2 (fun q => by have := (HO.out.lt _ q).1; omega)).trans HR2.out.box
          row := own_turns HR2.out.row T3 (fun b q q2 => own_apartI (own_zeroI HO.out) HR2.out.row (by decide) q2 q) }
        have tr3 : Turns (fun i => lab i = k) w w3 := tr.trans T3 (fun i hi q => by have := (HO.out.lt _ q).1; omega)
        obtain ⟨ao3, cap3, hv3⟩ := own_slice o3
        subst hv3
        clear T3 gr3 nil3 c0 y0 y1 y2 hown
        refine (without_I R3 n hnl).mono ?_
        rintro e w4 ⟨rfl, rv4, R4, t4⟩
        have R4' : RxI w4 (rl lab w k) k rb rv4 (l.eraseIdx n) := { R4 with
          lb := by have := R4.lb; rw [rl_old (heap_lt R3.box)] at this; exact this
          lr := fun b q => by
            have := R4.lr b q
            unfold rl at this ⊢
            split
            · rename_i q1; rw [if_pos (Nat.lt_of_lt_of_le q1 tr3.size), if_pos q1] at this; exact this
            · rfl }
        have o4 := own_turns o3 t4 (fun b hb q => by have := (o3.lt b hb).1; omega)
        have tr4 : Turns (fun i => lab i = k) w w4 := tr3.trans t4 (fun i hi q => by subst q; exact hla)
        have hf4 := first_I R4'
        have HSh : Hid (Sh OI (l.eraseIdx n) T) := by
          have := hSh.dropI hn
          rw [cutS_head hSh.keys] at this; exact this
        clear R3 R4 t4 o3 hSh
        go_wp2_with (go_at_call 54; refine hf4.mono ?_; rintro e w5 ⟨z5, rfl, hF5, b5⟩)
        have HF5 : Hid (FstI (l.eraseIdx n) z5) := hF5
        clear hf4 hF5
        go_roundw
        case rel =>
          refine ⟨A ++ [m], T, rv4, l.eraseIdx n, z5, by show S = _; rw [hS.out]; simp, fun x hx => ?_, R4'.below b5, HSh.out, HF5, by simp at hAR ⊢; omega, rfl, ?_, tr4.trans (Below.turns b5 (fun _ => False)) (fun _ _ q => q.elim)⟩
          · rcases List.mem_append.1 hx with q | q
            · exact hA.out x q
            · rw [List.mem_singleton.1 q]; exact hle
          · rw [List.flatMap_append, List.length_append]
            exact own_turns o4 (Below.turns b5 (fun _ => False)) (fun _ _ q => q)
        case measure => simp at hAR ⊢; omega
      · have HE2 : Hid (DueDI w wr lab k rb j S now (.slice ao A.length cap)) := HEnd.out (fun y T q => by cases q; omega)
        clear hR hSh hFz HEnd
        go_wp2_with fail
        go_ret
        exact ⟨_, rfl, HE2.out⟩
set_option maxHeartbeats 1000000 in
theorem numbers_any {w : World} {v : Value} {base : Nat} {l : List (Int × Int)} (h : w.ownsRow base 51 2 v l.length (l.flatMap kcI)) (hl : l.length ≤ 4398046511104) :
    Calls Try.prog 55 #[v] w fun e w' => ∃ u, e = .returned u ∧ w'.ownsRow w.heap.size 3 1 u l.length ((l.map Prod.fst).map (Value.int .i64)) ∧ Below w.heap.size w w' := by
  obtain ⟨i0, hi0, hz0, hz1, hz2⟩ := info_parts Try.infoKI
  obtain ⟨ao, cap, hv⟩ := own_slice h
  obtain ⟨N, hN⟩ : ∃ N, l.length = N := ⟨_, rfl⟩
  have HN : Hid (l.length = N) := hN
  have HO : Hid (w.ownsRow base 51 2 (.slice ao N cap) N (l.flatMap kcI)) := by have := h; rw [hv, hN] at this; exact this
  rw [hN] at hv hl
  subst hv
  have a0 : (N : Int) ≤ 4398046511104 := by omega
  clear h hN
  go_enter Try.func55, Try.ntmps55
  go_wp2_with fail
  go_loopw [3, 4] (fun v u wr => ∃ i : Nat, i ≤ N ∧ u = .int .i64 i ∧ wr.ownsRow w.heap.size 3 1 v i (((l.take i).map Prod.fst).map (Value.int .i64)) ∧ Below w.heap.size w wr) (fun _ u _ => N + 1 - (intOf u).toNat)
  case atStart => exact ⟨0, Nat.zero_le _, rfl, World.ownsRow_nil _ _ _ _, Below.refl _ _⟩
  case round =>
    obtain ⟨i, hi, rfl, hown, hB⟩ := hrel
    by_cases hlt : i < N
    · obtain ⟨x, hx⟩ : ∃ x, l[i]? = some x := ⟨_, List.getElem?_eq_getElem (by rw [HN.out]; exact hlt)⟩
      have e := kc_atI l i x hx
      obtain ⟨gl, rfl, hcap⟩ : ∃ gl, ao = some ⟨gl, 0, none⟩ ∧ N ≤ cap := by
        rcases own_shape HO.out with ⟨_, q⟩ | ⟨gl, cap', q, r, _⟩
        · omega
        · cases q; exact ⟨gl, rfl, r⟩
      have x0 := (HO.out.cellAt (i * 2) (by omega)).trans (e 0 _ rfl)
      have x1 := (HO.out.cellAt (i * 2 + 1) (by omega)).trans (e 1 _ rfl)
      have hgl := World.block_lt_of_cell? w _ x0
      have y0 := (hB.cell (p := ⟨gl, i * 2, none⟩) hgl).trans x0
      have y1 := (hB.cell (p := ⟨gl, i * 2 + 1, none⟩) hgl).trans x1
      have HX : Hid (l.take (i + 1) = l.take i ++ [x]) := by
        obtain ⟨h1, rfl⟩ := List.getElem?_eq_some_iff.1 hx
        exact List.take_succ_eq_append_getElem h1
      have a1 : (i : Int) < N := by omega
      have a2 : (0 : Int) ≤ i := by omega
      clear e hx x0 x1
      go_wp2_with (at_builtin; refine wpList_append_own _ rfl _ _ 29 rfl w.heap.size 3 i0 (.int .i64 0) 1 8 Try.underlying29 hi0 hz0 hz1 hz2 rfl (by decide) _ _ _ rfl (hown.alloc _) ⟨wr.heap.size, 0, none⟩ 1 1 [.int .i64 x.1] rfl rfl (cell_one_new _ _ _) (by intro u hu; simp at hu; subst hu; rfl) (by unfold maxLen; omega) (by omega) (by have := hB.size; simp; omega) ?_; intro v' w3 o3 gr3 nil3)
      go_roundw
      case rel =>
        refine ⟨i + 1, by omega, by go_num, ?_, ?_⟩
        · rw [HX.out, List.map_append, List.map_append]; exact o3
        · exact (hB.alloc hB.size _).grown gr3 (by have := hB.size; simp; omega) (fun k hk => (hown.lt k hk).1)
      case measure => simp [intOf]; omega
    · obtain rfl : i = N := by omega
      rw [List.take_of_length_le (by rw [HN.out]; exact Nat.le_refl _)] at hown
      go_wp2_with fail
      go_ret
      exact ⟨_, rfl, by rw [HN.out]; exact hown, hB⟩
end Go.Proofs.Ytbopghpfghaoeaa
