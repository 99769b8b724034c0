/- Due of an alarm whose keys are ints, by its contract. -/
import Derived.Test.YtbopghpfghaoeaaHAi
import Derived.Deep.DeepAppendWide
namespace Go.Proofs.Ytbopghpfghaoeaa
open Go.RowKit Go.Maps
set_option maxRecDepth 100000
attribute [local go_sem ↓] Go.wp_at_zero Go.wp_at_succ
/-- The keys of some timers, as values. -/
def kvI (S : List (Int × Int)) : List Value := S.map (fun x => .int .i64 x.1)
/-- What Due leaves: the list v is labelled j. -/
def DueRI (w w' : World) (lab : Nat → Nat) (k ab j : Nat) (S : List (Int × Int)) (now : Int) (v : Value) : Prop :=
  ∃ lab', w'.ownsRow 0 3 1 v (dueS S now).length (kvI (dueS S now)) ∧ (∀ b, v.ownBlock = some b → w.heap.size ≤ b ∧ lab' b = j) ∧ AlI w' lab' k ab (leftS S now) ∧ (∀ i, i < w.heap.size → lab' i = lab i) ∧ Turns (fun i => lab i = k) w w'
/-- The labels behind a Due. -/
def dl (lab : Nat → Nat) (w : World) (k j : Nat) (v : Value) (i : Nat) : Nat := if i < w.heap.size then lab i else if v.ownBlock = some i then j else k
theorem own_apartI {w : World} {b1 b2 e1 e2 s1 s2 n1 n2 : Nat} {v1 v2 : Value} {x1 x2 : List Value} (h1 : w.ownsRow b1 e1 s1 v1 n1 x1) (h2 : w.ownsRow b2 e2 s2 v2 n2 x2) (hne : e1 ≠ e2) {b : Nat} (hb1 : v1.ownBlock = some b) (hb2 : v2.ownBlock = some b) : False := by
  rcases h2.2 with ⟨rfl, _⟩ | ⟨g, cap, cur, rfl, _, hh, _⟩
  · cases hb2
  · cases hb2
    exact own_typ h1 hh hne hb1
theorem AlI.due {w w1 w2 : World} {lab : Nat → Nat} {k ab j : Nat} {S : List (Int × Int)} {v : Value} {n bm : Nat} {rv : Value} {g : Nat} {l : List (Int × Int)} {xs : List Value} (hF : FlI w2 (rl lab w1 k) k ab bm rv g l) (hS : Sh OI l S) (hg : g ≤ l.length) (hv : w2.ownsRow 0 3 1 v n xs) (hab : ab < w.heap.size) (hla : lab ab = k) (hs : w.heap.size ≤ w1.heap.size) : AlI w2 (dl lab w k j v) k ab S := by
  obtain ⟨D, f, h9, r9⟩ := hF
  refine ⟨bm, rv, g, l, ⟨D, f, { h9 with lh := ?_, lm := ?_, lr := fun b q => ?_ }, r9⟩, hS, hg⟩
  · unfold dl; rw [if_pos hab]; exact hla
  · have := h9.lm
    unfold rl at this
    unfold dl
    by_cases q : bm < w.heap.size
    · rw [if_pos q]; rw [if_pos (by omega)] at this; exact this
    · rw [if_neg q, if_neg (fun q2 => by
        rcases hv.2 with ⟨rfl, _⟩ | ⟨g', cap, cur, rfl, _, hh, _⟩
        · cases q2
        · cases q2; exact map_cells h9.map hh rfl)]
  · have := h9.lr b q
    unfold rl at this
    unfold dl
    by_cases q1 : b < w.heap.size
    · rw [if_pos q1]; rw [if_pos (by omega)] at this; exact this
    · rw [if_neg q1, if_neg (fun q2 => own_apartI hv h9.row (by decide) q2 q)]
theorem own_zeroI {w : World} {base e s n : Nat} {v : Value} {xs : List Value} (h : w.ownsRow base e s v n xs) : w.ownsRow 0 e s v n xs := ⟨h.1, by
  rcases h.2 with q | ⟨g3, cap3, cur, q, _, r⟩
  · exact Or.inl q
  · exact Or.inr ⟨g3, cap3, cur, q, Nat.zero_le _, r⟩⟩
theorem lenF_I {w : World} {lab : Nat → Nat} {k ab bm g : Nat} {rv : Value} {l : List (Int × Int)} (h : FlI w lab k ab bm rv g l) :
    Calls Try.prog 14 #[.pointer (some ⟨ab, 0, none⟩)] w fun e w' => e = .returned (.int .i64 l.length) ∧ w' = w := by
  obtain ⟨D, f, h1, _⟩ := h
  obtain ⟨c0, c1, c2, c3, fz⟩ := h1.cells
  obtain ⟨ao, cap, hrv⟩ := own_slice h1.row
  rw [hrv] at c0
  clear h1
  go_enter Try.func14, Try.ntmps14
  go_wp2_with fail
  go_ret
  exact ⟨rfl, rfl⟩
theorem FlI.first {w : World} {lab : Nat → Nat} {k ab bm g : Nat} {rv : Value} {l T : List (Int × Int)} {m : Int × Int} (h : FlI w lab k ab bm rv g l) (hS : Sh OI l (m :: T)) : l[0]? = some m ∧ ∃ gr cap, w.cell? ⟨ab, 0, none⟩ = some (.slice (some ⟨gr, 0, none⟩) l.length cap) ∧ w.cell? ⟨gr, 1, none⟩ = some (.int .i64 m.2) ∧ 0 < l.length ∧ l.length ≤ cap := by
  obtain ⟨D, f, h1, hm, hp⟩ := h
  have hlen := hS.len
  simp at hlen
  obtain ⟨y, hy⟩ : ∃ y, l[0]? = some y := ⟨_, List.getElem?_eq_getElem (by omega)⟩
  obtain ⟨T', hT⟩ := hS.first hp hy
  cases hT
  obtain ⟨gr, cap, hrv, hcap, x0, x1, _⟩ := h1.at hy
  have c0 := h1.cells.c0
  rw [hrv] at c0
  exact ⟨hy, gr, cap, c0, x1, by omega, hcap⟩
set_option maxHeartbeats 4000000 in
theorem dueA_I {w : World} {lab : Nat → Nat} {k ab : Nat} {S : List (Int × Int)} (h : AlI w lab k ab S) (now : Int) (j : Nat) :
    Calls Try.prog 10 #[.pointer (some ⟨ab, 0, none⟩), .int .i64 now] w fun e w' => ∃ v, e = .returned v ∧ DueRI w w' lab k ab j S now v := by
  obtain ⟨i0, hi, hz0, hz1, hz2⟩ := info_parts Try.infoKI
  obtain ⟨bm, rv, g, l, hF, h2, h3⟩ := h
  have hblk : ab < w.heap.size ∧ bm < w.heap.size ∧ lab ab = k ∧ ∀ i, Fb bm rv i → i < w.heap.size ∧ lab i = k := by
    obtain ⟨D, f, h1, _⟩ := hF
    exact ⟨heap_lt h1.box, h1.map.lt, h1.lh, fun i q => h1.fb q⟩
  obtain ⟨hab, hbm, hla, hfb⟩ := hblk
  have hL : l.length ≤ 4398046511104 := by obtain ⟨D, f, h1, _⟩ := hF; exact h1.hl
  have hSl := h2.len
  have HF : Hid (FlI w lab k ab bm rv g l) := hF
  have HS : Hid (Sh OI l S) := h2
  obtain ⟨N, hN⟩ : ∃ N, S.length = N := ⟨_, rfl⟩
  have HN : Hid (S.length = N) := hN
  rw [hSl, hN] at hL h3
  clear hF h2 hSl hN
  go_enter Try.func10, Try.ntmps10
  go_wp2_with fail
  go_loopw [5] (fun v wr => ∃ (A R : List (Int × Int)) (rv' : Value) (l' : List (Int × Int)) (g' : Nat), Hid (S = A ++ R) ∧ Hid (∀ x ∈ A, x.2 ≤ now) ∧ FlI wr lab k ab bm rv' g' l' ∧ Sh OI l' R ∧ rv'.ownBlock = rv.ownBlock ∧ g' = g + A.length ∧ A.length + R.length = N ∧ wr.ownsRow w.heap.size 3 1 v A.length (kvI A) ∧ Turns (fun i => i = ab ∨ Fb bm rv i) w wr)
    (fun v _ => N + 1 - (match v with | .slice _ n _ => n | _ => 0))
  case atStart => exact ⟨[], S, rv, l, g, rfl, fun x hx => (by cases hx), HF.out, HS.out, rfl, rfl, by simpa using HN.out, World.ownsRow_nil _ _ _ _, Turns.refl _ _⟩
  case round =>
    obtain ⟨A, R, rv', l', g', hS, hA, hF, hSh, hrv, hg', hAR, hown, tr⟩ := hrel
    obtain ⟨ao, cap, hv⟩ := own_slice hown
    subst hv
    have hlr := hSh.len
    have HF' : Hid (FlI wr lab k ab bm rv' g' l') := hF
    have HO : Hid (wr.ownsRow w.heap.size 3 1 (.slice ao A.length cap) A.length (kvI A)) := hown
    cases R with
    | nil =>
      simp at hlr
      subst hlr
      have E := due_split (A := A) (R := []) (now := now) hA.out (fun y T q => by cases q)
      rw [← hS.out] at E
      have hlen := lenF_I hF
      clear hF
      go_wp2_with (go_at_call 14; refine hlen.mono ?_; rintro e wn ⟨rfl, hwn⟩; subst wn)
      refine (shrink_I HF'.out).mono ?_
      rintro e' w2 ⟨rfl, bm2, rv2, g2, F2, n2, t2⟩
      have o2 := own_turns HO.out t2 (fun b hb q => by have := (hown.lt b hb).1; omega)
      go_wp2_with fail
      go_ret
      refine ⟨.slice ao A.length cap, rfl, dl lab w k j (.slice ao A.length cap), ?_, ?_, ?_, fun i hi => if_pos hi, (tr.mono (fun i _ q => ?_)).trans t2 (fun i _ q => ?_)⟩
      · rw [E.1]; exact own_zeroI o2
      · intro b hb
        have hb2 := (hown.lt b hb).1
        exact ⟨hb2, by unfold dl; rw [if_neg (by omega), if_pos hb]⟩
      · rw [E.2]; exact AlI.due F2 hSh n2 (own_zeroI o2) hab hla tr.size
      · rcases q with q | q
        · rw [q]; exact hla
        · exact (hfb i q).2
      · rw [q]; exact hla
    | cons m T =>
      obtain ⟨hm0, gr, capr, c0, x1, hpos, hcr⟩ := hF.first hSh
      have hlen := lenF_I hF
      have a1 : (0 : Int) < l'.length := by omega
      by_cases hle : m.2 ≤ now
      · have hlt : g' < 8796093022208 := by simp at hAR; omega
        have HT : Hid (Calls Try.prog 40 #[.pointer (some ⟨ab, 0, none⟩), .int .i64 0] wr fun e w' => e = .returned (.agg #[.int .i64 m.1, .int .i64 m.2]) ∧ TakRI wr w' lab k ab bm g' rv' l' m) := take_I hF 0 m hm0 hlt
        have HFB : Hid (∀ i, (i = ab ∨ Fb bm rv' i) → (i = ab ∨ Fb bm rv i)) := fun i q => by
          rcases q with q | q | q
          · exact Or.inl q
          · exact Or.inr (Or.inl q)
          · rw [hrv] at q; exact Or.inr (Or.inr q)
        have HRV : Hid (rv'.ownBlock = rv.ownBlock) := hrv
        have HG : Hid (g' = g + A.length) := hg'
        have hfi : ∀ w', (Instr.field 88 (.agg #[.int .i64 m.1, .int .i64 m.2]) 0).run Try.prog w' = .ok (.int .i64 m.1) w' := fun w' => by kernel_rfl
        have hA1 : A.length < 4398046511104 := by simp at hAR; omega
        clear hF hm0 hrv hg'
        go_wp2_with (first
          | (go_at_call 14; refine hlen.mono ?_; rintro e wn ⟨rfl, hwn⟩; subst wn)
          | (go_at_call 40; refine HT.out.mono ?_; rintro e w1 ⟨rfl, r1⟩; have o1 : w1.ownsRow w.heap.size 3 1 (.slice ao A.length cap) A.length (kvI A) := (by { obtain ⟨rv1, l1, F1, t1, q1, n1, s1⟩ := r1; exact own_turns HO.out t1 (fun b hb q => by { have h9 := (HO.out.lt b hb).1; rcases HFB.out b q with q2 | q2; · { omega }; · { have := (hfb b q2).1; omega } }) }); have sz1 : w.heap.size ≤ w1.heap.size := (by { obtain ⟨rv1, l1, F1, t1, q1, n1, s1⟩ := r1; exact Nat.le_trans tr.size t1.size }))
          | (at_builtin; refine wpList_append_own _ rfl _ _ 29 rfl w.heap.size 3 i0 (.int .i64 0) 1 8 Try.underlying29 hi hz0 hz1 hz2 rfl (by decide) _ _ _ rfl (o1.alloc _) ⟨w1.heap.size, 0, none⟩ 1 1 [.int .i64 m.1] rfl rfl (cell_one_new _ _ _) (by intro u hu; simp at hu; subst hu; rfl) (by unfold maxLen; omega) (by omega) (by simp; omega) ?_; intro v' w3 o3 gr3 nil3))
        obtain ⟨rv1, l1, F1, t1, q1, n1, s1⟩ := r1
        have b3 : Below w1.heap.size w1 (w1.alloc (.cells #[.int .i64 m.1] 3)) := (Below.refl _ w1).alloc (Nat.le_refl _) _
        have T13 : Turns (fun i => (Value.slice ao A.length cap).ownBlock = some i) w1 w3 := (Turns.alloc _ _ _).trans (Turns.grown gr3 (fun b hb => hb)) (fun _ _ q => q)
        have F3 : FlI w3 lab k ab bm rv1 (g' + 1) l1 := by
          obtain ⟨D, f, h9, r9⟩ := F1
          refine ⟨D, f, h9.turnsX T13 (fun q => ?_) (fun q => ?_) (fun b q q2 => ?_), r9⟩
          · have := (HO.out.lt _ q).1; omega
          · have := (HO.out.lt _ q).1; omega
          · have h8 := (HO.out.lt _ q2).1
            have := (hfb b (Or.inr (by rw [← HRV.out, ← q1]; exact q))).1
            omega
        go_roundw
        case rel =>
          refine ⟨A ++ [m], T, rv1, l1, g' + 1, by show S = _; rw [hS.out]; simp, fun x hx => ?_, F3, ?_, q1.trans HRV.out, by rw [HG.out]; simp; omega, by simp at hAR ⊢; omega, ?_, ?_⟩
          · rcases List.mem_append.1 hx with q | q
            · exact hA.out x q
            · rw [List.mem_singleton.1 q]; exact hle
          · have := s1 _ hSh; rw [cutS_head hSh.keys] at this; exact this
          · have : kvI (A ++ [m]) = kvI A ++ [.int .i64 m.1] := by unfold kvI; simp
            rw [this]; simpa using o3
          · exact ((tr.trans t1 (fun i _ q => HFB.out i q))).trans T13 (fun i hi q => by have := (HO.out.lt _ q).1; omega)
        case measure =>
          obtain ⟨ao3, cap3, hv3⟩ := own_slice o3
          subst hv3
          simp at hAR ⊢; omega
      · have E := due_split (A := A) (R := m :: T) (now := now) hA.out (fun y T q => by cases q; omega)
        rw [← hS.out] at E
        clear hF
        go_wp2_with (go_at_call 14; refine hlen.mono ?_; rintro e wn ⟨rfl, hwn⟩; subst wn)
        refine (shrink_I HF'.out).mono ?_
        rintro e' w2 ⟨rfl, bm2, rv2, g2, F2, n2, t2⟩
        have o2 := own_turns HO.out t2 (fun b hb q => by have := (hown.lt b hb).1; omega)
        go_wp2_with fail
        go_ret
        refine ⟨.slice ao A.length cap, rfl, dl lab w k j (.slice ao A.length cap), ?_, ?_, ?_, fun i hi => if_pos hi, (tr.mono (fun i _ q => ?_)).trans t2 (fun i _ q => ?_)⟩
        · rw [E.1]; exact own_zeroI o2
        · intro b hb
          have hb2 := (hown.lt b hb).1
          exact ⟨hb2, by unfold dl; rw [if_neg (by omega), if_pos hb]⟩
        · rw [E.2]; exact AlI.due F2 hSh n2 (own_zeroI o2) hab hla tr.size
        · rcases q with q | q
          · rw [q]; exact hla
          · exact (hfb i q).2
        · rw [q]; exact hla
end Go.Proofs.Ytbopghpfghaoeaa
