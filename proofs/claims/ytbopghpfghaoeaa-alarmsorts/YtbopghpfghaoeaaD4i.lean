/- New, Set, Cancel, At and Len of the document's own alarm, its keys ints, by their contracts. -/
import Derived.Test.YtbopghpfghaoeaaD2i
import Derived.Deep.AppendLies
namespace Go.Proofs.Ytbopghpfghaoeaa
open Go.RowKit Go.Maps
set_option maxRecDepth 100000
attribute [local go_sem ↓] Go.wp_at_zero Go.wp_at_succ

/-- The document's alarm: its keys with their times, the first ones first. -/
def ReI (w : World) (lab : Nat → Nat) (k rb : Nat) (S : List (Int × Int)) : Prop := ∃ rv l, RxI w lab k rb rv l ∧ Sh OI l S
theorem ReI.turns {F : Nat → Prop} {w w' : World} {lab lab' : Nat → Nat} {k rb : Nat} {S : List (Int × Int)} (h : ReI w lab k rb S) (t : Turns F w w') (hF : ∀ i, i < w.heap.size → lab i = k → ¬ F i) (hl : ∀ i, i < w.heap.size → lab' i = lab i) : ReI w' lab' k rb S := by
  obtain ⟨rv, l, h1, h2⟩ := h
  exact ⟨rv, l, h1.turns t hF hl, h2⟩
theorem ReI.below {w w' : World} {lab : Nat → Nat} {k rb : Nat} {S : List (Int × Int)} (h : ReI w lab k rb S) (b : Below w.heap.size w w') (j : Nat) : ReI w' (rl lab w j) k rb S :=
  h.turns (Below.turns b (fun _ => False)) (fun _ _ _ q => q) (fun _ hi => rl_old hi)
theorem ReI.drew {w : World} {lab : Nat → Nat} {k rb : Nat} {S : List (Int × Int)} (h : ReI w lab k rb S) (m : Nat) : ReI (w.drewN m) lab k rb S :=
  h.turns (Turns.drewN (fun _ => False) w m) (fun _ _ _ q => q) (fun _ _ => rfl)
theorem dnew_I (w : World) (lab : Nat → Nat) (k : Nat) : Calls Try.prog 19 #[] w fun e w' => ∃ rb, e = .returned (.pointer (some ⟨rb, 0, none⟩)) ∧ ReI w' (rl lab w k) k rb [] ∧ Below w.heap.size w w' := by
  go_enter Try.func19, Try.ntmps19
  go_wp2
  go_ret
  exact ⟨w.heap.size, rfl, ⟨.slice none 0 0, [], ⟨heap_alloc_new _ _, World.ownsRow_nil _ _ _ _, rl_new (Nat.le_refl _), fun b q => (by cases q), by decide⟩, Sh.nil⟩, (Below.refl _ w).alloc (Nat.le_refl _) _⟩
theorem dlen_I {w : World} {lab : Nat → Nat} {k rb : Nat} {S : List (Int × Int)} (h : ReI w lab k rb S) :
    Calls Try.prog 33 #[.pointer (some ⟨rb, 0, none⟩)] w fun e w' => e = .returned (.int .i64 S.length) ∧ w' = w := by
  obtain ⟨rv, l, h1, h2⟩ := h
  rw [← h2.len]
  have c0 := h1.c0
  obtain ⟨ao, cap, hrv⟩ := own_slice h1.row
  rw [hrv] at c0
  clear h1 h2
  go_enter Try.func33, Try.ntmps33
  go_wp2_with fail
  go_ret
  exact ⟨rfl, rfl⟩
/-- What a call leaves: the document's alarm shows S. -/
def ReRI (w w' : World) (lab : Nat → Nat) (k rb : Nat) (S : List (Int × Int)) : Prop := ReI w' (rl lab w k) k rb S ∧ Turns (fun i => lab i = k) w w'
set_option maxHeartbeats 2000000 in
theorem dset_I {w : World} {lab : Nat → Nat} {k rb : Nat} {S : List (Int × Int)} (h : ReI w lab k rb S) (a : Int) (t : Int) (hl : S.length < 4398046511104) :
    Calls Try.prog 21 #[.pointer (some ⟨rb, 0, none⟩), .agg #[.int .i64 a, .string ⟨#[]⟩], .int .i64 t] w fun e w' => e = .returned (.tuple #[]) ∧ ReRI w w' lab k rb (setS OI S a t) := by
  obtain ⟨i0, hi0, hz0, hz1, hz2⟩ := info_parts Try.infoItemI
  obtain ⟨rv, l, h1, h2⟩ := h
  have hlen := h2.len
  obtain ⟨W, hW⟩ : ∃ W, w.alloc (.cells #[.int .i64 a, .string ⟨#[]⟩] 51) = W := ⟨_, rfl⟩
  obtain ⟨z0, z1, _⟩ := box_two w (([.int .i64 a, .string ⟨#[]⟩] : List Value)[0]) (([.int .i64 a, .string ⟨#[]⟩] : List Value)[1]) 51
  simp only [List.getElem_cons_zero, List.getElem_cons_succ] at z0 z1
  rw [hW] at z0 z1
  have bW : Below w.heap.size w W := by rw [← hW]; exact (Below.refl _ w).alloc (Nat.le_refl _) _
  have hR := h1.below bW
  have hlb := heap_lt h1.box
  have hws := bW.size
  have hsz : w.heap.size < W.heap.size := World.block_lt_of_cell? W _ z0
  have HR0 : Hid (RxI w lab k rb rv l) := h1
  clear h1
  go_enter Try.func21, Try.ntmps21
  go_wp2_with fail
  refine (find_I hR a).mono ?_
  rintro e w1 ⟨z, rfl, hF, b1⟩
  have R1 := hR.below b1
  have x0 := (b1.cell (p := ⟨w.heap.size, 0, none⟩) hsz).trans z0
  have x1 := (b1.cell (p := ⟨w.heap.size, 1, none⟩) hsz).trans z1
  have B1 : Below w.heap.size w w1 := bW.trans (b1.mono bW.size)
  have hL := R1.hl
  clear hR z0 z1 hW bW
  rcases hF with ⟨rfl, hno⟩ | ⟨n, u, rfl, hn⟩
  · have c0 := R1.c0
    have hrow := R1.row
    have hbl := heap_lt R1.box
    have hxl := World.block_lt_of_cell? w1 _ x0
    have hne := R1.rvb
    obtain ⟨ao, cap, hrv⟩ := own_slice hrow
    rw [hrv] at c0 hrow hne
    have hbx := R1.box
    rw [hrv] at hbx
    obtain ⟨m, hml⟩ : ∃ m, l.length = m := ⟨_, rfl⟩
    have HM : Hid (l.length = m) := hml
    rw [hml] at c0 hrow hne hbx hlen
    have hrd : w1.drew.ownsRow 0 114 3 (.slice ao m cap) m (l.flatMap dcI) := hrow
    have n1 : (w1.drew.alloc (.cells #[.int .i64 a, .string ⟨#[]⟩, .int .i64 t] 114)).cell? ⟨rb, 0, none⟩ = some (.slice ao m cap) := (World.cell?_of_block (w := w1) (a := ⟨rb, 0, none⟩) (Below.heap_alloc w1.drew _ rb hbl)).trans c0
    have a1 : (m : Int) < 4398046511104 := by omega
    have HRV : Hid (rv = .slice ao m cap) := by show _ = _; rw [hrv, hml]
    have HR1 : Hid (RxI w1 lab k rb rv l) := R1
    have HLen : Hid (m = S.length) := hlen
    have hm2 : m < 4398046511104 := by omega
    clear hml hrv R1 hlen hL
    go_wp2_with fail
    go_region_law
      (first
        | (refine step_append_lies _ rfl _ _ 106 rfl 0 114 i0 (.agg #[.int .i64 0, .string ⟨#[]⟩, .int .i64 0]) 3 32 Try.underlying106 hi0 hz0 hz1 hz2 rfl (by decide) _ m _ rfl (World.ownsRow.alloc hrd _) ⟨w1.heap.size, 0, none⟩ 1 1 [.int .i64 a, .string ⟨#[]⟩, .int .i64 t] rfl rfl (World.news_of_block (heap_alloc_new _ _)) (by intro u hu; simp at hu; rcases hu with rfl | rfl | rfl <;> rfl) (by decide) (by unfold maxLen; omega) (by omega) (Nat.zero_le _) _ rfl ?_; intro gC cC wC hoC hgC hatC hltC; have tC := ((Turns.drewN _ w1 1).trans ((Turns.alloc _ _ _).trans (Turns.grown (F := fun i => (Value.slice ao m cap).ownBlock = some i) hgC (fun b hb => hb)) (fun _ _ h => h)) (fun _ _ h => h)); have hrC := (tC.block rb hbl hne).trans hbx; have f3 : wC.cell? ⟨rb, 0, none⟩ = some (.slice ao m cap) := by { simp [World.cell?, hrC] }; have z3 : wC.frozen? ⟨rb, 0, none⟩ = false := by { simp [World.frozen?, hrC] })
        | fail)
    all_goals
      have hat : gC < w.heap.size → (Value.slice ao m cap).ownBlock = some gC := fun q => by
        rcases hatC with r | r
        · exact r
        · have := B1.size; simp at r; omega
      have t2 := Turns.cell wC rb 0 (.slice (some ⟨gC, 0, none⟩) (m + 1) cC)
      have hbb : ¬ gC = rb := fun q => by
        subst q
        exact own_typ (e := 114) hoC hrC (by decide) rfl
      clear f3 z3
      go_wp2_with fail
      first | go_end0 | refine bodyPost_ret (results_none rfl _ _ _) rfl ?_
      have hE : (l ++ [(a, t)]).length = m + 1 := by simp [HM.out]
      refine ⟨rfl, ⟨.slice (some ⟨gC, 0, none⟩) (m + 1) cC, l ++ [(a, t)], ⟨heap_setCell_same _ _ _ _ _ _ hrC, ?_, (rl_old hlb).trans HR0.out.lb, fun b hb => ?_, by rw [hE]; omega⟩, h2.more hno⟩, ?_⟩
      · rw [hE, List.flatMap_append]
        exact own_turns hoC t2 (fun b hb q => by cases hb; exact hbb q)
      · cases hb
        unfold rl
        split
        · rename_i q
          have := hat q
          rw [← HRV.out] at this
          exact HR0.out.lr _ this
        · rfl
      · refine ((Below.turns B1 (fun i => lab i = k)).trans tC (fun i hi q => ?_)).trans t2 (fun i hi q => ?_)
        · rw [← HRV.out] at q; exact HR0.out.lr i q
        · subst q; exact HR0.out.lb
  · obtain ⟨gr, cap, hrv, hcap, y0, y1, y2, yf⟩ := R1.at hn
    have c0 := R1.c0
    rw [hrv] at c0
    have hnl := (List.getElem?_eq_some_iff.1 hn).1
    have a1 : (n : Int) < l.length := by omega
    have a2 : (0 : Int) ≤ n := by omega
    have a3 : ¬ ((n : Int) < 0) := by omega
    have hR1 := R1.row
    rw [hrv] at hR1
    have o2 := (hR1.stored (n * 3 + 2) (.int .i64 t)).1
    rw [dc_setI l n a u t hn] at o2
    have hgr : rv.ownBlock = some gr := by rw [hrv]; rfl
    have HR1 : Hid (RxI w1 lab k rb rv l) := R1
    have hbg : ¬ rb = gr := fun q => R1.rvb (by rw [hrv, q]; rfl)
    have yf2 := yf (n * 3 + 2)
    clear R1 hR1 hrv yf
    go_wp2_with fail
    first | go_end0 | refine bodyPost_ret (results_none rfl _ _ _) rfl ?_
    have t2 := Turns.cell w1 gr (n * 3 + 2) (.int .i64 t)
    have hgl : gr < w.heap.size := by rcases own_lt HR0.out.row hgr with q; exact q
    refine ⟨rfl, ⟨rv, l.set n (a, t), ⟨(t2.block rb (heap_lt HR1.out.box) hbg).trans HR1.out.box, ?_, (rl_old hlb).trans HR0.out.lb, fun b hb => ?_, by rw [List.length_set]; exact hL⟩, h2.anew hn⟩, ?_⟩
    · rw [List.length_set]
      rcases own_shape HR1.out.row with ⟨q, _⟩ | ⟨g', cap', q, _⟩
      · rw [q] at hgr; cases hgr
      · have c0' := HR1.out.c0
        rw [q] at hgr; cases hgr
        have o3 := (HR1.out.row)
        rw [q] at o3 ⊢
        have := (o3.stored (n * 3 + 2) (.int .i64 t)).1
        rw [dc_setI l n a u t hn] at this
        exact this
    · have := HR0.out.lr b hb
      rw [rl_old (own_lt HR0.out.row hb)]; exact this
    · refine (Below.turns B1 (fun i => lab i = k)).trans t2 (fun i hi q => ?_)
      subst q; exact HR0.out.lr _ hgr
end Go.Proofs.Ytbopghpfghaoeaa
