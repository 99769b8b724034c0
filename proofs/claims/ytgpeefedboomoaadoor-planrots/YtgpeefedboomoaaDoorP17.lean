/- PlanOneForm, walked. -/
import Derived.Test.YtgpeefedboomoaaDoorP16
namespace Go.Proofs.YtgpeefedboomoaaDoor
open Go.RowKit
set_option maxRecDepth 100000

attribute [local go_sem ↓ 100000] ly_store ly_load
attribute [local go_sem] LyStore.new LyLoad.new LyStore.at LyLoad.at

theorem rs_none {bs : List Int} (h : ¬ (rsA bs).2 = 0) : (rsA bs).1 = shZ := by
  unfold rsA at h ⊢
  split
  · rfl
  · rename_i h1
    rw [if_neg h1] at h
    split
    · rfl
    · rename_i h2
      rw [if_neg h2] at h
      split
      · rfl
      · rename_i h3
        rw [if_neg h3] at h
        split
        · rfl
        · rename_i h4
          rw [if_neg h4] at h
          exact absurd rfl h
theorem digs_of (l : List Int) (hl : l.length = 32) (hby : ∀ x ∈ l, 0 ≤ x ∧ x ≤ 255) : digs (shpOf l).nums = l := by
  have e : ∀ i, i < 8 → be (numAt l i) 4 = (l.drop (4 * i)).take 4 := fun i hi => by
    have hl4 : ((l.drop (4 * i)).take 4).length = 4 := by simp [hl]; omega
    have h := be_val ((l.drop (4 * i)).take 4) (fun x hx => hby x (List.mem_of_mem_drop (List.mem_of_mem_take hx)))
    rw [hl4] at h
    exact h
  have e2 : digs (shpOf l).nums = be (numAt l 0) 4 ++ (be (numAt l 1) 4 ++ (be (numAt l 2) 4 ++ (be (numAt l 3) 4 ++ (be (numAt l 4) 4 ++ (be (numAt l 5) 4 ++ (be (numAt l 6) 4 ++ (be (numAt l 7) 4 ++ []))))))) := rfl
  rw [e2, e 0 (by decide), e 1 (by decide), e 2 (by decide), e 3 (by decide), e 4 (by decide), e 5 (by decide), e 6 (by decide), e 7 (by decide)]
  match l, hl with
  | [c0, c1, c2, c3, c4, c5, c6, c7, c8, c9, c10, c11, c12, c13, c14, c15, c16, c17, c18, c19, c20, c21, c22, c23, c24, c25, c26, c27, c28, c29, c30, c31], _ => rfl
theorem rs_form {bs : List Int} {s : Shp} (hby : ∀ x ∈ bs, 0 ≤ x ∧ x ≤ 255) (h : rsA bs = (s, 0)) : planE s = 0 ∧ bs = superB s := by
  unfold rsA at h
  by_cases h1 : bs.length ≠ 512 ∨ bs.take 4 ≠ [65, 78, 88, 83]
  · rw [if_pos h1] at h; cases h
  rw [if_neg h1] at h
  by_cases h2 : val ((bs.drop 36).take 8) ≠ sumOf (bs.take 36)
  · rw [if_pos h2] at h; cases h
  rw [if_neg h2] at h
  by_cases h3 : ¬ ∀ x ∈ bs.drop 44, x = 0
  · rw [if_pos h3] at h; cases h
  rw [if_neg h3] at h
  by_cases h4 : planE (shpOf ((bs.drop 4).take 32)) ≠ 0
  · rw [if_pos h4] at h
    exact absurd (congrArg Prod.snd h) h4
  rw [if_neg h4] at h
  have hs : shpOf ((bs.drop 4).take 32) = s := congrArg Prod.fst h
  have hlen : bs.length = 512 := Classical.not_not.1 fun e => h1 (Or.inl e)
  have hm : bs.take 4 = [65, 78, 88, 83] := Classical.not_not.1 fun e => h1 (Or.inr e)
  have hsum : val ((bs.drop 36).take 8) = sumOf (bs.take 36) := Classical.not_not.1 h2
  have hz : ∀ x ∈ bs.drop 44, x = 0 := Classical.not_not.1 h3
  have hp : planE (shpOf ((bs.drop 4).take 32)) = 0 := Classical.not_not.1 h4
  have hl32 : ((bs.drop 4).take 32).length = 32 := by simp [hlen]
  have hl8 : ((bs.drop 36).take 8).length = 8 := by simp [hlen]
  have hd := digs_of _ hl32 (fun x hx => hby x (List.mem_of_mem_drop (List.mem_of_mem_take hx)))
  rw [hs] at hd hp
  have hhead : bs.take 36 = headB s := by
    unfold headB
    rw [hd, ← hm, ← List.take_add]
  have h8 : (bs.drop 36).take 8 = be (sumOf (headB s)) 8 := by
    have h := be_val _ (fun x hx => hby x (List.mem_of_mem_drop (List.mem_of_mem_take hx)) : ∀ x ∈ (bs.drop 36).take 8, 0 ≤ x ∧ x ≤ 255)
    rw [hl8, hsum, hhead] at h
    exact h.symm
  have hr : bs.drop 44 = List.replicate 468 0 := List.eq_replicate_iff.2 ⟨by simp [hlen], hz⟩
  refine ⟨hp, ?_⟩
  unfold superB
  rw [← h8, ← hr, ← hhead, ← List.take_add, List.take_append_drop]

set_option maxHeartbeats 4000000 in
theorem oneForm_any (ao : Option Addr) (n c : Nat) (bs : List Int) (w : World) (hB : Bds w) (hn : n ≤ 140737488351232) (hL : Lies w ao n c bs) (hby : ∀ x ∈ bs, 0 ≤ x ∧ x ≤ 255) : Calls Tryd.prog 7 #[.slice ao n c] w fun e w' => e = .returned (.bool true) ∧ Below w.heap.size w w' := by
  have hq := Below.refl w.heap.size w
  go_enter Tryd.func7, Tryd.ntmps7
  go_wp2_with fail
  refine (first_any _ hB).mono ?_
  rintro e w1 ⟨rfl, hb⟩
  have hB_1 := hB.later hb (Nat.le_refl _)
  have hq_1 := hq.trans (hb.mono hq.size)
  have hL_1 := hL.below hb (Nat.le_refl _)
  clear hB hq hL hb
  go_wp2_with fail
  refine (readSuper_any ao n c bs _ hB_1 hL_1 hby).mono ?_
  rintro e w2 ⟨rfl, hb⟩
  have hB_2 := hB_1.later hb (Nat.le_refl _)
  have hq_2 := hq_1.trans (hb.mono hq_1.size)
  have hL_2 := hL_1.below hb (Nat.le_refl _)
  clear hB_1 hq_1 hL_1 hb
  obtain ⟨s, hs⟩ : ∃ s, (rsA bs).1 = s := ⟨_, rfl⟩
  obtain ⟨e, he⟩ : ∃ e, (rsA bs).2 = e := ⟨_, rfl⟩
  rw [hs, he]
  have hn := newBox w2 (.cells #[.int .i64 s.cl, .int .i64 s.wi, .int .i64 s.pl, .int .i64 s.ca, .int .i64 s.ino, .int .i64 s.qu, .int .i64 s.da, .int .i64 s.jo] 23)
  have hS_3 := ShBox.new w2 s
  have lt_hS_3 : w2.heap.size < (w2.alloc (.cells #[.int .i64 s.cl, .int .i64 s.wi, .int .i64 s.pl, .int .i64 s.ca, .int .i64 s.ino, .int .i64 s.qu, .int .i64 s.da, .int .i64 s.jo] 23)).heap.size := by simp
  have hB_3 := hB_2.later hn (Nat.le_refl _)
  have hq_3 := hq_2.trans (hn.mono hq_2.size)
  have hL_3 := hL_2.below hn (Nat.le_refl _)
  clear hB_2 hq_2 hL_2 hn
  obtain ⟨a0, a1, a2, a3, a4, a5, a6, a7⟩ := hS_3
  by_cases hp : e = 0
  case neg =>
    have hx : (e != 0) = true := by simpa using hp
    have hz : s = shZ := by rw [← hs]; exact rs_none (by rw [he]; exact hp)
    have HZ : Hid (s = shZ) := hz
    clear hz hp hs he
    go_wp2_with (go_at_call 12; refine (num_id _ _).mono ?_; rintro e wn ⟨rfl, hwn⟩; subst wn)
    have hS_3 := ShBox.mk a0 a1 a2 a3 a4 a5 a6 a7
    clear a0 a1 a2 a3 a4 a5 a6 a7
    generalize (w2.alloc (.cells #[.int .i64 s.cl, .int .i64 s.wi, .int .i64 s.pl, .int .i64 s.ca, .int .i64 s.ino, .int .i64 s.qu, .int .i64 s.da, .int .i64 s.jo] 23)) = w3 at *
    refine (sameShape_any s shZ _).mono ?_
    rintro e w4 ⟨rfl, hb⟩
    have hB_4 := hB_3.later hb (Nat.le_refl _)
    have hq_4 := hq_3.trans (hb.mono hq_3.size)
    have hL_4 := hL_3.below hb (Nat.le_refl _)
    have hS_4 := hS_3.later hb (by first | exact lt_hS_3 | omega)
    have lt_hS_4 := Nat.lt_of_lt_of_le lt_hS_3 hb.size
    clear hB_3 hq_3 hL_3 hS_3 lt_hS_3 hb
    rw [decide_eq_true HZ.out]
    go_wp2_with fail
    go_ret
    exact ⟨rfl, hq_4⟩
  have hx : (e != 0) = false := by simp [hp]
  have hrs : rsA bs = (s, 0) := Prod.ext hs (he.trans hp)
  obtain ⟨hpl, hform⟩ := rs_form hby hrs
  subst hp
  have HF : Hid (bs = superB s) := hform
  clear hs he hrs hform
  go_wp2_with (go_at_call 12; refine (num_id _ _).mono ?_; rintro e wn ⟨rfl, hwn⟩; subst wn)
  have hS_3 := ShBox.mk a0 a1 a2 a3 a4 a5 a6 a7
  clear a0 a1 a2 a3 a4 a5 a6 a7
  generalize (w2.alloc (.cells #[.int .i64 s.cl, .int .i64 s.wi, .int .i64 s.pl, .int .i64 s.ca, .int .i64 s.ino, .int .i64 s.qu, .int .i64 s.da, .int .i64 s.jo] 23)) = w3 at *
  refine (super_any s _ hB_3).mono ?_
  rintro e w4 ⟨bo, m, d, rfl, hb, _, hok⟩
  have hB_4 := hB_3.later hb (Nat.le_refl _)
  have hq_4 := hq_3.trans (hb.mono hq_3.size)
  have hL_4 := hL_3.below hb (Nat.le_refl _)
  have hS_4 := hS_3.later hb (by first | exact lt_hS_3 | omega)
  have lt_hS_4 := Nat.lt_of_lt_of_le lt_hS_3 hb.size
  clear hB_3 hq_3 hL_3 hS_3 lt_hS_3 hb
  obtain ⟨rfl, rfl, g, rfl, _, hr⟩ := hok hpl
  rw [hpl]
  clear hok
  go_wp2_with fail
  refine (same_any ao (some ⟨g, 0, none⟩) n 512 c 512 bs (superB s) _ (by omega) hL_4 (lies_bl hr (superB_length _))).mono ?_
  rintro e w5 ⟨rfl, k, hk⟩
  have hb : Below w4.heap.size w4 w5 := by rw [hk]; exact below_drewN (Below.refl _ _) k
  clear hk
  have hB_5 := hB_4.later hb (Nat.le_refl _)
  have hq_5 := hq_4.trans (hb.mono hq_4.size)
  have hL_5 := hL_4.below hb (Nat.le_refl _)
  have hS_5 := hS_4.later hb (by first | exact lt_hS_4 | omega)
  have lt_hS_5 := Nat.lt_of_lt_of_le lt_hS_4 hb.size
  clear hB_4 hq_4 hL_4 hS_4 lt_hS_4 hb
  rw [decide_eq_true HF.out]
  go_wp2_with (go_at_call 12; refine (num_id _ _).mono ?_; rintro e wn ⟨rfl, hwn⟩; subst wn)
  go_ret
  exact ⟨rfl, hq_5⟩
end Go.Proofs.YtgpeefedboomoaaDoor
