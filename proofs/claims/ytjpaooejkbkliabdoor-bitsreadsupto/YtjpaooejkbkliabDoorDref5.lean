/- annexref1.Reader.Bytes, where the bytes are there. -/
import Derived.Test.YtjpaooejkbkliabDoorDref4
import Derived.Test.YtjpaooejkbkliabDoorKeep
namespace Go.Proofs.YtjpaooejkbkliabDoor
open Go.RowKit
set_option maxRecDepth 100000

theorem Lies.part {w : World} {g o n cap : Nat} {bs : List Int} (h : Lies w (some ⟨g, o, none⟩) n cap bs) (p k : Nat) (hk : p + k ≤ n) : Lies w (some ⟨g, o + p, none⟩) k (cap - p) ((bs.drop p).take k) := by
  have h1 := h.hlen
  have h2 := h.hle
  refine ⟨by simp; omega, by omega, (fun h => by cases h), fun ad had t u hu => ?_⟩
  obtain rfl := Option.some.inj had
  have ht : t < k := by
    have := (List.getElem?_eq_some_iff.1 hu).1
    simp at this; omega
  have := h.hcells ⟨g, o, none⟩ rfl (p + t) u (by
    rw [List.getElem?_map] at hu ⊢
    rw [List.getElem?_take, if_pos ht, List.getElem?_drop] at hu
    exact hu)
  rw [Addr.add_lit] at this ⊢
  rw [Nat.add_assoc]
  exact this
theorem RdD.below {w w' : World} {rb n cap : Nat} {ao : Option Addr} {pl code : Int} {bs : List Int} (h : RdD w rb ao n cap pl code bs) (hb : Below w.heap.size w w') : RdD w' rb ao n cap pl code bs :=
  ⟨(hb.block rb (lt_of_block h.blk)).trans h.blk, h.lies.below hb (Nat.le_refl _), h.apart⟩
theorem below_grown {w w' : World} (h : Below w.heap.size w w') (row : Option Nat) : w.grownBy w' row := ⟨h.os, h.tape, h.output, h.size, fun i hi _ => h.block i hi⟩

/-- A piece of a slice, where the language begins it. -/
theorem lies_cut {w : World} {g o n cap : Nat} {bs : List Int} (h : Lies w (some ⟨g, o, none⟩) n cap bs) (i j : Int) (p k : Nat) (hi : i = p) (hj : j = p + k) (hk : p + k ≤ n) :
    Lies w (if cap = i.toNat then some ⟨g, o, none⟩ else some ⟨g, o + i.toNat, none⟩) (j.toNat - i.toNat) (cap - i.toNat) ((bs.drop p).take k) := by
  have e1 : i.toNat = p := by omega
  have e2 : j.toNat - i.toNat = k := by omega
  rw [e2, e1]
  have hle := h.hle
  have hlen := h.hlen
  by_cases hc : cap = p
  · have hk0 : k = 0 := by omega
    subst hk0
    rw [if_pos hc]
    exact ⟨by simp, by omega, (fun h => by cases h), fun ad _ t u hu => by simp at hu⟩
  · rw [if_neg hc]
    exact h.part p k hk

set_option maxHeartbeats 1000000 in
theorem dBytes_done (rb g o n cap pl k : Nat) (M : Int) (bs : List Int) (w : World) (hR : RdD w rb (some ⟨g, o, none⟩) n cap pl 0 bs) (hn : n ≤ 200000000000000) (hby : ∀ x ∈ bs, 0 ≤ x ∧ x ≤ 255) (hM0 : 0 ≤ M) (hM1 : M ≤ 9223372036854775807) (hv : val ((bs.drop pl).take 4) = k) (hkM : (k : Int) ≤ M) (hs : pl + (4 + k + padN k) ≤ n)  (hkb : k ≤ 140737488355328) (hzero : Hid (∀ t, t < padN k → ((bs.drop (pl + 4 + k)).take (padN k)).getD t 0 = 0)) :
    Calls Tryd.prog 27 #[.pointer (some ⟨rb, 0, none⟩), .int .i64 M] w fun e w' => HandD e w' ((bs.drop (pl + 4)).take k) ∧ WentD w w' rb (some ⟨g, o, none⟩) n cap ((pl + (4 + k + padN k) : Nat) : Int) 0 bs := by
  have hb := dnumber_ok rb n cap pl 4 (some ⟨g, o, none⟩) bs w hR (by omega) (by omega) (by omega) hn hby
  rw [hv] at hb
  have c0 := hR.c0
  have c1 := hR.c1
  have c2 := hR.c2
  have f1 := hR.f 1
  have f2 := hR.f 2
  have hMw : IntKind.u64.wrap M = M := Go.IntWalk.u64_in M ⟨hM0, by omega⟩
  have hpad : ((4 : Int) - (k : Int) % 4) % 4 = (padN k : Int) := by unfold padN; omega
  have hpd : (padN k : Int) ≤ 3 := by unfold padN; omega
  have hp0 : (0 : Int) ≤ padN k := by omega
  have hni : (n : Int) ≤ 200000000000000 := by omega
  have hk0 : (0 : Int) ≤ k := by omega
  have hge : ((n : Int) - pl < 4 + k + padN k) = False := by simp; omega
  have hcap : n ≤ cap := hR.lies.hle
  have hcapi : (n : Int) ≤ cap := by omega
  have hsum : (pl : Int) + 4 + k + padN k ≤ n := by omega
  have hw1 : IntKind.i64.wrap (4 + (k : Int)) = 4 + k := by rw [IntKind.wrap_i64]; omega
  have hw2 : IntKind.i64.wrap (4 + (k : Int) + padN k) = 4 + k + padN k := by rw [IntKind.wrap_i64]; omega
  have hw3 : IntKind.i64.wrap ((n : Int) - pl) = (n : Int) - pl := by rw [IntKind.wrap_i64]; omega
  have hw4 : IntKind.i64.wrap ((pl : Int) + 4) = (pl : Int) + 4 := by rw [IntKind.wrap_i64]; omega
  have hw5 : IntKind.i64.wrap ((pl : Int) + 4 + k) = (pl : Int) + 4 + k := by rw [IntKind.wrap_i64]; omega
  have hw6 : IntKind.i64.wrap ((pl : Int) + 4 + k + padN k) = (pl : Int) + 4 + k + padN k := by rw [IntKind.wrap_i64]; omega
  have hz1 : (0 : Int) ≤ (pl : Int) + 4 := by omega
  have hz2 : (pl : Int) + 4 ≤ (pl : Int) + 4 + k := by omega
  have hz3 : (pl : Int) + 4 + k ≤ cap := by omega
  have hz4 : (pl : Int) + 4 + k ≤ (pl : Int) + 4 + k + padN k := by omega
  have hz5 : (pl : Int) + 4 + k + padN k ≤ cap := by omega
  have hz6 : (0 : Int) ≤ (pl : Int) + 4 + k := by omega
  have hRh : Hid (RdD w rb (some ⟨g, o, none⟩) n cap pl 0 bs) := hR
  clear hv hby hR
  generalize hV : (k : Int) = V at *
  go_enter Tryd.func27, Tryd.ntmps27
  go_wp2_with (go_at_call 43; refine hb.mono ?_; rintro e w1 ⟨rfl, m, hw1⟩; subst w1)
  rw [hpad]
  go_quiet (fail)
  go_wp2
  subst hV
  have hR12 := hRh.out.drewN (m + nq + 1)
  have HR12 : Hid (RdD (w.drewN (m + nq + 1)) rb (some ⟨g, o, none⟩) n cap pl 0 bs) := hR12
  have HL12 : Hid (∀ A0, (if cap = ((pl : Int) + 4).toNat then (some ⟨g, o, none⟩ : Option Addr) else some ⟨g, o + ((pl : Int) + 4).toNat, none⟩) = A0 → Lies (w.drewN (m + nq + 1)) A0 (((pl : Int) + 4 + k).toNat - ((pl : Int) + 4).toNat) (cap - ((pl : Int) + 4).toNat) ((bs.drop (pl + 4)).take k)) := fun A0 h => h ▸ lies_cut hR12.lies ((pl : Int) + 4) ((pl : Int) + 4 + k) (pl + 4) k (by omega) (by omega) (by omega)
  have hlk : ((pl : Int) + 4 + k).toNat - ((pl : Int) + 4).toNat = k := by omega
  have HLK : Hid (((pl : Int) + 4 + k).toNat - ((pl : Int) + 4).toNat = k) := hlk
  have hkb2 : ((pl : Int) + 4 + k).toNat - ((pl : Int) + 4).toNat ≤ 140737488355328 := by omega
  have HK2 : Hid (((pl : Int) + 4 + k).toNat - ((pl : Int) + 4).toNat ≤ 140737488355328) := hkb2
  clear hR12 hRh hb hpad hMw hge hw1 hw2 hw3 hlk hkb2
  have d0 : (w.drewN (m + nq)).cell? ⟨rb, 0, none⟩ = some (.slice (some ⟨g, o, none⟩) n cap) := c0
  have d1 : (w.drewN (m + nq)).cell? ⟨rb, 1, none⟩ = some (.int .i64 pl) := c1
  go_region_held3 (fun w' => w'.cell? ⟨rb, 0, none⟩ = some (.slice (some ⟨g, o, none⟩) n cap) ∧ w'.cell? ⟨rb, 1, none⟩ = some (.int .i64 pl))
    (first | exact ⟨c0, c1⟩ | exact ⟨d0, d1⟩ | exact ⟨e0, e1⟩)
    (first | (go_at_call 16; generalize hA0 : (if cap = ((pl : Int) + 4).toNat then (some ⟨g, o, none⟩ : Option Addr) else some ⟨g, o + ((pl : Int) + 4).toNat, none⟩) = A0; refine (bytes29_any A0 _ _ ((bs.drop (pl + 4)).take k) _ HK2.out (HL12.out A0 hA0)).mono ?_; clear hA0; rintro e w2 ⟨a2, c2, rfl, ho2, hb2⟩; have hR2 := HR12.out.below hb2; have e0 := hR2.c0; have e1 := hR2.c1))
  have HZ : Hid (∀ t, Calls Tryd.prog 48 #[.slice (if cap = pl + 4 + k then (some ⟨g, o, none⟩ : Option Addr) else some ⟨g, o + (pl + 4 + k), none⟩) (padN k) (cap - (pl + 4 + k))] (w2.drewN t) fun e w' => e = .returned (.bool true) ∧ w' = w2.drewN t) := fun t => by
    have hl := lies_cut (hR2.drewN t).lies ((pl + 4 + k : Nat) : Int) ((pl + 4 + k + padN k : Nat) : Int) (pl + 4 + k) (padN k) rfl (by omega) (by omega)
    simp only [Int.toNat_natCast, Nat.add_sub_cancel_left] at hl
    have := zero_any _ _ _ _ _ (by omega) hl
    rwa [decide_eq_true hzero.out] at this
  have HR2 : Hid (RdD w2 rb (some ⟨g, o, none⟩) n cap pl 0 bs) := hR2
  have HO2 : Hid _ := ho2
  have q1 := hR2.f 1
  have q2 := hR2.f 2
  have q3 := hR2.c2
  clear hR2 ho2
  go_wp2
  go_quiet ((go_at_call 48; exact Calls.quiet_of_same (HZ.out _)))
  go_wp2
  all_goals
    go_ret
    have ho := HO2.out
    rw [HLK.out] at ho ⊢
    have hlt := lt_of_block HR12.out.blk
    have hlen : ((bs.drop (pl + 4)).take k).length = k := by simpa using ho.1
    have hl2 := Lies.owned ho
    have hl3 : Lies (w2.drewN nq) a2 k c2 ((bs.drop (pl + 4)).take k) := hl2.grown (grown_drewN w2 nq none) (fun _ _ => by simp)
    refine ⟨⟨a2, c2, by rw [hlen]; rfl, ?_⟩, ?_, ?_⟩
    · rw [hlen]
      refine hl3.grown (grown_setCell _ _ _ _) (fun ad had => ?_)
      have := (own_at ho ad had).2.1
      intro e
      cases e
      omega
    · have h := (HR2.out.drewN nq).set1 ((pl : Int) + 4 + k + padN k)
      have e5 : ((pl : Int) + 4 + k + padN k) = (pl : Int) + (4 + k + padN k) := by omega
      rw [e5] at h ⊢
      first | exact h | (have hc : cap = pl + 4 + k := by assumption
                         rw [← hc]; exact h)
    · exact grown_trans (grown_drewN _ _ _) (grown_trans (below_grown hb2 _) (grown_trans (grown_drewN _ _ _) (grown_setCell _ _ _ _)))

set_option maxHeartbeats 1000000 in
theorem dBytes_pad (rb g o n cap pl k : Nat) (M : Int) (bs : List Int) (w : World) (hR : RdD w rb (some ⟨g, o, none⟩) n cap pl 0 bs) (hn : n ≤ 200000000000000) (hby : ∀ x ∈ bs, 0 ≤ x ∧ x ≤ 255) (hM0 : 0 ≤ M) (hM1 : M ≤ 9223372036854775807) (hv : val ((bs.drop pl).take 4) = k) (hkM : (k : Int) ≤ M) (hs : pl + (4 + k + padN k) ≤ n)  (hkb : k ≤ 140737488355328) (hzero : Hid (¬ ∀ t, t < padN k → ((bs.drop (pl + 4 + k)).take (padN k)).getD t 0 = 0)) :
    Calls Tryd.prog 27 #[.pointer (some ⟨rb, 0, none⟩), .int .i64 M] w fun e w' => HandD e w' [] ∧ WentD w w' rb (some ⟨g, o, none⟩) n cap (pl : Int) 15 bs := by
  have hb := dnumber_ok rb n cap pl 4 (some ⟨g, o, none⟩) bs w hR (by omega) (by omega) (by omega) hn hby
  rw [hv] at hb
  have c0 := hR.c0
  have c1 := hR.c1
  have c2 := hR.c2
  have f1 := hR.f 1
  have f2 := hR.f 2
  have hMw : IntKind.u64.wrap M = M := Go.IntWalk.u64_in M ⟨hM0, by omega⟩
  have hpad : ((4 : Int) - (k : Int) % 4) % 4 = (padN k : Int) := by unfold padN; omega
  have hpd : (padN k : Int) ≤ 3 := by unfold padN; omega
  have hp0 : (0 : Int) ≤ padN k := by omega
  have hni : (n : Int) ≤ 200000000000000 := by omega
  have hk0 : (0 : Int) ≤ k := by omega
  have hge : ((n : Int) - pl < 4 + k + padN k) = False := by simp; omega
  have hcap : n ≤ cap := hR.lies.hle
  have hcapi : (n : Int) ≤ cap := by omega
  have hsum : (pl : Int) + 4 + k + padN k ≤ n := by omega
  have hw1 : IntKind.i64.wrap (4 + (k : Int)) = 4 + k := by rw [IntKind.wrap_i64]; omega
  have hw2 : IntKind.i64.wrap (4 + (k : Int) + padN k) = 4 + k + padN k := by rw [IntKind.wrap_i64]; omega
  have hw3 : IntKind.i64.wrap ((n : Int) - pl) = (n : Int) - pl := by rw [IntKind.wrap_i64]; omega
  have hw4 : IntKind.i64.wrap ((pl : Int) + 4) = (pl : Int) + 4 := by rw [IntKind.wrap_i64]; omega
  have hw5 : IntKind.i64.wrap ((pl : Int) + 4 + k) = (pl : Int) + 4 + k := by rw [IntKind.wrap_i64]; omega
  have hw6 : IntKind.i64.wrap ((pl : Int) + 4 + k + padN k) = (pl : Int) + 4 + k + padN k := by rw [IntKind.wrap_i64]; omega
  have hz1 : (0 : Int) ≤ (pl : Int) + 4 := by omega
  have hz2 : (pl : Int) + 4 ≤ (pl : Int) + 4 + k := by omega
  have hz3 : (pl : Int) + 4 + k ≤ cap := by omega
  have hz4 : (pl : Int) + 4 + k ≤ (pl : Int) + 4 + k + padN k := by omega
  have hz5 : (pl : Int) + 4 + k + padN k ≤ cap := by omega
  have hz6 : (0 : Int) ≤ (pl : Int) + 4 + k := by omega
  have hRh : Hid (RdD w rb (some ⟨g, o, none⟩) n cap pl 0 bs) := hR
  clear hv hby hR
  generalize hV : (k : Int) = V at *
  go_enter Tryd.func27, Tryd.ntmps27
  go_wp2_with (go_at_call 43; refine hb.mono ?_; rintro e w1 ⟨rfl, m, hw1⟩; subst w1)
  rw [hpad]
  go_quiet (fail)
  go_wp2
  subst hV
  have hR12 := hRh.out.drewN (m + nq + 1)
  have HR12 : Hid (RdD (w.drewN (m + nq + 1)) rb (some ⟨g, o, none⟩) n cap pl 0 bs) := hR12
  have HL12 : Hid (∀ A0, (if cap = ((pl : Int) + 4).toNat then (some ⟨g, o, none⟩ : Option Addr) else some ⟨g, o + ((pl : Int) + 4).toNat, none⟩) = A0 → Lies (w.drewN (m + nq + 1)) A0 (((pl : Int) + 4 + k).toNat - ((pl : Int) + 4).toNat) (cap - ((pl : Int) + 4).toNat) ((bs.drop (pl + 4)).take k)) := fun A0 h => h ▸ lies_cut hR12.lies ((pl : Int) + 4) ((pl : Int) + 4 + k) (pl + 4) k (by omega) (by omega) (by omega)
  have hlk : ((pl : Int) + 4 + k).toNat - ((pl : Int) + 4).toNat = k := by omega
  have HLK : Hid (((pl : Int) + 4 + k).toNat - ((pl : Int) + 4).toNat = k) := hlk
  have hkb2 : ((pl : Int) + 4 + k).toNat - ((pl : Int) + 4).toNat ≤ 140737488355328 := by omega
  have HK2 : Hid (((pl : Int) + 4 + k).toNat - ((pl : Int) + 4).toNat ≤ 140737488355328) := hkb2
  clear hR12 hRh hb hpad hMw hge hw1 hw2 hw3 hlk hkb2
  have d0 : (w.drewN (m + nq)).cell? ⟨rb, 0, none⟩ = some (.slice (some ⟨g, o, none⟩) n cap) := c0
  have d1 : (w.drewN (m + nq)).cell? ⟨rb, 1, none⟩ = some (.int .i64 pl) := c1
  go_region_held3 (fun w' => w'.cell? ⟨rb, 0, none⟩ = some (.slice (some ⟨g, o, none⟩) n cap) ∧ w'.cell? ⟨rb, 1, none⟩ = some (.int .i64 pl))
    (first | exact ⟨c0, c1⟩ | exact ⟨d0, d1⟩ | exact ⟨e0, e1⟩)
    (first | (go_at_call 16; generalize hA0 : (if cap = ((pl : Int) + 4).toNat then (some ⟨g, o, none⟩ : Option Addr) else some ⟨g, o + ((pl : Int) + 4).toNat, none⟩) = A0; refine (bytes29_any A0 _ _ ((bs.drop (pl + 4)).take k) _ HK2.out (HL12.out A0 hA0)).mono ?_; clear hA0; rintro e w2 ⟨a2, c2, rfl, ho2, hb2⟩; have hR2 := HR12.out.below hb2; have e0 := hR2.c0; have e1 := hR2.c1))
  have HZ : Hid (∀ t, Calls Tryd.prog 48 #[.slice (if cap = pl + 4 + k then (some ⟨g, o, none⟩ : Option Addr) else some ⟨g, o + (pl + 4 + k), none⟩) (padN k) (cap - (pl + 4 + k))] (w2.drewN t) fun e w' => e = .returned (.bool false) ∧ w' = w2.drewN t) := fun t => by
    have hl := lies_cut (hR2.drewN t).lies ((pl + 4 + k : Nat) : Int) ((pl + 4 + k + padN k : Nat) : Int) (pl + 4 + k) (padN k) rfl (by omega) (by omega)
    simp only [Int.toNat_natCast, Nat.add_sub_cancel_left] at hl
    have := zero_any _ _ _ _ _ (by omega) hl
    rwa [decide_eq_false hzero.out] at this
  have HR2 : Hid (RdD w2 rb (some ⟨g, o, none⟩) n cap pl 0 bs) := hR2
  have HO2 : Hid _ := ho2
  have q1 := hR2.f 1
  have q2 := hR2.f 2
  have q3 := hR2.c2
  clear hR2 ho2
  go_wp2
  go_quiet ((go_at_call 48; exact Calls.quiet_of_same (HZ.out _)))
  go_wp2
  all_goals
    go_ret
    refine ⟨handD_nil _, ?_, ?_⟩
    · have h := (HR2.out.drewN nq).set2 15
      first | exact h | (have hc : cap = pl + 4 + k := by assumption
                         rw [← hc]; exact h)
    · exact grown_trans (grown_drewN _ _ _) (grown_trans (below_grown hb2 _) (grown_trans (grown_drewN _ _ _) (grown_setCell _ _ _ _)))
end Go.Proofs.YtjpaooejkbkliabDoor
