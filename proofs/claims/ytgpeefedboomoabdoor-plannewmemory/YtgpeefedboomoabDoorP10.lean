/- ReadSuper by its contract. -/
import Derived.Test.YtgpeefedboomoabDoorP9
namespace Go.Proofs.YtgpeefedboomoabDoor
open Go.RowKit
set_option maxRecDepth 100000

attribute [local go_sem ↓ 100000] ly_store ly_load sh_store
attribute [local go_sem] LyStore.new LyStore.drew LyLoad.new LyLoad.drew ShStore.new

/-- What ReadSuper answers. -/
def rsA (bs : List Int) : Shp × Int :=
  if bs.length ≠ 512 ∨ bs.take 4 ≠ [65, 78, 88, 83] then (shZ, 61) else
  if val ((bs.drop 36).take 8) ≠ sumOf (bs.take 36) then (shZ, 62) else
  if ¬ ∀ x ∈ bs.drop 44, x = 0 then (shZ, 61) else
  if planE (shpOf ((bs.drop 4).take 32)) ≠ 0 then (shZ, planE (shpOf ((bs.drop 4).take 32))) else (shpOf ((bs.drop 4).take 32), 0)

set_option maxHeartbeats 4000000 in
theorem readSuper_any (ao : Option Addr) (n c : Nat) (bs : List Int) (w : World) (hB : Bds w) (hL : Lies w ao n c bs) (hby : ∀ x ∈ bs, 0 ≤ x ∧ x ≤ 255) :
    Calls Tryd.prog 18 #[.slice ao n c] w fun e w' => e = .returned (.tuple #[shV (rsA bs).1, .int .i64 (rsA bs).2]) ∧ Below w.heap.size w w' := by
  have hc := hL.hle
  have hlen := hL.hlen
  have hb0 := newBox w (.cells #[.int .i64 0, .int .i64 0, .int .i64 0, .int .i64 0, .int .i64 0, .int .i64 0, .int .i64 0, .int .i64 0] 33)
  have hZ0 : (w.alloc (.cells #[.int .i64 0, .int .i64 0, .int .i64 0, .int .i64 0, .int .i64 0, .int .i64 0, .int .i64 0, .int .i64 0] 33)).heap[w.heap.size]? = some (.cells #[.int .i64 0, .int .i64 0, .int .i64 0, .int .i64 0, .int .i64 0, .int .i64 0, .int .i64 0, .int .i64 0] 33 (0, 0)) := heap_alloc_last w _
  have hL0 : Lies (w.alloc (.cells #[.int .i64 0, .int .i64 0, .int .i64 0, .int .i64 0, .int .i64 0, .int .i64 0, .int .i64 0, .int .i64 0] 33)) ao n c bs := hL.below hb0 (Nat.le_refl _)
  have hD0 := hB.later hb0 (Nat.le_refl _)
  clear hB hL
  go_enter Tryd.func18, Tryd.ntmps18
  by_cases h5 : n = 512
  case neg =>
    have hx : ((n : Int) != 512) = true := by simp; omega
    have e : rsA bs = (shZ, 61) := by unfold rsA; rw [if_pos (Or.inl (by omega))]
    have hst : ∀ (x0 x1 x2 x3 x4 x5 x6 x7 : Int) (o : Oper) (a : Act) (next : Act → World → Prop) (Q : Exit → Act → World → Prop), ShStore (.pointer (some ⟨w.heap.size, 0, none⟩)) (.agg #[.int .i64 x0, .int .i64 x1, .int .i64 x2, .int .i64 x3, .int .i64 x4, .int .i64 x5, .int .i64 x6, .int .i64 x7]) o a (w.alloc (.cells #[.int .i64 0, .int .i64 0, .int .i64 0, .int .i64 0, .int .i64 0, .int .i64 0, .int .i64 0, .int .i64 0] 33)) next Q = next (a.put o.dst undef) (w.alloc (.cells #[.int .i64 x0, .int .i64 x1, .int .i64 x2, .int .i64 x3, .int .i64 x4, .int .i64 x5, .int .i64 x6, .int .i64 x7] 33)) := fun _ _ _ _ _ _ _ _ o a next Q => ShStore.new _ _ _ _ _ _ _ _ o a w next Q
    clear hL0 hD0
    go_wp2
    refine bodyPost_ret (res2 rfl _ _ w.heap.size 33 _ (0, 0) _ rfl (heap_alloc_last w _) Tryd.underlying33 rfl sh_size) rfl ?_
    refine ⟨?_, newBox w _⟩
    rw [e]
    rfl
  subst h5
  obtain ⟨b, o, rfl⟩ := hL0.addr (by omega)
  go_wp2_with fail
  generalize (w.alloc (.cells #[.int .i64 0, .int .i64 0, .int .i64 0, .int .i64 0, .int .i64 0, .int .i64 0, .int .i64 0, .int .i64 0] 33)) = w0 at *
  refine (begins_any b o c bs _ hL0 hby).mono ?_
  rintro e wq ⟨rfl, hwq⟩
  subst wq
  by_cases hm : bs.take 4 = [65, 78, 88, 83]
  case neg =>
    simp only [decide_eq_false hm]
    have e : rsA bs = (shZ, 61) := by unfold rsA; rw [if_pos (Or.inr hm)]
    have hst := ShStore.row hZ0 rfl
    clear hL0 hD0
    go_wp2_with fail
    refine bodyPost_ret (res2 rfl _ _ w.heap.size 33 _ (0, 0) _ rfl (setRow_heap _ _ _ _ _ _ hZ0) Tryd.underlying33 rfl sh_size) rfl ?_
    refine ⟨?_, below_setRow hb0 (Nat.le_refl _) _⟩
    rw [e]
    rfl

  simp only [decide_eq_true hm]
  go_wp2_with fail
  refine (summed_any b o c bs _ hL0 hby).mono ?_
  rintro e w1 ⟨rfl, hb1⟩
  have hZ1 := (hb1.block _ (lt_of_block hZ0)).trans hZ0
  have hL1 := hL0.below hb1 (Nat.le_refl _)
  have hD1 := hD0.later hb1 (Nat.le_refl _)
  have hq1 := hb0.trans (hb1.mono hb0.size)
  clear hZ0 hL0 hD0 hb0 hb1
  by_cases hs : val ((bs.drop 36).take 8) = sumOf (bs.take 36)
  case neg =>
    have hx : (val ((bs.drop 36).take 8) == sumOf (bs.take 36)) = false := by simpa using hs
    have e : rsA bs = (shZ, 62) := by unfold rsA; rw [if_neg (fun h => h.elim (fun h => h hlen) (fun h => h hm)), if_pos hs]
    have hst := ShStore.row hZ1 rfl
    simp only [hx]
    clear hL1 hD1
    go_wp2_with fail
    refine bodyPost_ret (res2 rfl _ _ w.heap.size 33 _ (0, 0) _ rfl (setRow_heap _ _ _ _ _ _ hZ1) Tryd.underlying33 rfl sh_size) rfl ?_
    refine ⟨?_, below_setRow hq1 (Nat.le_refl _) _⟩
    rw [e]
    rfl

  have hx : (val ((bs.drop 36).take 8) == sumOf (bs.take 36)) = true := by simpa using hs
  simp only [hx]
  have k44 : (44 : Int) ≤ c := by omega
  have kne : ¬ c = 44 := by omega
  have hL4 : Lies w1 (some ⟨b, o + 44, none⟩) 468 (c - 44) (bs.drop 44) := by
    have h := hL1.piece 44 468 (c - 44) (by omega) (by omega)
    rwa [List.take_of_length_le (by simp; omega)] at h
  go_wp2_with fail
  refine (zeros_any (some ⟨b, o + 44, none⟩) 468 (c - 44) (bs.drop 44) _ (by omega) hL4).mono ?_
  rintro e wq ⟨rfl, hwq⟩
  subst wq
  clear hL4 k44 kne
  by_cases hz : ∀ x ∈ bs.drop 44, x = 0
  case neg =>
    simp only [decide_eq_false hz]
    have e : rsA bs = (shZ, 61) := by unfold rsA; rw [if_neg (fun h => h.elim (fun h => h hlen) (fun h => h hm)), if_neg (fun h => h hs), if_pos hz]
    have hst := ShStore.row hZ1 rfl
    clear hL1 hD1
    go_wp2_with fail
    refine bodyPost_ret (res2 rfl _ _ w.heap.size 33 _ (0, 0) _ rfl (setRow_heap _ _ _ _ _ _ hZ1) Tryd.underlying33 rfl sh_size) rfl ?_
    refine ⟨?_, below_setRow hq1 (Nat.le_refl _) _⟩
    rw [e]
    rfl

  simp only [decide_eq_true hz]
  go_wp2_with fail
  refine (said_any b o c bs _ hL1 hby).mono ?_
  rintro e w2 ⟨rfl, hb2⟩
  have hZ2 := (hb2.block _ (lt_of_block hZ1)).trans hZ1
  have hD2 := hD1.later hb2 (Nat.le_refl _)
  have hq2 := hq1.trans (hb2.mono hq1.size)
  have HE : Hid (rsA bs = if planE (shpOf ((bs.drop 4).take 32)) ≠ 0 then (shZ, planE (shpOf ((bs.drop 4).take 32))) else (shpOf ((bs.drop 4).take 32), 0)) := by
    show _ = _
    unfold rsA
    rw [if_neg (fun h => h.elim (fun h => h hlen) (fun h => h hm)), if_neg (fun h => h hs), if_neg (fun h => h hz)]
  clear hZ1 hL1 hD1 hq1 hb2 hz hs hx hm
  generalize shpOf ((bs.drop 4).take 32) = s at *
  have hn := newBox w2 (.cells #[.int .i64 s.cl, .int .i64 s.wi, .int .i64 s.pl, .int .i64 s.ca, .int .i64 s.ino, .int .i64 s.qu, .int .i64 s.da, .int .i64 s.jo] 33)
  have hs3 : w2.heap.size < (w2.alloc (.cells #[.int .i64 s.cl, .int .i64 s.wi, .int .i64 s.pl, .int .i64 s.ca, .int .i64 s.ino, .int .i64 s.qu, .int .i64 s.da, .int .i64 s.jo] 33)).heap.size := by simp
  have hB3 := ShBox.new w2 s
  have hZ3 := (hn.block _ (lt_of_block hZ2)).trans hZ2
  have hD3 := hD2.later hn (Nat.le_refl _)
  have hq3 := hq2.trans (hn.mono hq2.size)
  clear hZ2 hD2 hq2 hn
  go_wp2_with fail
  generalize w2.alloc (.cells #[.int .i64 s.cl, .int .i64 s.wi, .int .i64 s.pl, .int .i64 s.ca, .int .i64 s.ino, .int .i64 s.qu, .int .i64 s.da, .int .i64 s.jo] 33) = w3 at *
  refine (plan_any s _ hD3).mono ?_
  rintro e w4 ⟨rfl, hb4⟩
  have hB4 := hB3.later hb4 hs3
  have hZ4 := (hb4.block _ (lt_of_block hZ3)).trans hZ3
  have hq4 := hq3.trans (hb4.mono hq3.size)
  have hs4 := Nat.lt_of_lt_of_le hs3 hb4.size
  clear hB3 hs3 hZ3 hD3 hq3 hb4
  have hn := newBox w4 (.cells #[.int .i64 (planL s).bo, .int .i64 (planL s).jr, .int .i64 (planL s).jl, .int .i64 (planL s).le, .int .i64 (planL s).ll, .int .i64 (planL s).bi, .int .i64 (planL s).bl, .int .i64 (planL s).ta, .int .i64 (planL s).tl, .int .i64 (planL s).dt, .int .i64 (planL s).dl, .int .i64 (planL s).to, .int .i64 (planL s).sh.cl, .int .i64 (planL s).sh.wi, .int .i64 (planL s).sh.pl, .int .i64 (planL s).sh.ca, .int .i64 (planL s).sh.ino, .int .i64 (planL s).sh.qu, .int .i64 (planL s).sh.da, .int .i64 (planL s).sh.jo] 40)
  have hB5 := hB4.later hn hs4
  have hZ5 := (hn.block _ (lt_of_block hZ4)).trans hZ4
  have hq5 := hq4.trans (hn.mono hq4.size)
  clear hB4 hZ4 hq4 hn
  by_cases hp : planE s = 0
  · have hx : (planE s != 0) = false := by simp [hp]
    have HP : Hid (planE s = 0) := hp
    clear hp
    obtain ⟨a0, a1, a2, a3, a4, a5, a6, a7⟩ := hB5
    have hst := ShStore.row hZ5 rfl
    go_wp2_with fail
    refine bodyPost_ret (res2 rfl _ _ w.heap.size 33 _ (0, 0) _ rfl (setRow_heap _ _ _ _ _ _ hZ5) Tryd.underlying33 rfl sh_size) rfl ?_
    refine ⟨?_, below_setRow hq5 (Nat.le_refl _) _⟩
    rw [HE.out, if_neg (fun h => h HP.out)]
    rfl
  · have hx : (planE s != 0) = true := by simpa using hp
    have HP : Hid (¬ planE s = 0) := hp
    clear hp hB5
    have hst := ShStore.row hZ5 rfl
    go_wp2_with fail
    refine bodyPost_ret (res2 rfl _ _ w.heap.size 33 _ (0, 0) _ rfl (setRow_heap _ _ _ _ _ _ hZ5) Tryd.underlying33 rfl sh_size) rfl ?_
    refine ⟨?_, below_setRow hq5 (Nat.le_refl _) _⟩
    rw [HE.out, if_pos HP.out]
    rfl
end Go.Proofs.YtgpeefedboomoabDoor
