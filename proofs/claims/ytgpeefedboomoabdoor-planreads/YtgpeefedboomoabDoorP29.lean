/- The document's own ReadSuper by its contract. -/
import Derived.Test.YtgpeefedboomoabDoorP28
namespace Go.Proofs.YtgpeefedboomoabDoor
open Go.RowKit
set_option maxRecDepth 100000

attribute [local go_sem ↓ 100000] ly_store ly_load sh_store
theorem setRow_past (w : World) (q : Obj) (g : Nat) (cs : Array Value) (h : g < w.heap.size) : (w.alloc q).setRow g cs = (w.setRow g cs).alloc q := by
  simp only [World.setRow, World.alloc]
  congr 1
  apply Array.ext_getElem?
  intro i
  rw [Array.getElem?_modify, Array.getElem?_push, Array.getElem?_push, Array.size_modify, Array.getElem?_modify]
  by_cases hi : i = w.heap.size
  · subst hi
    rw [if_pos rfl, if_pos rfl, if_neg (by omega)]
  · rw [if_neg hi, if_neg hi]
theorem ShStore.under (b : Nat) (q : Obj) (x0 x1 x2 x3 x4 x5 x6 x7 : Int) (o : Oper) (a : Act) (w : World) (next : Act → World → Prop) (Q : Exit → Act → World → Prop) (hb : b = w.heap.size) :
    ShStore (.pointer (some ⟨b, 0, none⟩)) (.agg #[.int .i64 x0, .int .i64 x1, .int .i64 x2, .int .i64 x3, .int .i64 x4, .int .i64 x5, .int .i64 x6, .int .i64 x7]) o a ((w.alloc (.cells #[.int .i64 0, .int .i64 0, .int .i64 0, .int .i64 0, .int .i64 0, .int .i64 0, .int .i64 0, .int .i64 0] 33)).alloc q) next Q = next (a.put o.dst undef) ((w.alloc (.cells #[.int .i64 x0, .int .i64 x1, .int .i64 x2, .int .i64 x3, .int .i64 x4, .int .i64 x5, .int .i64 x6, .int .i64 x7] 33)).alloc q) := by
  subst hb
  rw [ShStore.row (((newBox _ q).block _ (by simp)).trans (heap_alloc_last w _)) rfl, setRow_past _ _ _ _ (by simp), World.setRow_alloc_new]
attribute [local go_sem] LyStore.new LyLoad.new LyStore.at LyLoad.at ShStore.new ShStore.at ShStore.under
theorem Tryd.info3 : (Tryd.prog.info? 3).map (fun i => (i.zero, i.size, i.bytes)) = some (some (.int .i64 0), 1, 8) := by kernel_rfl
theorem sh_of_row {w : World} {b : Nat} {s : Shp} (h : w.heap[b]? = some (.cells #[.int .i64 s.cl, .int .i64 s.wi, .int .i64 s.pl, .int .i64 s.ca, .int .i64 s.ino, .int .i64 s.qu, .int .i64 s.da, .int .i64 s.jo] 33 (0, 0))) : ShBox w b s := by
  constructor <;> simp [World.cell?, h]
theorem sh_zero {w : World} {b : Nat} (h : w.heap[b]? = some (.cells #[.int .i64 0, .int .i64 0, .int .i64 0, .int .i64 0, .int .i64 0, .int .i64 0, .int .i64 0, .int .i64 0] 33 (0, 0))) : w.cell? ⟨b, 0, none⟩ = some (.int .i64 0) ∧ w.cell? ⟨b, 1, none⟩ = some (.int .i64 0) ∧ w.cell? ⟨b, 2, none⟩ = some (.int .i64 0) ∧ w.cell? ⟨b, 3, none⟩ = some (.int .i64 0) ∧ w.cell? ⟨b, 4, none⟩ = some (.int .i64 0) ∧ w.cell? ⟨b, 5, none⟩ = some (.int .i64 0) ∧ w.cell? ⟨b, 6, none⟩ = some (.int .i64 0) ∧ w.cell? ⟨b, 7, none⟩ = some (.int .i64 0) := by
  simp only [World.cell?, h]
  exact ⟨rfl, rfl, rfl, rfl, rfl, rfl, rfl, rfl⟩
theorem rs_e1 {bs : List Int} (h : bs.length ≠ 512 ∨ bs.take 4 ≠ [65, 78, 88, 83]) : rsA bs = (shZ, 61) := by unfold rsA; rw [if_pos h]
theorem numsL_take (l : List Int) (k : Nat) (hk : k < 8) : (shpOf l).nums.take (k + 1) = (shpOf l).nums.take k ++ [numAt l k] := by
  obtain rfl | rfl | rfl | rfl | rfl | rfl | rfl | rfl : k = 0 ∨ k = 1 ∨ k = 2 ∨ k = 3 ∨ k = 4 ∨ k = 5 ∨ k = 6 ∨ k = 7 := by omega
  all_goals rfl
theorem at_num (bs : List Int) (k : Nat) (hk : k < 8) : (bs.drop (4 + 4 * k)).take 4 = (((bs.drop 4).take 32).drop (4 * k)).take 4 := by
  rw [List.drop_take, List.drop_drop, List.take_take, show min 4 (32 - 4 * k) = 4 by omega]

/-- The sum is right. -/
def SumOk (bs : List Int) : Prop := val ((bs.drop 36).take 8) = sumOf (bs.take 36)
theorem SumOk.out {bs : List Int} (h : SumOk bs) : val ((bs.drop 36).take 8) = sumOf (bs.take 36) := h
theorem zero_iff {l : List Int} {n : Nat} (hl : l.length = n) : (∀ t, t < n → l.getD t 0 = 0) ↔ ∀ x ∈ l, x = 0 := by
  constructor
  · intro h x hx
    obtain ⟨i, hi, rfl⟩ := List.getElem_of_mem hx
    have := h i (by omega)
    simpa [List.getD, hi] using this
  · intro h t ht
    have hi : t < l.length := by omega
    have := h l[t] (List.getElem_mem hi)
    simpa [List.getD, hi] using this

set_option maxHeartbeats 8000000 in
theorem rread_any (ao : Option Addr) (n c : Nat) (bs : List Int) (w : World) (hL : Lies w ao n c bs) (hby : ∀ x ∈ bs, 0 ≤ x ∧ x ≤ 255) :
    Calls Tryd.prog 19 #[.slice ao n c] w fun e w' => e = .returned (.tuple #[shV (rsA bs).1, .int .i64 (rsA bs).2]) ∧ Below w.heap.size w w' := by
  have hc := hL.hle
  have hlen := hL.hlen
  have hb0 : Below w.heap.size w ((w.alloc (.cells #[.int .i64 0, .int .i64 0, .int .i64 0, .int .i64 0, .int .i64 0, .int .i64 0, .int .i64 0, .int .i64 0] 33)).alloc (.cells #[.int .i64 0, .int .i64 0, .int .i64 0, .int .i64 0, .int .i64 0, .int .i64 0, .int .i64 0, .int .i64 0] 33)) := box2 w _ _
  have hR0 : ((w.alloc (.cells #[.int .i64 0, .int .i64 0, .int .i64 0, .int .i64 0, .int .i64 0, .int .i64 0, .int .i64 0, .int .i64 0] 33)).alloc (.cells #[.int .i64 0, .int .i64 0, .int .i64 0, .int .i64 0, .int .i64 0, .int .i64 0, .int .i64 0, .int .i64 0] 33)).heap[w.heap.size]? = some (.cells #[.int .i64 0, .int .i64 0, .int .i64 0, .int .i64 0, .int .i64 0, .int .i64 0, .int .i64 0, .int .i64 0] 33 (0, 0)) := ((newBox _ _).block _ (by simp)).trans (heap_alloc_last w _)
  have hN0 : ((w.alloc (.cells #[.int .i64 0, .int .i64 0, .int .i64 0, .int .i64 0, .int .i64 0, .int .i64 0, .int .i64 0, .int .i64 0] 33)).alloc (.cells #[.int .i64 0, .int .i64 0, .int .i64 0, .int .i64 0, .int .i64 0, .int .i64 0, .int .i64 0, .int .i64 0] 33)).heap[w.heap.size + 1]? = some (.cells #[.int .i64 0, .int .i64 0, .int .i64 0, .int .i64 0, .int .i64 0, .int .i64 0, .int .i64 0, .int .i64 0] 33 (0, 0)) := heap_new2 w _ _
  have hL0 : Lies ((w.alloc (.cells #[.int .i64 0, .int .i64 0, .int .i64 0, .int .i64 0, .int .i64 0, .int .i64 0, .int .i64 0, .int .i64 0] 33)).alloc (.cells #[.int .i64 0, .int .i64 0, .int .i64 0, .int .i64 0, .int .i64 0, .int .i64 0, .int .i64 0, .int .i64 0] 33)) ao n c bs := hL.below hb0 (Nat.le_refl _)
  clear hL
  go_enter Tryd.func19, Tryd.ntmps19
  obtain ⟨z0, z1, z2, z3, z4, z5, z6, z7⟩ := sh_zero hN0
  by_cases h5 : n = 512
  case neg =>
    have hx : ((n : Int) != 512) = true := by simp; omega
    have HE : Hid (rsA bs = (shZ, 61)) := rs_e1 (Or.inl (by omega))
    clear hL0
    go_wp2_with fail
    refine bodyPost_ret (res2 rfl _ _ w.heap.size 33 _ (0, 0) _ rfl hR0 Tryd.underlying33 rfl sh_size) rfl ?_
    refine ⟨?_, hb0⟩
    rw [HE.out]
    rfl
  subst h5
  obtain ⟨b, o, e0, hcs⟩ := hL0.at (by omega)
  subst e0
  have g0 := hcs 0 (by omega)
  have g1 := hcs 1 (by omega)
  have g2 := hcs 2 (by omega)
  have g3 := hcs 3 (by omega)
  clear hcs
  simp only [Nat.add_zero] at g0
  have hmg : Hid (bs.take 4 = [bs.getD 0 0, bs.getD 1 0, bs.getD 2 0, bs.getD 3 0]) := by
    show _ = _
    match bs, hlen with
    | b0 :: b1 :: b2 :: b3 :: l, _ => rfl
  obtain ⟨m0, q0⟩ : ∃ m, bs.getD 0 0 = m := ⟨_, rfl⟩
  obtain ⟨m1, q1⟩ : ∃ m, bs.getD 1 0 = m := ⟨_, rfl⟩
  obtain ⟨m2, q2⟩ : ∃ m, bs.getD 2 0 = m := ⟨_, rfl⟩
  obtain ⟨m3, q3⟩ : ∃ m, bs.getD 3 0 = m := ⟨_, rfl⟩
  rw [q0] at g0
  rw [q1] at g1
  rw [q2] at g2
  rw [q3] at g3
  have HM : Hid (bs.take 4 = [m0, m1, m2, m3]) := by show _ = _; rw [hmg.out, q0, q1, q2, q3]
  clear q0 q1 q2 q3 hmg
  by_cases k0 : m0 = 65
  case neg =>
    have hx : (m0 != 65) = true := by simpa using k0
    have HE : Hid (rsA bs = (shZ, 61)) := rs_e1 (Or.inr (by rw [HM.out]; simp [k0]))
    clear hL0
    go_wp2_with fail
    refine bodyPost_ret (res2 rfl _ _ w.heap.size 33 _ (0, 0) _ rfl hR0 Tryd.underlying33 rfl sh_size) rfl ?_
    refine ⟨?_, hb0⟩
    rw [HE.out]
    rfl
  have y0 : (m0 != 65) = false := by simp [k0]
  by_cases k1 : m1 = 78
  case neg =>
    have hx : (m1 != 78) = true := by simpa using k1
    have HE : Hid (rsA bs = (shZ, 61)) := rs_e1 (Or.inr (by rw [HM.out]; simp [k1]))
    clear hL0
    go_wp2_with fail
    refine bodyPost_ret (res2 rfl _ _ w.heap.size 33 _ (0, 0) _ rfl hR0 Tryd.underlying33 rfl sh_size) rfl ?_
    refine ⟨?_, hb0⟩
    rw [HE.out]
    rfl
  have y1 : (m1 != 78) = false := by simp [k1]
  by_cases k2 : m2 = 88
  case neg =>
    have hx : (m2 != 88) = true := by simpa using k2
    have HE : Hid (rsA bs = (shZ, 61)) := rs_e1 (Or.inr (by rw [HM.out]; simp [k2]))
    clear hL0
    go_wp2_with fail
    refine bodyPost_ret (res2 rfl _ _ w.heap.size 33 _ (0, 0) _ rfl hR0 Tryd.underlying33 rfl sh_size) rfl ?_
    refine ⟨?_, hb0⟩
    rw [HE.out]
    rfl
  have y2 : (m2 != 88) = false := by simp [k2]
  by_cases k3 : m3 = 83
  case neg =>
    have hx : (m3 != 83) = true := by simpa using k3
    have HE : Hid (rsA bs = (shZ, 61)) := rs_e1 (Or.inr (by rw [HM.out]; simp [k3]))
    clear hL0
    go_wp2_with fail
    refine bodyPost_ret (res2 rfl _ _ w.heap.size 33 _ (0, 0) _ rfl hR0 Tryd.underlying33 rfl sh_size) rfl ?_
    refine ⟨?_, hb0⟩
    rw [HE.out]
    rfl
  have y3 : (m3 != 83) = false := by simp [k3]
  have hm : bs.take 4 = [65, 78, 88, 83] := by rw [HM.out, k0, k1, k2, k3]
  clear HM k0 k1 k2 k3
  have kc : (36 : Int) ≤ c := by omega
  have kc0 : ¬ c = 0 := by omega
  have hL36 : Lies ((w.alloc (.cells #[.int .i64 0, .int .i64 0, .int .i64 0, .int .i64 0, .int .i64 0, .int .i64 0, .int .i64 0, .int .i64 0] 33)).alloc (.cells #[.int .i64 0, .int .i64 0, .int .i64 0, .int .i64 0, .int .i64 0, .int .i64 0, .int .i64 0, .int .i64 0] 33)) (some ⟨b, o, none⟩) 36 c (bs.take 36) := hL0.piece 0 36 c (by omega) (by omega)
  go_wp2_with fail
  clear y0 y1 y2 y3 g0 g1 g2 g3 z0 z1 z2 z3 z4 z5 z6 z7 kc kc0
  generalize ((w.alloc (.cells #[.int .i64 0, .int .i64 0, .int .i64 0, .int .i64 0, .int .i64 0, .int .i64 0, .int .i64 0, .int .i64 0] 33)).alloc (.cells #[.int .i64 0, .int .i64 0, .int .i64 0, .int .i64 0, .int .i64 0, .int .i64 0, .int .i64 0, .int .i64 0] 33)) = w0 at *
  refine (S2.rsum_any (some ⟨b, o, none⟩) 36 c (bs.take 36) _ (by omega) hL36 (fun x hx => hby x (List.mem_of_mem_take hx))).mono ?_
  rintro e wq ⟨rfl, hwq⟩
  subst wq
  clear hL36
  go_wp2_with fail
  refine (rget_any b o 512 c 36 8 bs _ hL0 hby (by omega) (by omega) (by omega)).mono ?_
  rintro e wq ⟨rfl, hwq⟩
  subst wq
  obtain ⟨z0, z1, z2, z3, z4, z5, z6, z7⟩ := sh_zero hN0
  have hst := ShStore.row hR0 rfl
  by_cases hs : val ((bs.drop 36).take 8) = sumOf (bs.take 36)
  case neg =>
    have hx : (val ((bs.drop 36).take 8) != S2.fwd 14695981039346656037 (bs.take 36)) = true := by simpa using (show ¬ val ((bs.drop 36).take 8) = S2.fwd 14695981039346656037 (bs.take 36) from hs)
    have HE : Hid (rsA bs = (shZ, 62)) := by show _ = _; unfold rsA; rw [if_neg (fun h => h.elim (fun h => h hlen) (fun h => h hm)), if_pos hs]
    generalize val ((bs.drop 36).take 8) = v1 at *
    generalize S2.fwd 14695981039346656037 (bs.take 36) = v2 at *
    clear hL0 hs
    go_wp2_with fail
    refine bodyPost_ret (res2 rfl _ _ w.heap.size 33 _ (0, 0) _ rfl (setRow_heap _ _ _ _ _ _ hR0) Tryd.underlying33 rfl sh_size) rfl ?_
    refine ⟨?_, below_setRow hb0 (Nat.le_refl _) _⟩
    rw [HE.out]
    rfl
  have hx : (val ((bs.drop 36).take 8) != S2.fwd 14695981039346656037 (bs.take 36)) = false := by simpa using (show val ((bs.drop 36).take 8) = S2.fwd 14695981039346656037 (bs.take 36) from hs)
  have k44 : (44 : Int) ≤ c := by omega
  have kne : ¬ c = 44 := by omega
  have hL44 : Lies w0 (some ⟨b, o + 44, none⟩) 468 (c - 44) (bs.drop 44) := by
    have h := hL0.piece 44 468 (c - 44) (by omega) (by omega)
    rwa [List.take_of_length_le (by simp; omega)] at h
  have HSo : SumOk bs := hs
  clear hs
  generalize val ((bs.drop 36).take 8) = v1 at *
  generalize S2.fwd 14695981039346656037 (bs.take 36) = v2 at *
  go_wp2_with fail
  clear z0 z1 z2 z3 z4 z5 z6 z7 hst hx k44 kne
  refine (zero_any (some ⟨b, o + 44, none⟩) 468 (c - 44) (bs.drop 44) _ (by omega) hL44).mono ?_
  rintro e wq ⟨rfl, hwq⟩
  subst wq
  have hzz : (∀ t, t < 468 → (bs.drop 44).getD t 0 = 0) ↔ ∀ x ∈ bs.drop 44, x = 0 := zero_iff (by simp; omega)
  obtain ⟨z0, z1, z2, z3, z4, z5, z6, z7⟩ := sh_zero hN0
  have hst := ShStore.row hR0 rfl
  by_cases hz : ∀ x ∈ bs.drop 44, x = 0
  case neg =>
    rw [decide_eq_false (fun h => hz (hzz.1 h))]
    have HE : Hid (rsA bs = (shZ, 61)) := by show _ = _; unfold rsA; rw [if_neg (fun h => h.elim (fun h => h hlen) (fun h => h hm)), if_neg (fun h => h HSo.out), if_pos hz]
    clear hL0 hL44 hz hzz
    go_wp2_with fail
    refine bodyPost_ret (res2 rfl _ _ w.heap.size 33 _ (0, 0) _ rfl (setRow_heap _ _ _ _ _ _ hR0) Tryd.underlying33 rfl sh_size) rfl ?_
    refine ⟨?_, below_setRow hb0 (Nat.le_refl _) _⟩
    rw [HE.out]
    rfl
  rw [decide_eq_true (hzz.2 hz)]
  have HE : Hid (rsA bs = if planE (shpOf ((bs.drop 4).take 32)) ≠ 0 then (shZ, planE (shpOf ((bs.drop 4).take 32))) else (shpOf ((bs.drop 4).take 32), 0)) := by
    show _ = _
    unfold rsA
    rw [if_neg (fun h => h.elim (fun h => h hlen) (fun h => h hm)), if_neg (fun h => h HSo.out), if_neg (fun h => h hz)]
  have hl32 : ((bs.drop 4).take 32).length = 32 := by simp [hlen]
  have hAN : ∀ k, k < 8 → val ((bs.drop (4 + 4 * k)).take 4) = numAt ((bs.drop 4).take 32) k := fun k hk => by rw [at_num bs k hk]; rfl
  have hAB : ∀ k, 0 ≤ numAt ((bs.drop 4).take 32) k ∧ numAt ((bs.drop 4).take 32) k ≤ 4294967295 := fun k => numAt_bd _ k (fun x hx => hby x (List.mem_of_mem_drop (List.mem_of_mem_take hx)))
  clear hz hzz hL44 hl32
  generalize hl : (bs.drop 4).take 32 = l at *
  clear hl
  obtain ⟨i0, hi, hz0, hz1, hz2⟩ := info_parts Tryd.info3
  go_wp2_with fail
  clear z0 z1 z2 z3 z4 z5 z6 z7 hst
  go_loopw [7, 8] (fun v i wr => ∃ k : Nat, k ≤ 8 ∧ i = .int .i64 k ∧ wr.ownsRow w0.heap.size 3 1 v k (((shpOf l).nums.take k).map (Value.int .i64)) ∧ Below w0.heap.size w0 wr) (fun _ i _ => 8 - (intOf i).toNat)
  case atStart => exact ⟨0, by omega, rfl, World.ownsRow_nil _ _ _ _, Below.refl _ _⟩
  case round =>
    obtain ⟨k, hk, rfl, hown, hb⟩ := hrel
    by_cases hlt : k < 8
    · have hL2 := hL0.below hb (Nat.le_refl _)
      have HT : Hid ((shpOf l).nums.take (k + 1) = (shpOf l).nums.take k ++ [numAt l k]) := numsL_take l k hlt
      have hv := hAN k hlt
      have hvb := hAB k
      have k8 : (k : Int) < 8 := by omega
      have hk4 : (4 : Int) + 4 * k = ((4 + 4 * k : Nat) : Int) := by omega
      have hg := rget_any b o 512 c (4 + 4 * k) 4 bs wr hL2 hby (by omega) (by omega) (by omega)
      rw [hv] at hg
      clear hv hk4
      generalize numAt l k = y at *
      have hyw : IntKind.i64.wrap y = y := by rw [IntKind.wrap_i64]; omega
      go_wp2_with fail
      refine (show Calls Tryd.prog _ #[_, .int .i64 (4 + 4 * (k : Int)), _] wr _ from by have h := hg; simpa using h).mono ?_
      rintro e wq ⟨rfl, hwq⟩
      subst wq
      clear hg hL2
      go_wp2_with (at_builtin; refine wpList_append_own_wide _ rfl (.tmp 58) (.tmp 65) 41 rfl w0.heap.size 3 i0 (.int .i64 0) 1 8 Tryd.underlying41 hi hz0 hz1 hz2 rfl (by decide) _ _ _ rfl (hown.alloc _) ⟨wr.heap.size, 0, none⟩ 1 1 [.int .i64 y] rfl rfl (cell_one_new _ _ _) (by intro u hu; simp at hu; subst hu; rfl) (by unfold maxLen; omega) (by omega) (by have := hb.size; simp; omega) ?_; intro v' w2 hown2 hgrow2 hnil2)
      go_roundw
      case rel =>
        refine ⟨k + 1, by omega, by go_num, ?_, ?_⟩
        · rw [HT.out]; simpa using hown2
        · exact (hb.alloc hb.size _).grown hgrow2 (by simp; have := hb.size; omega) (fun k hk => (hown.lt k hk).1)
      case measure => simp [intOf]; omega
    · obtain rfl : k = 8 := by omega
      have e8 : (shpOf l).nums.take 8 = (shpOf l).nums := rfl
      rw [e8] at hown
      have hR1 := (hb.block _ (lt_of_block hR0)).trans hR0
      have hN1 := (hb.block _ (lt_of_block hN0)).trans hN0
      have hq1 := hb0.trans (hb.mono hb0.size)
      clear hR0 hN0 hb0 hb hL0 hAN hAB
      generalize shpOf l = s at *
      rcases hown.2 with ⟨hv, hn0⟩ | ⟨g, cp, cur, hv, r⟩
      · omega
      subst hv
      have hce : ∀ i, i < 8 → wr.cell? ⟨g, i, none⟩ = (s.nums.map (Value.int .i64))[i]? := fun i h => hown.cellAt i h
      go_wp2_with fail
      refine (rshape_any s g cp _ ((hce 0 (by omega)).trans rfl) ((hce 1 (by omega)).trans rfl) ((hce 2 (by omega)).trans rfl) ((hce 3 (by omega)).trans rfl) ((hce 4 (by omega)).trans rfl) ((hce 5 (by omega)).trans rfl) ((hce 6 (by omega)).trans rfl) ((hce 7 (by omega)).trans rfl)).mono ?_
      rintro e w2 ⟨rfl, hb2⟩
      have hR2 := (hb2.block _ (lt_of_block hR1)).trans hR1
      have hN2 := (hb2.block _ (lt_of_block hN1)).trans hN1
      have hq2 := hq1.trans (hb2.mono hq1.size)
      clear hR1 hN1 hq1 hb2 hce hown r
      have hn := newBox w2 (.cells #[.int .i64 s.cl, .int .i64 s.wi, .int .i64 s.pl, .int .i64 s.ca, .int .i64 s.ino, .int .i64 s.qu, .int .i64 s.da, .int .i64 s.jo] 33)
      have hs3 : w2.heap.size < (w2.alloc (.cells #[.int .i64 s.cl, .int .i64 s.wi, .int .i64 s.pl, .int .i64 s.ca, .int .i64 s.ino, .int .i64 s.qu, .int .i64 s.da, .int .i64 s.jo] 33)).heap.size := by simp
      have hB3 := ShBox.new w2 s
      have hR3 := (hn.block _ (lt_of_block hR2)).trans hR2
      have hN3 := (hn.block _ (lt_of_block hN2)).trans hN2
      have hq3 := hq2.trans (hn.mono hq2.size)
      clear hR2 hN2 hq2 hn
      go_wp2_with fail
      generalize w2.alloc (.cells #[.int .i64 s.cl, .int .i64 s.wi, .int .i64 s.pl, .int .i64 s.ca, .int .i64 s.ino, .int .i64 s.qu, .int .i64 s.da, .int .i64 s.jo] 33) = w3 at *
      refine (rplan_any s _).mono ?_
      rintro e w4 ⟨rfl, hb4⟩
      have hB4 := hB3.later hb4 hs3
      have hR4 := (hb4.block _ (lt_of_block hR3)).trans hR3
      have hN4 := (hb4.block _ (lt_of_block hN3)).trans hN3
      have hq4 := hq3.trans (hb4.mono hq3.size)
      have hs4 := Nat.lt_of_lt_of_le hs3 hb4.size
      clear hB3 hs3 hR3 hN3 hq3 hb4
      have hn := newBox w4 (.cells #[.int .i64 (planL s).bo, .int .i64 (planL s).jr, .int .i64 (planL s).jl, .int .i64 (planL s).le, .int .i64 (planL s).ll, .int .i64 (planL s).bi, .int .i64 (planL s).bl, .int .i64 (planL s).ta, .int .i64 (planL s).tl, .int .i64 (planL s).dt, .int .i64 (planL s).dl, .int .i64 (planL s).to, .int .i64 (planL s).sh.cl, .int .i64 (planL s).sh.wi, .int .i64 (planL s).sh.pl, .int .i64 (planL s).sh.ca, .int .i64 (planL s).sh.ino, .int .i64 (planL s).sh.qu, .int .i64 (planL s).sh.da, .int .i64 (planL s).sh.jo] 40)
      have hB5 := hB4.later hn hs4
      have hR5 := (hn.block _ (lt_of_block hR4)).trans hR4
      have hN5 := (hn.block _ (lt_of_block hN4)).trans hN4
      have hq5 := hq4.trans (hn.mono hq4.size)
      clear hB4 hR4 hN4 hq4 hn
      have hst := ShStore.row hR5 rfl
      by_cases hp : planE s = 0
      · have hx : (planE s != 0) = false := by simp [hp]
        have HP : Hid (planE s = 0) := hp
        clear hp hN5
        obtain ⟨a0, a1, a2, a3, a4, a5, a6, a7⟩ := hB5
        go_wp2_with fail
        refine bodyPost_ret (res2 rfl _ _ w.heap.size 33 _ (0, 0) _ rfl (setRow_heap _ _ _ _ _ _ hR5) Tryd.underlying33 rfl sh_size) rfl ?_
        refine ⟨?_, below_setRow hq5 (Nat.le_refl _) _⟩
        rw [HE.out, if_neg (fun h => h HP.out)]
        rfl
      · have hx : (planE s != 0) = true := by simpa using hp
        have HP : Hid (¬ planE s = 0) := hp
        clear hp hB5
        obtain ⟨z0, z1, z2, z3, z4, z5, z6, z7⟩ := sh_zero hN5
        go_wp2_with fail
        refine bodyPost_ret (res2 rfl _ _ w.heap.size 33 _ (0, 0) _ rfl (setRow_heap _ _ _ _ _ _ hR5) Tryd.underlying33 rfl sh_size) rfl ?_
        refine ⟨?_, below_setRow hq5 (Nat.le_refl _) _⟩
        rw [HE.out, if_pos HP.out]
        rfl
end Go.Proofs.YtgpeefedboomoabDoor
