/- The document's own get and shape by their contracts; roomy. -/
import Derived.Test.YtgpeefedboomoabDoorP25
import Derived.Test.YtgpeefedboomoabDoorAZ
namespace Go.Proofs.YtgpeefedboomoabDoor
open Go.RowKit
set_option maxRecDepth 100000

attribute [local go_sem ↓ 100000] sh_store
theorem ShStore.drew (x0 x1 x2 x3 x4 x5 x6 x7 : Int) (o : Oper) (a : Act) (w : World) (next : Act → World → Prop) (Q : Exit → Act → World → Prop) :
    ShStore (.pointer (some ⟨w.heap.size, 0, none⟩)) (.agg #[.int .i64 x0, .int .i64 x1, .int .i64 x2, .int .i64 x3, .int .i64 x4, .int .i64 x5, .int .i64 x6, .int .i64 x7]) o a (w.alloc (.cells #[.int .i64 0, .int .i64 0, .int .i64 0, .int .i64 0, .int .i64 0, .int .i64 0, .int .i64 0, .int .i64 0] 33)).drew next Q = next (a.put o.dst undef) (w.alloc (.cells #[.int .i64 x0, .int .i64 x1, .int .i64 x2, .int .i64 x3, .int .i64 x4, .int .i64 x5, .int .i64 x6, .int .i64 x7] 33)).drew :=
  ShStore.new _ _ _ _ _ _ _ _ o a w.drew next Q
attribute [local go_sem] ShStore.new ShStore.drew

theorem val_step (bs : List Int) (a i : Nat) (h : a + i < bs.length) : val ((bs.drop a).take (i + 1)) = 256 * val ((bs.drop a).take i) + bs.getD (a + i) 0 := by
  have e : (bs.drop a).take (i + 1) = (bs.drop a).take i ++ [bs.getD (a + i) 0] := by
    rw [List.take_succ_eq_append_getElem (by simp; omega)]
    simp [List.getD, h]
  rw [e, val_snoc, Int.mul_comm]
theorem val_lt8 (bs : List Int) (a i : Nat) (hi : i ≤ 8) (hby : ∀ x ∈ bs, 0 ≤ x ∧ x ≤ 255) : 0 ≤ val ((bs.drop a).take i) ∧ val ((bs.drop a).take i) < 18446744073709551616 := by
  have h := val_bd ((bs.drop a).take i) (fun x hx => hby x (List.mem_of_mem_drop (List.mem_of_mem_take hx)))
  refine ⟨h.1, Int.lt_of_lt_of_le h.2 ?_⟩
  have hl : ((bs.drop a).take i).length ≤ 8 := Nat.le_trans (List.length_take_le _ _) hi
  generalize ((bs.drop a).take i).length = m at hl ⊢
  obtain rfl | rfl | rfl | rfl | rfl | rfl | rfl | rfl | rfl : m = 0 ∨ m = 1 ∨ m = 2 ∨ m = 3 ∨ m = 4 ∨ m = 5 ∨ m = 6 ∨ m = 7 ∨ m = 8 := by omega
  all_goals decide

set_option maxHeartbeats 1000000 in
theorem rget_any (b o len cap a n : Nat) (bs : List Int) (w : World) (hL : Lies w (some ⟨b, o, none⟩) len cap bs) (hby : ∀ x ∈ bs, 0 ≤ x ∧ x ≤ 255) (hn : n ≤ 8) (ha : a + n ≤ len) (hl : len ≤ 200000000000000) :
    Calls Tryd.prog 37 #[.slice (some ⟨b, o, none⟩) len cap, .int .i64 a, .int .i64 n] w fun e w' => e = .returned (.int .u64 (val ((bs.drop a).take n))) ∧ w' = w := by
  have hlen := hL.hlen
  have hle := hL.hle
  have hai : (a : Int) + n ≤ len := by omega
  have hli : (len : Int) ≤ 200000000000000 := by omega
  go_enter Tryd.func37, Tryd.ntmps37
  go_wp2_with fail
  go_loopw [7, 8] (fun x v wr => ∃ i : Nat, i ≤ n ∧ v = .int .i64 i ∧ x = .int .u64 (val ((bs.drop a).take i)) ∧ wr = w) (fun _ v _ => n - (intOf v).toNat)
  case atStart => exact ⟨0, Nat.zero_le _, rfl, by simp [val], rfl⟩
  case round =>
    obtain ⟨i, hi, rfl, rfl, rfl⟩ := hrel
    by_cases hlt : i < n
    · obtain ⟨b2, o2, e2, hc⟩ := hL.at (by omega)
      cases e2
      have gc := hc (a + i) (by omega)
      clear hc
      have HV : Hid (val ((bs.drop a).take (i + 1)) = 256 * val ((bs.drop a).take i) + bs.getD (a + i) 0) := val_step bs a i (by omega)
      have v0 := val_lt8 bs a i (by omega) hby
      have v1 := val_lt8 bs a (i + 1) (by omega) hby
      rw [HV.out] at v1
      have hd : 0 ≤ bs.getD (a + i) 0 ∧ bs.getD (a + i) 0 ≤ 255 := getD_by hby (by omega)
      have hin : (i : Int) < n := by omega
      have hx1 : IntKind.i64.wrap ((a : Int) + i) = ((a + i : Nat) : Int) := by rw [IntKind.wrap_i64]; omega
      have hx2 : (((a + i : Nat) : Int)) < len := by omega
      generalize bs.getD (a + i) 0 = y at *
      generalize val ((bs.drop a).take i) = v at *
      have hm : IntKind.u64.wrap (256 * v) = 256 * v := by rw [IntKind.wrap_u64]; omega
      have hm2 : IntKind.u64.wrap (256 * v + y) = 256 * v + y := by rw [IntKind.wrap_u64]; omega
      have hm3 : IntKind.u64.wrap y = y := by rw [IntKind.wrap_u64]; omega
      go_wp2_with fail
      go_roundw
      case rel => exact ⟨i + 1, by omega, by go_num, by rw [HV.out], by first | rfl | trivial⟩
      case measure => simp [intOf]; omega
    · obtain rfl : i = n := by omega
      go_wp2_with fail
      go_ret
      exact ⟨rfl, by first | rfl | trivial⟩

set_option maxHeartbeats 2000000 in
theorem rshape_any (s : Shp) (g c : Nat) (w : World) (h0 : w.cell? ⟨g, 0, none⟩ = some (.int .i64 s.cl)) (h1 : w.cell? ⟨g, 1, none⟩ = some (.int .i64 s.wi)) (h2 : w.cell? ⟨g, 2, none⟩ = some (.int .i64 s.pl)) (h3 : w.cell? ⟨g, 3, none⟩ = some (.int .i64 s.ca)) (h4 : w.cell? ⟨g, 4, none⟩ = some (.int .i64 s.ino)) (h5 : w.cell? ⟨g, 5, none⟩ = some (.int .i64 s.qu)) (h6 : w.cell? ⟨g, 6, none⟩ = some (.int .i64 s.da)) (h7 : w.cell? ⟨g, 7, none⟩ = some (.int .i64 s.jo)) :
    Calls Tryd.prog 39 #[.slice (some ⟨g, 0, none⟩) 8 c] w fun e w' => e = .returned (shV s) ∧ Below w.heap.size w w' := by
  have hg := World.block_lt_of_cell? w _ h0
  have hB : ShBox w g s := ⟨h0, h1, h2, h3, h4, h5, h6, h7⟩
  have hB0 : ShBox (w.alloc (.cells #[.int .i64 0, .int .i64 0, .int .i64 0, .int .i64 0, .int .i64 0, .int .i64 0, .int .i64 0, .int .i64 0] 33)).drew g s := hB.later (newBox w _).drew hg
  have hB1 : ShBox (w.alloc (.cells #[.int .i64 s.cl, .int .i64 s.wi, .int .i64 s.pl, .int .i64 s.ca, .int .i64 s.ino, .int .i64 s.qu, .int .i64 s.da, .int .i64 s.jo] 33)).drew g s := hB.later (newBox w _).drew hg
  clear h0 h1 h2 h3 h4 h5 h6 h7
  go_enter Tryd.func39, Tryd.ntmps39
  go_wp2_with fail
  go_region_held3 (fun w' => w'.cell? ⟨g, 0, none⟩ = some (.int .i64 s.cl) ∧ w'.cell? ⟨g, 1, none⟩ = some (.int .i64 s.wi) ∧ w'.cell? ⟨g, 2, none⟩ = some (.int .i64 s.pl) ∧ w'.cell? ⟨g, 3, none⟩ = some (.int .i64 s.ca) ∧ w'.cell? ⟨g, 4, none⟩ = some (.int .i64 s.ino) ∧ w'.cell? ⟨g, 5, none⟩ = some (.int .i64 s.qu) ∧ w'.cell? ⟨g, 6, none⟩ = some (.int .i64 s.da) ∧ w'.cell? ⟨g, 7, none⟩ = some (.int .i64 s.jo))
    (first | with_reducible exact hB0.all | with_reducible exact hB1.all)
    (fail)
  go_wp2_with fail
  refine bodyPost_ret (results_cell_row rfl _ _ w.heap.size 33 _ (0, 0) _ rfl (heap_alloc_last w.drew _) Tryd.underlying33 rfl sh_size) rfl ?_
  exact ⟨rfl, (newBox w _).drew⟩

set_option maxHeartbeats 1000000 in
theorem roomy_any (ao : Option Addr) (n cap : Nat) (bs : List Int) (w : World) (hn : n ≤ 140737488351232) (hL : Lies w ao n cap bs) :
    Calls Tryd.prog 17 #[.slice ao n cap] w fun e w' => Made w e w' (n + 3) (bs ++ [91, 92, 93]) := by
  obtain ⟨i0, hi, hz0, hz1, hz2⟩ := info_parts Tryd.info5
  go_enter Tryd.func17, Tryd.ntmps17
  go_wp2_with fail
  refine (bytes29_any ao n cap bs _ (by omega) hL).mono ?_
  rintro e w1 ⟨bo, c1, rfl, ho1, hb1⟩
  have hsrc : ∀ t u, ([Value.int .u8 91, .int .u8 92, .int .u8 93] : List Value)[t]? = some u → (w1.alloc (.cells #[.int .u8 91, .int .u8 92, .int .u8 93] 5)).cell? ((⟨w1.heap.size, 0, none⟩ : Addr).add t) = some u := fun t u hu => by
    rw [Addr.add_lit, Nat.zero_add, World.cell?_alloc_at _ _ _ _ rfl]
    simpa using hu
  go_wp2_with (at_builtin; refine wpList_append_own_wide _ rfl (.tmp 6) (.tmp 7) 26 rfl w.heap.size 5 i0 (.int .u8 0) 1 1 Tryd.underlying26 hi hz0 hz1 hz2 rfl (by decide) _ _ _ rfl (ho1.alloc _) ⟨w1.heap.size, 0, none⟩ 3 3 [.int .u8 91, .int .u8 92, .int .u8 93] rfl rfl hsrc (by intro u hu; simp at hu; rcases hu with rfl | rfl | rfl <;> rfl) (by unfold maxLen; omega) (by omega) (by have := hb1.size; simp; omega) ?_; intro v' w2 hown2 hgrow2 hnil2)
  go_ret
  have hq : Below w.heap.size w w2 := (hb1.alloc hb1.size _).grown hgrow2 (by simp; have := hb1.size; omega) (fun k hk => (ho1.lt k hk).1)
  rcases hown2.2 with ⟨hv, hn0⟩ | ⟨g, cp, cur, hv, r⟩
  · omega
  · subst hv
    refine ⟨g, cp, rfl, ?_, hq⟩
    simpa using hown2
end Go.Proofs.YtgpeefedboomoabDoor
