/- annexlaw5.DeviceMany by its walk. -/
import Derived.Test.YtkffnbcfmaoldaaLM
namespace Go.Proofs.Ytkffnbcfmaoldaa
open Go.RowKit Go.Maps
set_option maxRecDepth 100000

theorem Try.info25 : (Try.prog.info? 25).map (fun i => (i.zero, i.size, i.bytes)) = some (some (.pointer none), 1, 8) := by kernel_rfl
theorem cell_one_new (w : World) (x : Value) (t : TypeId) : ∀ j u, [x][j]? = some u → (w.alloc (.cells #[x] t)).cell? ((⟨w.heap.size, 0, none⟩ : Addr).add j) = some u := by
  intro j u hj
  match j, hj with
  | 0, hj => simp at hj; subst hj; simp [Addr.add]

set_option maxHeartbeats 4000000 in
theorem many_any (n x arm : Int) (w : World) (_hn : -9223372036854775808 ≤ n ∧ n ≤ 9223372036854775807) (hx : 0 ≤ x ∧ x ≤ 255) (_ha : -9223372036854775808 ≤ arm ∧ arm ≤ 9223372036854775807) :
    Calls Try.prog 4 #[.int .i64 n, .int .u8 x, .int .i64 arm] w fun e w' => e = .returned (.bool true) ∧ Below w.heap.size w w' := by
  obtain ⟨i0, hi, hz0, hz1, hz2⟩ := info_parts Try.info5
  obtain ⟨j0, ji, jz0, jz1, jz2⟩ := info_parts Try.info25
  obtain ⟨hx0, hx1⟩ := hx
  have hn2 : -4 < n.tmod 4 ∧ n.tmod 4 < 4 := by
    have : (n.tmod 4).natAbs < 4 := by rw [Int.natAbs_tmod]; exact Nat.mod_lt _ (by decide)
    omega
  have ha2 : -3 < arm.tmod 3 ∧ arm.tmod 3 < 3 := by
    have : (arm.tmod 3).natAbs < 3 := by rw [Int.natAbs_tmod]; exact Nat.mod_lt _ (by decide)
    omega
  obtain ⟨hn0, hn1⟩ := hn2
  obtain ⟨ha0, ha1⟩ := ha2
  obtain ⟨k, hk⟩ : ∃ k : Nat, 1 + (n.tmod 4 + 4) % 4 = (k : Int) := ⟨(1 + (n.tmod 4 + 4) % 4).toNat, by omega⟩
  have hk' : 1 + n.tmod 4 % 4 = (k : Int) := by omega
  have hk1 : 1 ≤ k := by omega
  have hk2 : k ≤ 4 := by omega
  have hk1i : (1 : Int) ≤ k := by omega
  have hk2i : (k : Int) ≤ 4 := by omega
  obtain ⟨fz, hfz⟩ : ∃ k : Nat, 2 + (arm.tmod 3 + 3) % 3 = (k : Int) := ⟨(2 + (arm.tmod 3 + 3) % 3).toNat, by omega⟩
  have hfz' : 2 + arm.tmod 3 % 3 = (fz : Int) := by omega
  have hf1 : 2 ≤ fz := by omega
  have hf2 : fz ≤ 4 := by omega
  go_enter Try.func4, Try.ntmps4
  go_wp2_with fail
  refine (known_any _).mono ?_
  rintro e w1 ⟨rfl, B1⟩
  have hz := zeros_bl w1 (512 * k)
  have hb1 : Below w1.heap.size w1 (w1.alloc (.cells (madeCells #[.int .u8 0] (512 * k)) 5)) := (Below.refl _ w1).alloc (Nat.le_refl _) _
  obtain ⟨gb, hgb⟩ : ∃ gb, w1.heap.size = gb := ⟨_, rfl⟩
  obtain ⟨W, hW⟩ : ∃ W, w1.alloc (.cells (madeCells #[.int .u8 0] (512 * k)) 5) = W := ⟨_, rfl⟩
  rw [hW, hgb] at hz
  rw [hW] at hb1
  have hM0 : Many w W gb (.slice none 0 0) 0 k (fun _ => 0) (st0 k x fz) (fun _ _ => False) :=
    ⟨fun i hi => by omega, fun i j hi => by omega, fun i hi => by omega, ⟨rfl, Or.inl ⟨rfl, rfl⟩⟩, fun i hi => by omega, fun i hi => by omega, (fun h => by cases h), by have := B1.size; omega, heap_lt hz, B1.trans (hb1.mono B1.size)⟩
  go_wp2_with (at_make; refine wpList_make_row _ rfl _ _ 32 rfl 5 i0 (.int .u8 0) Try.underlying32 hi hz0 hz1 rfl .i64 .i64 (512 * k) (by show Value.int .i64 (_ * 512) = _; congr 1; omega) (by show Value.int .i64 (_ * 512) = _; congr 1; omega) (by rw [hz2]; omega) (by omega) ?_)
  try rw [hW]
  have HZ : Hid (W.heap[gb]? = some (bl (List.replicate (512 * k) 0))) := hz
  clear hz hb1
  go_loopw [8, 10] (fun l i wr => ∃ (j : Nat) (d : Nat → Nat) (F : Nat → Nat → Prop) (bs : List Int), j ≤ 20 ∧ i = .int .i64 j ∧ Many w wr gb l j k d (st0 k x fz) F ∧ wr.heap[gb]? = some (bl bs) ∧ bs.length = 512 * k) (fun _ i _ => 20 - (intOf i).toNat)
  case atStart => exact ⟨0, _, _, List.replicate (512 * k) 0, Nat.zero_le _, rfl, hM0, HZ.out, by simp⟩
  case round =>
    clear hM0
    obtain ⟨j, d, F, bs, hj, rfl, hM, hgb, hbl⟩ := hrel
    obtain ⟨la, lc, hlv⟩ := row_slice hM.row
    subst hlv
    by_cases hlt : j < 20
    · have hji : (j : Int) < 20 := by omega
      have hjw : (x + (j : Int)) % 256 = (x + (j : Int)) % 256 := rfl
      go_wp2_with fail
      go_loopw [11] (fun i wr => ∃ (t : Nat) (bs : List Int), t ≤ 512 * k ∧ i = .int .i64 t ∧ Many w wr gb (.slice la j lc) j k d (st0 k x fz) F ∧ wr.heap[gb]? = some (bl bs) ∧ bs.length = 512 * k ∧ ∀ u, u < t → bs[u]? = some ((x + j) % 256)) (fun i _ => 512 * k - (intOf i).toNat)
      case atStart => exact ⟨0, bs, Nat.zero_le _, rfl, hM, hgb, hbl, fun u hu => by omega⟩
      case round =>
        clear hM hgb hbl bs
        obtain ⟨t, bs, ht, rfl, hM, hgb, hbl, hbs⟩ := hrel
        by_cases hlt2 : t < 512 * k
        · have hti : (t : Int) < 512 * k := by omega
          obtain ⟨v, hv⟩ : ∃ v, (bs.map (Value.int .u8)).toArray[t]? = some v := ⟨_, Array.getElem?_eq_getElem (by simp [hbl]; omega)⟩
          have k0 : wr.cell? ⟨gb, t, none⟩ = some v := by simp only [World.cell?, hgb]; exact hv
          have f0 : wr.frozen? ⟨gb, t, none⟩ = false := by simp [World.frozen?, hgb]
          have HG2 : Hid ((wr.setCell ⟨gb, t, none⟩ (.int .u8 ((x + j) % 256))).heap[gb]? = some (bl (bs.set t ((x + j) % 256)))) := by
            have q := heap_setCell_same _ gb t _ _ (.int .u8 ((x + j) % 256)) hgb
            refine Eq.trans q ?_
            simp
          have HM2 : Hid _ := hM.set t (.int .u8 ((x + j) % 256))
          have HBS : Hid (∀ u, u < t + 1 → (bs.set t ((x + j) % 256))[u]? = some ((x + j) % 256)) := fun u hu => by
            rw [List.getElem?_set]
            by_cases e : t = u
            · rw [if_pos e, if_pos (by omega)]
            · rw [if_neg e]; exact hbs u (by omega)
          clear hgb hv hM hbs
          go_wp2_with fail
          go_roundw
          case rel => exact ⟨t + 1, bs.set t ((x + j) % 256), by omega, by go_num, HM2.out, HG2.out, by simp [hbl], HBS.out⟩
          case measure => simp [intOf]; omega
        · obtain rfl : t = 512 * k := by omega
          obtain rfl : bs = List.replicate (512 * k) ((x + j) % 256) := by
            refine List.ext_getElem? (fun u => ?_)
            by_cases hu : u < 512 * k
            · rw [hbs u hu]; simp [hu]
            · rw [List.getElem?_eq_none (by omega), List.getElem?_eq_none (by simp; omega)]
          clear hbs hbl
          have hti : ¬ ((512 * k : Nat) : Int) < 512 * k := by omega
          go_wp2_with fail
          refine (new_good k _ hk1 (by omega)).mono ?_
          rintro e w3 ⟨db, rfl, hD, hb⟩
          have h3 := Beside.new hM hD hb
          have hg3 := (hb.block gb hM.gs).trans hgb
          have hgG3 : ∀ w4, grow (fun _ => False) w3 w4 gb → False := fun w4 q => by
            have := h3.M.gs
            have := q.elim False.elim id
            omega
          clear hD hb hgb hM
          generalize grow (fun _ => False) wr w3 = G3 at *
          have HADD : Hid (∀ (wX : World) (db : Nat) (G : Nat → Prop) (v' : Value) (w5 : World), Beside w wX gb (.slice la j lc) j k d (st0 k x fz) F db (st0 k x fz j) G → wX.heap[gb]? = some (bl (List.replicate (512 * k) ((x + j) % 256))) →
              w5.ownsRow w.heap.size 25 1 v' (j + 1) ((List.range j).map (fun i => pt (d i)) ++ [pt db]) → Turns (fun i => (Value.slice la j lc).ownBlock = some i) wX w5 → (v'.ownBlock = (Value.slice la j lc).ownBlock ∨ ∃ i, v'.ownBlock = some i ∧ wX.heap.size ≤ i) →
              ∃ (d : Nat → Nat) (F : Nat → Nat → Prop) (bs : List Int), Many w w5 gb v' (j + 1) k d (st0 k x fz) F ∧ w5.heap[gb]? = some (bl bs) ∧ bs.length = 512 * k) := fun wX db G v' w5 hS hg hr ht hat => by
            have hA := hS.add ht hr hat
            have e1 : (fun q => if q = j then st0 k x fz j else st0 k x fz q) = st0 k x fz := by
              funext q
              by_cases e : q = j
              · rw [if_pos e, e]
              · rw [if_neg e]
            rw [e1] at hA
            exact ⟨_, _, _, hA, (ht.block gb hS.M.gs hS.M.gv).trans hg, by simp⟩
          by_cases hp : j % 2 = 1
          · have hp1 : (j : Int) % 2 = 1 := by omega
            have hp2 : (j : Int).tmod 2 = 1 := by rw [Int.tmod_eq_emod_of_nonneg (by omega)]; exact hp1
            go_wp2_with fail
            refine (image_good _ k _ _ _ hk1 (by omega) (Lies.full hg3 (by simp)) (fun y hy => by have := List.eq_of_mem_replicate hy; omega)).mono ?_
            rintro e w4 ⟨db4, rfl, hD4, hb4⟩
            have hS := Beside.new h3.M hD4 hb4
            have hgX := (hb4.block gb h3.M.gs).trans hg3
            clear h3 hg3 hD4 hb4 hgG3
            generalize grow (fun _ => False) w3 w4 = G4 at *
            have hst : st0 k x fz j = { fresh (List.replicate (512 * k) ((x + j) % 256)) with fuse := if j % 3 = 0 then fz else 0 } := by simp [st0, fresh, hp]
            by_cases hq : j % 3 = 0
            · have hq1 : (j : Int) % 3 = 0 := by omega
              have hq2 : (j : Int).tmod 3 = 0 := by rw [Int.tmod_eq_emod_of_nonneg (by omega)]; exact hq1
              go_wp2_with (go_at_call 20; refine (num_id _ _).mono ?_; rintro e wn ⟨rfl, hwn⟩; subst wn)
              refine (arm_any hS.D (fz : Int) (by omega)).mono ?_
              rintro e w6 ⟨rfl, q6⟩
              have hS6 := hS.arm q6
              have hg6 := (q6.2.block gb hS.M.gs hS.gG).trans hgX
              have e6 : armed (fresh (List.replicate (512 * k) ((x + j) % 256))) (fz : Int) = st0 k x fz j := by
                unfold armed
                rw [if_neg (by omega), if_neg (by simp [fresh]), hst, if_pos hq]
                simp [fresh]
              rw [e6] at hS6
              have hrow := hS6.M.row
              have hsz := hS6.M.B.size
              have HS : Hid _ := hS6
              clear hS q6 hS6 hgX hst e6
              go_wp2_with (first | (go_at_call 20; refine (num_id _ _).mono ?_; rintro e wn ⟨rfl, hwn⟩; subst wn) | (at_builtin; refine wpList_append_own_at _ rfl (.tmp 77) (.tmp 79) 43 rfl w.heap.size 25 j0 (.pointer none) 1 8 Try.underlying43 ji jz0 jz1 jz2 rfl (by decide) _ j _ rfl (hrow.alloc _) ⟨w6.heap.size, 0, none⟩ 1 1 [pt db4] rfl rfl (cell_one_new _ _ _) (by intro u hu; simp at hu; subst hu; rfl) (by unfold maxLen; omega) (by omega) (by simp; omega) ?_; intro v' w7 hown7 hgrow7 hnil7 hat7))
              have hadd := HADD.out _ _ _ v' w7 HS.out hg6 hown7 ((Turns.alloc _ w6 _).trans (Turns.grown (F := fun i => (Value.slice la j lc).ownBlock = some i) hgrow7 (fun b hb => hb)) (fun _ _ h => h)) (hat7.imp id (fun e => ⟨_, e, by simp⟩))
              obtain ⟨d', F', bs', r1, r2, r3⟩ := hadd
              go_wp2_with fail
              go_roundw
              case rel => exact ⟨j + 1, d', F', bs', by omega, by go_num, r1, r2, r3⟩
              case measure => simp [intOf]; omega
            · have hq1 : ¬ (j : Int) % 3 = 0 := by omega
              have hq2 : ¬ (j : Int).tmod 3 = 0 := by rw [Int.tmod_eq_emod_of_nonneg (by omega)]; exact hq1
              have e6 : fresh (List.replicate (512 * k) ((x + j) % 256)) = st0 k x fz j := by
                rw [hst, if_neg hq]; rfl
              rw [e6] at hS
              have hrow := hS.M.row
              have hsz := hS.M.B.size
              have HS : Hid _ := hS
              clear hS hst e6
              go_wp2_with (first | (go_at_call 20; refine (num_id _ _).mono ?_; rintro e wn ⟨rfl, hwn⟩; subst wn) | (at_builtin; refine wpList_append_own_at _ rfl (.tmp 77) (.tmp 79) 43 rfl w.heap.size 25 j0 (.pointer none) 1 8 Try.underlying43 ji jz0 jz1 jz2 rfl (by decide) _ j _ rfl (hrow.alloc _) ⟨w4.heap.size, 0, none⟩ 1 1 [pt db4] rfl rfl (cell_one_new _ _ _) (by intro u hu; simp at hu; subst hu; rfl) (by unfold maxLen; omega) (by omega) (by simp; omega) ?_; intro v' w7 hown7 hgrow7 hnil7 hat7))
              have hadd := HADD.out _ _ _ v' w7 HS.out hgX hown7 ((Turns.alloc _ w4 _).trans (Turns.grown (F := fun i => (Value.slice la j lc).ownBlock = some i) hgrow7 (fun b hb => hb)) (fun _ _ h => h)) (hat7.imp id (fun e => ⟨_, e, by simp⟩))
              obtain ⟨d', F', bs', r1, r2, r3⟩ := hadd
              go_wp2_with fail
              go_roundw
              case rel => exact ⟨j + 1, d', F', bs', by omega, by go_num, r1, r2, r3⟩
              case measure => simp [intOf]; omega
          · have hp1 : ¬ (j : Int) % 2 = 1 := by omega
            have hp2 : ¬ (j : Int).tmod 2 = 1 := by rw [Int.tmod_eq_emod_of_nonneg (by omega)]; exact hp1
            have hS := h3
            have hgX := hg3
            clear h3 hg3 hgG3
            have hst : st0 k x fz j = { fresh (List.replicate (512 * k) 0) with fuse := if j % 3 = 0 then fz else 0 } := by simp [st0, fresh, hp]
            by_cases hq : j % 3 = 0
            · have hq1 : (j : Int) % 3 = 0 := by omega
              have hq2 : (j : Int).tmod 3 = 0 := by rw [Int.tmod_eq_emod_of_nonneg (by omega)]; exact hq1
              go_wp2_with fail
              refine (arm_any hS.D (fz : Int) (by omega)).mono ?_
              rintro e w6 ⟨rfl, q6⟩
              have hS6 := hS.arm q6
              have hg6 := (q6.2.block gb hS.M.gs hS.gG).trans hgX
              have e6 : armed (fresh (List.replicate (512 * k) 0)) (fz : Int) = st0 k x fz j := by
                unfold armed
                rw [if_neg (by omega), if_neg (by simp [fresh]), hst, if_pos hq]
                simp [fresh]
              rw [e6] at hS6
              have hrow := hS6.M.row
              have hsz := hS6.M.B.size
              have HS : Hid _ := hS6
              clear hS q6 hS6 hgX hst e6
              go_wp2_with (at_builtin; refine wpList_append_own_at _ rfl (.tmp 77) (.tmp 79) 43 rfl w.heap.size 25 j0 (.pointer none) 1 8 Try.underlying43 ji jz0 jz1 jz2 rfl (by decide) _ j _ rfl (hrow.alloc _) ⟨w6.heap.size, 0, none⟩ 1 1 [pt db] rfl rfl (cell_one_new _ _ _) (by intro u hu; simp at hu; subst hu; rfl) (by unfold maxLen; omega) (by omega) (by simp; omega) ?_; intro v' w7 hown7 hgrow7 hnil7 hat7)
              have hadd := HADD.out _ _ _ v' w7 HS.out hg6 hown7 ((Turns.alloc _ w6 _).trans (Turns.grown (F := fun i => (Value.slice la j lc).ownBlock = some i) hgrow7 (fun b hb => hb)) (fun _ _ h => h)) (hat7.imp id (fun e => ⟨_, e, by simp⟩))
              obtain ⟨d', F', bs', r1, r2, r3⟩ := hadd
              go_wp2_with fail
              go_roundw
              case rel => exact ⟨j + 1, d', F', bs', by omega, by go_num, r1, r2, r3⟩
              case measure => simp [intOf]; omega
            · have hq1 : ¬ (j : Int) % 3 = 0 := by omega
              have hq2 : ¬ (j : Int).tmod 3 = 0 := by rw [Int.tmod_eq_emod_of_nonneg (by omega)]; exact hq1
              have e6 : fresh (List.replicate (512 * k) 0) = st0 k x fz j := by
                rw [hst, if_neg hq]; rfl
              rw [e6] at hS
              have hrow := hS.M.row
              have hsz := hS.M.B.size
              have HS : Hid _ := hS
              clear hS hst e6
              go_wp2_with (at_builtin; refine wpList_append_own_at _ rfl (.tmp 77) (.tmp 79) 43 rfl w.heap.size 25 j0 (.pointer none) 1 8 Try.underlying43 ji jz0 jz1 jz2 rfl (by decide) _ j _ rfl (hrow.alloc _) ⟨w3.heap.size, 0, none⟩ 1 1 [pt db] rfl rfl (cell_one_new _ _ _) (by intro u hu; simp at hu; subst hu; rfl) (by unfold maxLen; omega) (by omega) (by simp; omega) ?_; intro v' w7 hown7 hgrow7 hnil7 hat7)
              have hadd := HADD.out _ _ _ v' w7 HS.out hgX hown7 ((Turns.alloc _ w3 _).trans (Turns.grown (F := fun i => (Value.slice la j lc).ownBlock = some i) hgrow7 (fun b hb => hb)) (fun _ _ h => h)) (hat7.imp id (fun e => ⟨_, e, by simp⟩))
              obtain ⟨d', F', bs', r1, r2, r3⟩ := hadd
              go_wp2_with fail
              go_roundw
              case rel => exact ⟨j + 1, d', F', bs', by omega, by go_num, r1, r2, r3⟩
              case measure => simp [intOf]; omega
    · obtain rfl : j = 20 := by omega
      clear hgb hbl bs hlt hj
      obtain ⟨lg, cap, hle, _⟩ := hM.at_ (i := 0) (by omega)
      cases hle
      go_wp2_with fail
      go_loopw [15] (fun i wr => ∃ (t : Nat) (S : Nat → DevS) (F : Nat → Nat → Prop), t ≤ 20 ∧ i = .int .i64 t ∧ Many w wr gb (.slice (some ⟨lg, 0, none⟩) 20 lc) 20 k d S F ∧ (∀ q, q < t → S q = st1 k x fz q) ∧ (∀ q, t ≤ q → S q = st0 k x fz q)) (fun i _ => 20 - (intOf i).toNat)
      case atStart => exact ⟨0, _, _, Nat.zero_le _, rfl, hM, fun q hq => by omega, fun q _ => rfl⟩
      case round =>
        clear hM
        obtain ⟨t, S, F, ht, rfl, hM, hs1, hs0⟩ := hrel
        by_cases hlt : t < 20
        · have hti : (t : Int) < 20 := by omega
          have y0 := hM.cell hlt
          have hwv : IntKind.u8.wrap (IntKind.i64.wrap (200 + (t : Int))) = 200 + (t : Int) := by
            have q1 : IntKind.i64.wrap (200 + (t : Int)) = 200 + (t : Int) := by rw [IntKind.wrap_i64]; omega
            rw [q1]
            show (200 + (t : Int)) % 256 = 200 + (t : Int)
            omega
          have HWV : Hid _ := hwv
          clear hwv
          have HWR : Hid (∀ (w5 : World) (g5 : Nat), w5.heap[g5]? = some (bl (List.replicate 512 (200 + (t : Int)))) → wr.heap.size ≤ g5 → Below wr.heap.size wr w5 →
              Calls Try.prog 13 #[pt (d t), .int .i64 0, .slice (some ⟨g5, 0, none⟩) 512 512] w5 fun e w' => e = .returned (.int .i64 0) ∧ ∃ (S' : Nat → DevS) (F' : Nat → Nat → Prop), Many w w' gb (.slice (some ⟨lg, 0, none⟩) 20 lc) 20 k d S' F' ∧ (∀ q, q < t + 1 → S' q = st1 k x fz q) ∧ (∀ q, t + 1 ≤ q → S' q = st0 k x fz q)) := fun w5 g5 hb5 hg5 b5 => by
            have h5 := hM.below b5
            obtain ⟨nn, hnn, hD⟩ := h5.D t hlt
            obtain ⟨n0, _, hD0⟩ := hM.D t hlt
            have hst := hs0 t (Nat.le_refl _)
            have hnn0 : nn = 0 := by rw [hst] at hnn; simpa [st0] using hnn
            subst hnn0
            refine (write_any hD 0 (some ⟨g5, 0, none⟩) 512 512 _ (Lies.full hb5 (by simp)) (fun y hy => by have := List.eq_of_mem_replicate hy; omega) (fun ad had q => by obtain rfl := Option.some.inj had; have := hD0.lt _ q; simp at this; omega) (by omega)).mono ?_
            rintro e w7 ⟨rfl, q7⟩
            obtain ⟨r1, r2⟩ := st1_of k x fz t hk1 hf1
            rw [hst, r2] at q7
            refine ⟨by rw [hst, r1], _, _, h5.went hlt (by simp [st1]) q7, fun q hq => ?_, fun q hq => ?_⟩
            · by_cases e : q = t
              · simp [e]
              · simp only [if_neg e]; exact hs1 q (by omega)
            · simp only [if_neg (show ¬ q = t by omega)]; exact hs0 q (by omega)
          have HM : Hid (∀ w5, Below wr.heap.size wr w5 → w5.cell? ⟨lg, t, none⟩ = some (pt (d t))) := fun w5 b5 => (hM.below b5).cell hlt
          clear hM hs0 hs1
          go_wp2_with fail
          go_region_held3 (fun w' => w'.cell? ⟨lg, t, none⟩ = some (pt (d t)))
            (first | exact y0 | exact z0 | exact z1)
            (first
              | (go_at_call 14; refine (full_any _ _).mono ?_; rintro e w5 ⟨g5, rfl, hg5, hb5, b5⟩; have b5 : Below wr.heap.size wr w5 := ⟨b5.os, b5.tape, b5.output, b5.size, b5.block⟩; have z0 := HM.out w5 b5; try rw [HWV.out] at hb5)
              | (go_at_call 13; refine (HWR.out w5 g5 hb5 hg5 b5).mono ?_; rintro e w6 ⟨rfl, S6, F6, h6, r1, r2⟩; have z1 := h6.cell hlt))
          all_goals (
            go_wp2_with (go_at_call 20; refine (num_id _ _).mono ?_; rintro e wn ⟨rfl, hwn⟩; subst wn)
            go_roundw
            case rel => first | exact ⟨t + 1, S6, F6, by omega, by go_num, h6, r1, r2⟩ | (refine ⟨_, _, _, _, _, _, _, _, _, _, _, _, _, _, _, _, _, _, _, ?_, rfl⟩; exact ⟨t + 1, S6, F6, by omega, by go_num, h6, r1, r2⟩)
            case measure => simp [intOf]; omega)
        · obtain rfl : t = 20 := by omega
          clear hs0 hlt ht
          go_wp2_with fail
          go_loopw [17] (fun i wr => ∃ t : Nat, t ≤ 20 ∧ i = .int .i64 ((t : Int) - 1) ∧ Many w wr gb (.slice (some ⟨lg, 0, none⟩) 20 lc) 20 k d S F) (fun i _ => (intOf i + 1).toNat)
          case atStart => exact ⟨20, Nat.le_refl _, rfl, hM⟩
          case round =>
            clear hM
            obtain ⟨t, ht, rfl, hM⟩ := hrel
            cases t with
            | zero =>
              go_wp2_with fail
              go_ret
              exact ⟨rfl, hM.B⟩
            | succ r =>
              have hr : r < 20 := by omega
              have hri : (r : Int) < 20 := by omega
              have hre : ((r + 1 : Nat) : Int) - 1 = (r : Int) := by omega
              rw [hre]
              have hSr := hs1 r hr
              have y0 := hM.cell hr
              obtain ⟨nn, hnn, hD⟩ := hM.D r hr
              have hnn1 : nn ≤ 1 := by rw [hSr] at hnn; simpa [st1] using hnn
              have hmul : ((512 * (k : Int)) != (k : Int) * 512) = false := by simp; omega
              have hoff : (S r).off = false := by rw [hSr]; rfl
              have HRD : Hid (rdB (S r) 0 = List.replicate 512 (200 + (r : Int))) := by rw [hSr]; exact st1_rd k x fz r
              have HFS : Hid (((S r).last.map (Value.int .u8)).toArray[0]? = some (.int .u8 (if r % 2 = 1 then (x + r) % 256 else 0))) := by rw [hSr]; exact st1_first k x fz r hk1
              have HPN : Hid ((S r).pend.length = 1) := by rw [hSr]; rfl
              have HOFF : Hid ((S r).off = false) := hoff
              clear hSr hoff hnn
              go_wp2_with fail
              refine (read_on hD HOFF.out 0 (by omega)).mono ?_
              rintro e w4 ⟨g4, rfl, o4, D4, t4, hg4⟩
              have h4 := hM.look hr (by rw [HPN.out]; exact hnn1) ⟨D4, t4⟩
              rw [HRD.out] at o4
              clear hD y0 hM t4
              go_wp2_with fail
              refine (full_any _ _).mono ?_
              rintro e w5 ⟨g5, rfl, hg5, hb5, b5⟩
              have o5 := o4.below b5
              have h5 := h4.below b5
              have D5 := D4.below b5
              clear h4 D4 o4
              go_wp2_with fail
              refine (same_true _ _ 512 512 512 512 (List.replicate 512 (200 + (r : Int))) _ (by omega) (o5.lies (by simp)) (Lies.full hb5 (by simp))).mono ?_
              rintro e w6 ⟨rfl, t6, rfl⟩
              have b6 : Below w5.heap.size w5 (w5.drewN t6) := Below.drewN (Below.refl _ w5) t6
              have h6 := h5.below b6
              have D6 := D5.below b6
              have y6 := h6.cell hr
              clear h5 D5 hb5 o5 b6
              generalize w5.drewN t6 = w6 at *
              go_wp2_with fail
              refine (durable_on D6).mono ?_
              rintro e w7 ⟨g7, rfl, o7, D7, t7, _⟩
              have h7 := h6.look hr (by rw [HPN.out]; exact hnn1) ⟨D7, t7⟩
              have y7 := h7.cell hr
              have c7 : w7.cell? ⟨g7, 0, none⟩ = some (.int .u8 (if r % 2 = 1 then (x + r) % 256 else 0)) := by simp only [World.cell?, o7.blk]; exact HFS.out
              have HPE : Hid (∀ W, W.heap = w7.heap → W.os = w7.os → W.tape = w7.tape → W.output = w7.output → Calls Try.prog 15 #[pt (d r)] W fun e w' => ∃ P, e = .returned (.slice (some ⟨P, 0, none⟩) 1 1) ∧ Many w w' gb (.slice (some ⟨lg, 0, none⟩) 20 lc) 20 k d S F) := fun W e1 e2 e3 e4 => by
                have bW : Below w7.heap.size w7 W := ⟨e2, e3, e4, by rw [e1]; exact Nat.le_refl _, fun i _ => by rw [e1]⟩
                refine (pending_any (D7.below bW) (by omega)).mono ?_
                rintro e w8 ⟨⟨P, gs, rfl, _⟩, q8⟩
                exact ⟨P, by rw [HPN.out], (h7.below bW).look hr (by rw [HPN.out]; exact hnn1) q8⟩
              clear h6 D6 y6 t7 o7 h7 D7
              by_cases hp : r % 2 = 1
              · have hp1 : (r : Int) % 2 = 1 := by omega
                have hp2 : (r : Int).tmod 2 = 1 := by rw [Int.tmod_eq_emod_of_nonneg (by omega)]; exact hp1
                rw [if_pos hp] at c7
                go_wp2_with (first
                  | (go_at_call 20; refine (num_id _ _).mono ?_; rintro e wn ⟨rfl, hwn⟩; subst wn)
                  | (go_at_call 15; refine (HPE.out _ rfl rfl rfl rfl).mono ?_; rintro e w8 ⟨P, rfl, h8⟩))
                go_roundw
                case rel =>
                  repeat apply Exists.intro
                  refine And.intro ?_ rfl
                  exact ⟨r, by omega, rfl, h8⟩
                case measure => simp [intOf]
              · have hp1 : ¬ (r : Int) % 2 = 1 := by omega
                have hp2 : ¬ (r : Int).tmod 2 = 1 := by rw [Int.tmod_eq_emod_of_nonneg (by omega)]; exact hp1
                rw [if_neg hp] at c7
                go_wp2_with (first
                  | (go_at_call 20; refine (num_id _ _).mono ?_; rintro e wn ⟨rfl, hwn⟩; subst wn)
                  | (go_at_call 15; refine (HPE.out _ rfl rfl rfl rfl).mono ?_; rintro e w8 ⟨P, rfl, h8⟩))
                go_roundw
                case rel =>
                  repeat apply Exists.intro
                  refine And.intro ?_ rfl
                  exact ⟨r, by omega, rfl, h8⟩
                case measure => simp [intOf]
end Go.Proofs.Ytkffnbcfmaoldaa
