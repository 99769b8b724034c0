/- again: by its contract. -/
import Derived.Test.YtnmdnglbpkpfdaaGreatDoorPk24
import Derived.Test.YtnmdnglbpkpfdaaGreatDoorPk20
import Derived.Test.YtnmdnglbpkpfdaaGreatDoorPk25
namespace Go.Proofs.YtnmdnglbpkpfdaaGreatDoor
open Go.RowKit Go.Maps
set_option maxRecDepth 100000
/-- A fall that came in. -/
structure FlIn where
  arm : Int
  ka : Option Addr
  kn : Nat
  kc : Nat
  ks : List Bool
structure FlOk (w : World) (f : FlIn) : Prop where
  k : KLies w f.ka f.kn f.kc f.ks
  n : f.kn ≤ 140737488355328
  a : f.arm ≤ 9223372036854775807
structure FLies (w : World) (ao : Option Addr) (n : Nat) (fs : List FlIn) : Prop where
  hlen : fs.length = n
  hcells : ∀ (j : Nat) f, fs[j]? = some f → FlOk w f ∧ ∃ g p, ao = some ⟨g, p, none⟩ ∧ w.cell? ⟨g, p + j * 2, none⟩ = some (.int .i64 f.arm) ∧ w.cell? ⟨g, p + j * 2 + 1, none⟩ = some (.slice f.ka f.kn f.kc)
/-- A list of lists of falls. -/
structure OpIn where
  fa : Option Addr
  fn : Nat
  fc : Nat
  fs : List FlIn
structure OLies (w : World) (ao : Option Addr) (n : Nat) (ts : List OpIn) : Prop where
  hlen : ts.length = n
  hcells : ∀ (j : Nat) t, ts[j]? = some t → (FLies w t.fa t.fn t.fs ∧ t.fn ≤ 140737488355328) ∧ ∃ g p, ao = some ⟨g, p, none⟩ ∧ w.cell? ⟨g, p + j, none⟩ = some (.slice t.fa t.fn t.fc)
/-- A list of lists of transactions. -/
structure RnIn where
  ta : Option Addr
  tn : Nat
  tc : Nat
  ts : List TxIn
structure RLies (w : World) (ao : Option Addr) (n : Nat) (ts : List RnIn) : Prop where
  hlen : ts.length = n
  hcells : ∀ (j : Nat) t, ts[j]? = some t → (TxsLies w t.ta t.tn t.ts ∧ t.tn ≤ 140737488355328) ∧ ∃ g p, ao = some ⟨g, p, none⟩ ∧ w.cell? ⟨g, p + j, none⟩ = some (.slice t.ta t.tn t.tc)
theorem KLies.late {w w' : World} {ao : Option Addr} {n c : Nat} {ks : List Bool} (h : KLies w ao n c ks) (hb : Below w.heap.size w w') : KLies w' ao n c ks :=
  ⟨h.hlen, h.hle, fun j s hj => by
    obtain ⟨g, o, e, h1⟩ := h.hcells j s hj
    exact ⟨g, o, e, (hb.cell (World.block_lt_of_cell? w _ h1)).trans h1⟩⟩
theorem crashR {w : World} {F : Nat → Prop} {M Q N tw db k st sz : Nat} {ov wv : Value} {os : List Nat} {xs : List It} {R : DevS} {old : Nat → List Int} {ao : Option Addr} {m c : Nat} {ks : List Bool} (hD : Dev w db 0 R k N F) (T : Tg w F tw db st sz ov wv os xs) (hxl : xs.length = os.length) (hos : ∀ o ∈ os, o < k ∧ (o < st ∨ st + sz ≤ o)) (hsee : ∀ (i o : Nat) (x : It), os[i]? = some o → xs[i]? = some x → x.bs = old o) (hK : ∀ W, Turns F w W → KLies W ao m c ks) (hkl : ks.length = m) (hm : m ≤ 140737488355328) (hN : N ≤ M) (hM : M ≤ 900000000) (hcr : CrN R k st sz Q old ks) :
    Calls Tryz.prog 21 #[.pointer (some ⟨db, 0, none⟩), .slice ao m c] w fun e w' => e = .returned (.tuple #[]) ∧ (∃ G, RsI w' G M Q tw db k st sz ov os ∧ ∀ i, G i → F i ∨ w.heap.size ≤ i) ∧ Turns F w w' := by
  refine (crash_gen hD ao m c ks hK hkl hm (by omega)).mono ?_
  rintro e w' ⟨rfl, D', t'⟩
  obtain ⟨s, p, fr, Tl, s1, p1, L, hs, hold⟩ := hcr
  have hG' : ∀ i, grow F w w' i → F i ∨ w.heap.size ≤ i := fun i r => r.imp id (fun r => r.1)
  refine ⟨rfl, ⟨_, ⟨_, N, s, p, fr, Tl, s1, p1, wv, xs, D', L, ⟨rfl, rfl⟩, T.to (Kp.same t') hG', hxl, fun i o x ho hx => ?_, hN, hs⟩, hG'⟩, t'⟩
  have h3 := hos o (List.mem_of_getElem? ho)
  rw [hsee i o x ho hx, hold o h3.1 h3.2]
/-- What again's loop holds. -/
structure AgI (w0 w : World) (M Q tw db k st sz : Nat) (ov : Value) (os : List Nat) : Prop where
  ex : ∃ G, RsI w G M Q tw db k st sz ov os ∧ ∀ i, G i → w0.heap.size ≤ i
  b : Below w0.heap.size w0 w
theorem seeT_armed {S S' : DevS} (hl : S'.last = S.last) (hp : S'.pend = S.pend) (T : List TxL) (o : Nat) : seeT S' T o = seeT S T o := by
  have e : rdB S' o = rdB S o := by unfold rdB; rw [hl, hp]
  unfold seeT
  rw [e]
/-- What a crash finds of a town. -/
structure AgC (w0 w : World) (M Q tw db k st sz : Nat) (ov : Value) (os : List Nat) (ks : List Bool) : Prop where
  ex : ∃ (G : Nat → Prop) (R : DevS) (N : Nat) (wv : Value) (xs : List It) (old : Nat → List Int), Dev w db 0 R k N G ∧ Tg w G tw db st sz ov wv os xs ∧ xs.length = os.length ∧ (∀ (i o : Nat) (x : It), os[i]? = some o → xs[i]? = some x → x.bs = old o) ∧ N ≤ M ∧ CrN R k st sz Q old ks ∧ ∀ i, G i → w0.heap.size ≤ i
  b : Below w0.heap.size w0 w
set_option maxHeartbeats 8000000 in
theorem againR (er : Nat → Addr) {w0 ws : World} (hE : Errs w0 er) (hg : ErT w0) {M Q tw db k st sz n : Nat} {ov : Value} {os : List Nat} (R : AgI w0 ws M Q tw db k st sz ov os) (ltw : w0.heap.size ≤ tw) (P : Shp7 k st sz n os) (hM : M ≤ 400000000) (hQ : Q ≤ 400000000) (ao : Option Addr) (nf cf : Nat) (fs : List FlIn) (hnf : nf ≤ 140737488355328) (hL : FLies w0 ao nf fs) :
    Calls Tryz.prog 38 #[.pointer (some ⟨tw, 0, none⟩), .slice ao nf cf] ws fun e w' => e = .returned (.bool true) ∧ AgI w0 w' (M + 200000) (Q + 100) tw db k st sz ov os := by
  have HI : Hid (AgI w0 ws (M + 5000 * 0) (Q + 0) tw db k st sz ov os) := R
  clear R
  have hg0 := hg.lt
  have ph := P.h
  go_enter Tryz.func38, Tryz.ntmps38
  go_wp2_with fail
  go_loopw [5] (fun i wr => ∃ t : Nat, t ≤ nf ∧ t ≤ 20 ∧ i = .int .i64 t ∧ AgI w0 wr (M + 5000 * t) (Q + t) tw db k st sz ov os) (fun i _ => 20 - (intOf i).toNat)
  case atStart => exact ⟨0, Nat.zero_le _, Nat.zero_le _, rfl, HI.out⟩
  case round =>
    clear HI
    obtain ⟨t, ht1, ht2, rfl, A⟩ := hrel
    have hnfi : (nf : Int) ≤ 140737488355328 := by omega
    by_cases hlt : t < nf ∧ t < 20
    · obtain ⟨hl1, hl2⟩ := hlt
      have hi1 : (t : Int) < nf := by omega
      have hi2 : (t : Int) < 20 := by omega
      obtain ⟨f, hf⟩ : ∃ f, fs[t]? = some f := ⟨_, List.getElem?_eq_getElem (by rw [hL.hlen]; exact hl1)⟩
      obtain ⟨hok, ge, pe, rfl, hc0, hc1⟩ := hL.hcells t f hf
      obtain ⟨G, ⟨S, N, seq, place, free, T, q0, p0, wv, xs, D, L, C, Tr, hxl, hse, hN, hq⟩, hG⟩ := A.ex
      have hkl := hok.k.hlen
      have hm := hok.n
      have c0 : wr.cell? ⟨tw, 0, none⟩ = some (.pointer (some ⟨db, 0, none⟩)) := by simp [World.cell?, Tr.box]
      have lge := World.block_lt_of_cell? w0 _ hc0
      have y0 : wr.cell? ⟨ge, pe + t * 2, none⟩ = some (.int .i64 f.arm) := (A.b.cell (p := ⟨ge, pe + t * 2, none⟩) lge).trans hc0
      have y1 : wr.cell? ⟨ge, pe + t * 2 + 1, none⟩ = some (.slice f.ka f.kn f.kc) := (A.b.cell (p := ⟨ge, pe + t * 2 + 1, none⟩) lge).trans hc1
      have mA := arm_any (D.below (w' := wr.drew) ⟨rfl, rfl, rfl, Nat.le_refl _, fun _ _ => rfl⟩) f.arm hok.a
      have dr : Turns G wr wr.drew := Turns.drewN G wr 1
      have ltr := heap_lt Tr.box
      have sA := A.b.size
      have lge2 : ge < wr.heap.size := Nat.lt_of_lt_of_le lge sA
      have gge : ¬ G ge := fun r => by have h9 := hG _ r; have h8 : ge < w0.heap.size := lge; omega
      have hcs : ∀ w' : World, w'.heap[tw]? = wr.heap[tw]? → w'.heap[ge]? = wr.heap[ge]? → w'.cell? ⟨tw, 0, none⟩ = some (.pointer (some ⟨db, 0, none⟩)) ∧ w'.cell? ⟨ge, pe + t * 2, none⟩ = some (.int .i64 f.arm) := fun w' e1 e2 => by
        refine ⟨by simp [World.cell?, e1, Tr.box], ?_⟩
        have := y0
        simp only [World.cell?, e2] at this ⊢
        exact this
      have k0 := hcs wr.drew rfl rfl
      go_wp2_with fail
      go_region_held3 (fun w' => w'.cell? ⟨tw, 0, none⟩ = some (.pointer (some ⟨db, 0, none⟩)) ∧ w'.cell? ⟨ge, pe + t * 2, none⟩ = some (.int .i64 f.arm))
        (first | exact k0 | exact k1)
        (first
          | (go_at_call 19; refine mA.mono ?_; rintro e w4 ⟨rfl, q4⟩; have k1 := hcs w4 (q4.2.block tw ltr Tr.gt) (q4.2.block ge lge2 gge)))
      have ha := armed_off C.on f.arm
      obtain ⟨S4, hS4⟩ : ∃ S4, armed S f.arm = S4 := ⟨_, rfl⟩
      rw [hS4] at q4 ha
      have t4 : Turns G wr w4 := dr.trans q4.2 (fun _ _ r => r)
      have L4 : Lg S4 k st sz seq place free T q0 p0 := L.like ha.2.1 (ha.2.2.1.trans L.calm) (ha.2.2.2 hok.a L.good.fuse)
      have hse4 : ∀ (i o : Nat) (x : It), os[i]? = some o → xs[i]? = some x → x.bs = seeT S4 T o := fun i o x ho hx => by rw [hse i o x ho hx, seeT_armed ha.2.1 ha.2.2.1]
      have T4 := Tr.kp (Kp.same t4)
      have B4 := A.b.trans (t4.below hG A.b.size)
      have g4 : ErT w4 := hg.below B4 hg0
      have hz : ¬ G 0 := fun r => by have := hG _ r; omega
      have hEF : ∀ w', Turns G w4 w' → Errs w' er := fun w' t => hE.below (B4.trans (t.below hG B4.size)) (Nat.le_refl _)
      have hKt : ∀ W, Below w0.heap.size w0 W → KLies W f.ka f.kn f.kc f.ks := fun W b => hok.k.late b
      have hy1 : ∀ W, Below w0.heap.size w0 W → W.cell? ⟨ge, pe + t * 2 + 1, none⟩ = some (.slice f.ka f.kn f.kc) := fun W b => (b.cell (p := ⟨ge, pe + t * 2 + 1, none⟩) lge).trans hc1
      have HO : Hid (∀ e w5, OpAR w4 w5 G tw db S4 k N st sz seq place ov wv os xs T e → (∃ jb, e = .returned (.tuple #[.pointer (some ⟨jb, 0, none⟩), .int .i64 T.length, .int .i64 0]) ∧ AgC w0 w5 (M + 5000 * t + 5000) (Q + t + 1) tw db k st sz ov os f.ks) ∨ (e = .returned (.tuple #[.pointer none, .int .i64 0, .int .i64 3]) ∧ AgC w0 w5 (M + 5000 * t + 5000) (Q + t + 1) tw db k st sz ov os f.ks)) := by
        rintro e w5 (⟨jb, bm, rfl, lj, lb, ⟨S5, N5, G5, J5, L5, o5, _, _, hN5, hrd5, hG5, T5⟩, t5⟩ | ⟨rfl, hne, ⟨R, N5, G5, D5, hG5, hN5, hcr, T5⟩, t5⟩)
        · refine Or.inl ⟨jb, rfl, ⟨G5, S5, N5, wv, xs, seeT S4 T, J5.D, T5, hxl, hse4, by omega, CrN.calm L5 (by omega) _ (fun b h1 h2 => hrd5 b h1 h2), fun i hi => (hG5 i hi).elim (hG i) (fun r => by have := B4.size; omega)⟩, B4.trans (t5.below hG B4.size)⟩
        · exact Or.inr ⟨rfl, ⟨G5, R, N5, wv, xs, seeT S4 T, D5, T5, hxl, hse4, by omega, (hcr f.ks (seeT S4 T)).same (by omega), fun i hi => (hG5 i hi).elim (hG i) (fun r => by have := B4.size; omega)⟩, B4.trans (t5.below hG B4.size)⟩
      have mO := openA T4 q4.1 L4 ha.1 g4 hz (by omega) (by omega) hEF
      clear k0 k1 hcs mA dr y0 y1 c0 Tr hse hse4 D L C hok A q4 T4 L4
      go_wp2_with fail
      refine mO.mono ?_
      rintro e w5 hR
      rcases HO.out e w5 hR with ⟨jb, rfl, AC⟩ | ⟨rfl, AC⟩
      all_goals
        clear HO mO hR
        obtain ⟨⟨G5, R5, N5, wv5, xs5, old, D5, T5, hxl5, hse5, hN5, hcr, hG5⟩, B5⟩ := AC
        have mC := crashR (M := M + 5000 * t + 5000) (Q := Q + t + 1) (D5.below (w' := w5.drew) ⟨rfl, rfl, rfl, Nat.le_refl _, fun _ _ => rfl⟩) (T5.kp (Kp.below (w' := w5.drew) ⟨rfl, rfl, rfl, Nat.le_refl _, fun _ _ => rfl⟩)) hxl5 P.os hse5 (fun W t' => hKt W ((B5.trans (show Below w0.heap.size w5 w5.drew from ⟨rfl, rfl, rfl, Nat.le_refl _, fun _ _ => rfl⟩)).trans (t'.below hG5 B5.size))) hkl hm hN5 (by omega) hcr
        have l5 := heap_lt T5.box
        have g5 : ge < w5.heap.size := Nat.lt_of_lt_of_le lge B5.size
        have n5 : ¬ G5 ge := fun r => by have h9 := hG5 _ r; have h8 : ge < w0.heap.size := lge; omega
        have hcs : ∀ w' : World, w'.heap[tw]? = w5.heap[tw]? → w'.heap[ge]? = w5.heap[ge]? → w'.cell? ⟨tw, 0, none⟩ = some (.pointer (some ⟨db, 0, none⟩)) ∧ w'.cell? ⟨ge, pe + t * 2 + 1, none⟩ = some (.slice f.ka f.kn f.kc) := fun w' e1 e2 => by
          refine ⟨by simp [World.cell?, e1, T5.box], ?_⟩
          have := hy1 w5 B5
          simp only [World.cell?, e2] at this ⊢
          exact this
        have k0 := hcs w5.drew rfl rfl
        go_wp2_with fail
        go_region_held3 (fun w' => w'.cell? ⟨tw, 0, none⟩ = some (.pointer (some ⟨db, 0, none⟩)) ∧ w'.cell? ⟨ge, pe + t * 2 + 1, none⟩ = some (.slice f.ka f.kn f.kc))
          (first | exact k0 | exact k1)
          (first
            | (go_at_call 21; refine mC.mono ?_; rintro e w6 ⟨rfl, hR6, t6⟩; have k1 := hcs w6 (t6.block tw l5 T5.gt) (t6.block ge g5 n5)))
        obtain ⟨G6, R6, hG6⟩ := hR6
        have s5 := B5.size
        have HX : Hid (AgI w0 w6 (M + 5000 * (t + 1)) (Q + (t + 1)) tw db k st sz ov os) := ⟨⟨G6, R6, fun i hi => (hG6 i hi).elim (hG5 i) (fun r => by have h9 : w5.heap.size ≤ i := r; omega)⟩, (B5.trans (show Below w0.heap.size w5 w5.drew from ⟨rfl, rfl, rfl, Nat.le_refl _, fun _ _ => rfl⟩)).trans (t6.below hG5 B5.size)⟩
        clear k0 k1 hcs mC D5 T5 hse5 hcr R6 t6
        go_wp2_with fail
        go_roundw
        case rel => exact ⟨t + 1, by omega, by omega, by go_num, HX.out⟩
        case measure => simp [intOf]; omega
    · have hend : ¬ (t : Int) < nf ∨ ((t : Int) < nf ∧ ¬ (t : Int) < 20) := by omega
      obtain ⟨G, ⟨S, N, seq, place, free, T, q0, p0, wv, xs, D, L, C, Tr, hxl, hse, hN, hq⟩, hG⟩ := A.ex
      have c0 : wr.cell? ⟨tw, 0, none⟩ = some (.pointer (some ⟨db, 0, none⟩)) := by simp [World.cell?, Tr.box]
      have HX : Hid (∀ w', Same0 wr w' db (armed S 0) k N G → AgI w0 w' (M + 200000) (Q + 100) tw db k st sz ov os) := fun w' q => by
        have ha := armed_off C.on 0
        refine ⟨⟨G, ⟨armed S 0, N, seq, place, free, T, q0, p0, wv, xs, q.1, L.like ha.2.1 (ha.2.2.1.trans L.calm) (ha.2.2.2 (by omega) L.good.fuse), ⟨ha.1, ?_⟩, Tr.kp (Kp.same q.2), hxl, fun i o x ho hx => by rw [hse i o x ho hx, seeT_armed ha.2.1 ha.2.2.1], by omega, by omega⟩, hG⟩, A.b.trans (q.2.below hG A.b.size)⟩
        unfold armed
        rw [if_neg (by omega), if_neg (by simp [C.on])]
        rfl
      have mA := arm_any D 0 (by omega)
      clear D L C Tr hse
      rcases hend with hd | ⟨hd1, hd2⟩
      · go_wp2_with fail
        refine mA.mono ?_
        rintro e w4 ⟨rfl, q4⟩
        go_wp2_with fail
        go_ret
        exact ⟨rfl, HX.out w4 q4⟩
      · go_wp2_with fail
        refine mA.mono ?_
        rintro e w4 ⟨rfl, q4⟩
        go_wp2_with fail
        go_ret
        exact ⟨rfl, HX.out w4 q4⟩
end Go.Proofs.YtnmdnglbpkpfdaaGreatDoor

/- Falls, lists of them and lists of runs that came in, opened once. -/
namespace Go.Proofs.YtnmdnglbpkpfdaaGreatDoor
open Go.ChangeShapes Go.WideShapes Go.ChangeAt Go.RowKit Go.Deep
set_option maxRecDepth 100000
theorem bytesFall : 1 ≤ Tryz.prog.bytesOf 76 := of_decide_eq_true (by kernel_rfl)
theorem bytesFs : 1 ≤ Tryz.prog.bytesOf 79 := of_decide_eq_true (by kernel_rfl)
theorem cellsFs : Tryz.prog.cellsOf 79 = 1 := by kernel_rfl
theorem bytesTs : 1 ≤ Tryz.prog.bytesOf 22 := of_decide_eq_true (by kernel_rfl)
theorem cellsTs : Tryz.prog.cellsOf 22 = 1 := by kernel_rfl
theorem view_falls {H : Type} {enc : TypeId × Value → H} {W : World} {fuel : Nat} {cs : List Value} {y : DataW H × List MemPlace}
    (hf : DataW.trod enc Tryz.prog W 0 (fun _ => true) true fuel 79 cs = some y) (hall : ∀ n ∈ y.1.weights Tryz.prog 79, n ≤ reachBytes) :
    ∃ a0 len cap ps, cs = [.slice a0 len cap] ∧ len ≤ 140737488355328 ∧ FLies W a0 len ps := by
  rcases open_slice Tryz.underlying79 hf with ⟨hcs, hx⟩ | ⟨a, len, cap, m, n, D, Pl, hcs, _, hl, hm, hmm, hx, hel⟩
  · exact ⟨none, 0, 0, [], by rw [hcs], by omega, rfl, fun j s h => by simp at h⟩
  · simp only [if_true] at hmm
    subst hmm
    rw [cellsFall] at hel
    have hw : ∀ i, i < len → ∀ k ∈ (D i).weights Tryz.prog 76, k ≤ reachBytes := fun i hi k hk => hall k (by
      rw [hx]
      simp only [DataW.weights, Tryz.underlying79]
      refine List.mem_cons_of_mem _ (List.mem_append_left _ ?_)
      exact weights_all_mem (List.mem_map.2 ⟨i, List.mem_range.2 hi, rfl⟩) hk)
    have hinh : Inhabited FlIn := ⟨⟨0, none, 0, 0, []⟩⟩
    obtain ⟨X, hX⟩ := choose_lt (α := FlIn) (p := fun i x => (W.cell? ((a.add (i * 2)).add 0) = some (.int .i64 x.arm) ∧ W.cell? ((a.add (i * 2)).add 1) = some (.slice x.ka x.kn x.kc)) ∧ FlOk W x) (n := len) (fun i hi => by
      obtain ⟨cs', h1, h2⟩ := hel i (by omega)
      obtain ⟨arm, a0, l0, c0, ks, rfl, hwf, hl0, hk⟩ := view_fall h2 (hw i hi)
      obtain ⟨_, hlen, hcell⟩ := World.cells?_some h1
      exact ⟨⟨arm, a0, l0, c0, ks⟩, ⟨hcell 0 (by omega), hcell 1 (by omega)⟩, hk, hl0, (bounds_i64 hwf).2⟩)
    refine ⟨some a, len, m, (List.range len).map X, by rw [hcs], ?_, ⟨by simp, fun j s hj => ?_⟩⟩
    · have h1 := hall ((((List.range len).map D).length + ((List.range (m - len)).map fun j => D (len + j)).length) * Tryz.prog.bytesOf 76) (by rw [hx]; simp [DataW.weights, Tryz.underlying79])
      have h2 : len * 1 ≤ (((List.range len).map D).length + ((List.range (m - len)).map fun j => D (len + j)).length) * Tryz.prog.bytesOf 76 := Nat.mul_le_mul (by simp) bytesFall
      exact Nat.le_trans (by omega) (Nat.le_trans h1 (by decide))
    · have hjl : j < len := by
        have := (List.getElem?_eq_some_iff.1 hj).1
        simpa using this
      obtain ⟨h0, hI⟩ := hX j hjl
      simp [hjl] at hj
      subst hj
      have q00 := (hX 0 (by omega)).1.1
      obtain ⟨b', o, spot⟩ := a
      have hspot : spot = none := by simpa [Addr.add] using World.cell?_spot q00
      subst hspot
      refine ⟨hI, b', o, rfl, ?_, ?_⟩
      · have := h0.1
        rw [Addr.add_lit, Addr.add_lit] at this
        exact this
      · have := h0.2
        rw [Addr.add_lit, Addr.add_lit] at this
        exact this
theorem view_opens {H : Type} {enc : TypeId × Value → H} {W : World} {fuel : Nat} {cs : List Value} {y : DataW H × List MemPlace}
    (hf : DataW.trod enc Tryz.prog W 0 (fun _ => true) true fuel 80 cs = some y) (hall : ∀ n ∈ y.1.weights Tryz.prog 80, n ≤ reachBytes) :
    ∃ a0 len cap ts, cs = [.slice a0 len cap] ∧ len ≤ 140737488355328 ∧ OLies W a0 len ts := by
  rcases open_slice Tryz.underlying80 hf with ⟨hcs, hx⟩ | ⟨a, len, cap, m, n, D, Pl, hcs, _, hl, hm, hmm, hx, hel⟩
  · exact ⟨none, 0, 0, [], by rw [hcs], by omega, rfl, fun j s h => by simp at h⟩
  · simp only [if_true] at hmm
    subst hmm
    rw [cellsFs] at hel
    have hw : ∀ i, i < len → ∀ k ∈ (D i).weights Tryz.prog 79, k ≤ reachBytes := fun i hi k hk => hall k (by
      rw [hx]
      simp only [DataW.weights, Tryz.underlying80]
      refine List.mem_cons_of_mem _ (List.mem_append_left _ ?_)
      exact weights_all_mem (List.mem_map.2 ⟨i, List.mem_range.2 hi, rfl⟩) hk)
    have hinh : Inhabited OpIn := ⟨⟨none, 0, 0, []⟩⟩
    obtain ⟨X, hX⟩ := choose_lt (α := OpIn) (p := fun i x => W.cell? ((a.add (i * 1)).add 0) = some (.slice x.fa x.fn x.fc) ∧ FLies W x.fa x.fn x.fs ∧ x.fn ≤ 140737488355328) (n := len) (fun i hi => by
      obtain ⟨cs', h1, h2⟩ := hel i (by omega)
      obtain ⟨a0, l0, c0, ps, rfl, hl0, hP⟩ := view_falls h2 (hw i hi)
      obtain ⟨_, hlen, hcell⟩ := World.cells?_some h1
      refine ⟨⟨a0, l0, c0, ps⟩, ?_, hP, hl0⟩
      exact hcell 0 (by omega))
    refine ⟨some a, len, m, (List.range len).map X, by rw [hcs], ?_, ⟨by simp, fun j s hj => ?_⟩⟩
    · have h1 := hall ((((List.range len).map D).length + ((List.range (m - len)).map fun j => D (len + j)).length) * Tryz.prog.bytesOf 79) (by rw [hx]; simp [DataW.weights, Tryz.underlying80])
      have h2 : len * 1 ≤ (((List.range len).map D).length + ((List.range (m - len)).map fun j => D (len + j)).length) * Tryz.prog.bytesOf 79 := Nat.mul_le_mul (by simp) bytesFs
      exact Nat.le_trans (by omega) (Nat.le_trans h1 (by decide))
    · have hjl : j < len := by
        have := (List.getElem?_eq_some_iff.1 hj).1
        simpa using this
      obtain ⟨h0, hP, hp⟩ := hX j hjl
      simp [hjl] at hj
      subst hj
      obtain ⟨b', o, spot⟩ := a
      have hspot : spot = none := by simpa [Addr.add] using World.cell?_spot (hX 0 (by omega)).1
      subst hspot
      refine ⟨⟨hP, hp⟩, b', o, rfl, ?_⟩
      rw [Addr.add_lit, Addr.add_lit] at h0
      simpa using h0
theorem view_runs {H : Type} {enc : TypeId × Value → H} {W : World} {fuel : Nat} {cs : List Value} {y : DataW H × List MemPlace}
    (hf : DataW.trod enc Tryz.prog W 0 (fun _ => true) true fuel 78 cs = some y) (hall : ∀ n ∈ y.1.weights Tryz.prog 78, n ≤ reachBytes) :
    ∃ a0 len cap ts, cs = [.slice a0 len cap] ∧ len ≤ 140737488355328 ∧ RLies W a0 len ts := by
  rcases open_slice Tryz.underlying78 hf with ⟨hcs, hx⟩ | ⟨a, len, cap, m, n, D, Pl, hcs, _, hl, hm, hmm, hx, hel⟩
  · exact ⟨none, 0, 0, [], by rw [hcs], by omega, rfl, fun j s h => by simp at h⟩
  · simp only [if_true] at hmm
    subst hmm
    rw [cellsTs] at hel
    have hw : ∀ i, i < len → ∀ k ∈ (D i).weights Tryz.prog 22, k ≤ reachBytes := fun i hi k hk => hall k (by
      rw [hx]
      simp only [DataW.weights, Tryz.underlying78]
      refine List.mem_cons_of_mem _ (List.mem_append_left _ ?_)
      exact weights_all_mem (List.mem_map.2 ⟨i, List.mem_range.2 hi, rfl⟩) hk)
    have hinh : Inhabited RnIn := ⟨⟨none, 0, 0, []⟩⟩
    obtain ⟨X, hX⟩ := choose_lt (α := RnIn) (p := fun i x => W.cell? ((a.add (i * 1)).add 0) = some (.slice x.ta x.tn x.tc) ∧ TxsLies W x.ta x.tn x.ts ∧ x.tn ≤ 140737488355328) (n := len) (fun i hi => by
      obtain ⟨cs', h1, h2⟩ := hel i (by omega)
      obtain ⟨a0, l0, c0, ps, rfl, hl0, hP⟩ := view_txs h2 (hw i hi)
      obtain ⟨_, hlen, hcell⟩ := World.cells?_some h1
      refine ⟨⟨a0, l0, c0, ps⟩, ?_, hP, hl0⟩
      exact hcell 0 (by omega))
    refine ⟨some a, len, m, (List.range len).map X, by rw [hcs], ?_, ⟨by simp, fun j s hj => ?_⟩⟩
    · have h1 := hall ((((List.range len).map D).length + ((List.range (m - len)).map fun j => D (len + j)).length) * Tryz.prog.bytesOf 22) (by rw [hx]; simp [DataW.weights, Tryz.underlying78])
      have h2 : len * 1 ≤ (((List.range len).map D).length + ((List.range (m - len)).map fun j => D (len + j)).length) * Tryz.prog.bytesOf 22 := Nat.mul_le_mul (by simp) bytesTs
      exact Nat.le_trans (by omega) (Nat.le_trans h1 (by decide))
    · have hjl : j < len := by
        have := (List.getElem?_eq_some_iff.1 hj).1
        simpa using this
      obtain ⟨h0, hP, hp⟩ := hX j hjl
      simp [hjl] at hj
      subst hj
      obtain ⟨b', o, spot⟩ := a
      have hspot : spot = none := by simpa [Addr.add] using World.cell?_spot (hX 0 (by omega)).1
      subst hspot
      refine ⟨⟨hP, hp⟩, b', o, rfl, ?_⟩
      rw [Addr.add_lit, Addr.add_lit] at h0
      simpa using h0
section
variable {H : Type} {enc : TypeId × Value → H} {P : Program} {w : World} {base : Nat} {spare : Nat → Bool} {held : Bool}
theorem trodAll_six {t t' t'' t3 t4 t5 : TypeId} {args : Array Value} {ds : List (DataW H)} {ps : List MemPlace} (h : DataW.TrodAll enc P w base spare held [t, t', t'', t3, t4, t5] args.toList ds ps) :
    ∃ v v' v'' v3 v4 v5 d d' d'' d3 d4 d5 p p' p'' p3 p4 p5, args = #[v, v', v'', v3, v4, v5] ∧ ds = [d, d', d'', d3, d4, d5] ∧ ps = p ++ p' ++ p'' ++ p3 ++ p4 ++ p5 ∧ DataW.Trod enc P w base spare held t v d p ∧ DataW.Trod enc P w base spare held t' v' d' p' ∧ DataW.Trod enc P w base spare held t'' v'' d'' p'' ∧ DataW.Trod enc P w base spare held t3 v3 d3 p3 ∧ DataW.Trod enc P w base spare held t4 v4 d4 p4 ∧ DataW.Trod enc P w base spare held t5 v5 d5 p5 := by
  obtain ⟨a, vs, b, bs, p, q, hargs, rfl, rfl, hb, hr⟩ := trodAll_cons h
  have hr' : DataW.TrodAll enc P w base spare held [t', t'', t3, t4, t5] vs.toArray.toList bs q := by simpa using hr
  obtain ⟨v0, v1, v2, v3, v4, d0, d1, d2, d3, d4, p0, p1, p2, p3, p4, has, rfl, rfl, h0, h1, h2, h3, h4⟩ := trodAll_five hr'
  have has' : vs = [v0, v1, v2, v3, v4] := by simpa using has
  subst has'
  exact ⟨a, v0, v1, v2, v3, v4, b, d0, d1, d2, d3, d4, p, p0, p1, p2, p3, p4, by cases args; simp_all, rfl, by simp, hb, h0, h1, h2, h3, h4⟩
theorem trodAll_mk6 {t t' t'' t3 t4 t5 : TypeId} {v v' v'' v3 v4 v5 : Value} {d d' d'' d3 d4 d5 : DataW H} {p p' p'' p3 p4 p5 : List MemPlace} (h : DataW.Trod enc P w base spare held t v d p) (h' : DataW.Trod enc P w base spare held t' v' d' p')
    (h'' : DataW.Trod enc P w base spare held t'' v'' d'' p'') (h3 : DataW.Trod enc P w base spare held t3 v3 d3 p3) (h4 : DataW.Trod enc P w base spare held t4 v4 d4 p4) (h5 : DataW.Trod enc P w base spare held t5 v5 d5 p5) :
    DataW.TrodAll enc P w base spare held [t, t', t'', t3, t4, t5] [v, v', v'', v3, v4, v5] [d, d', d'', d3, d4, d5] (p ++ (p' ++ (p'' ++ (p3 ++ (p4 ++ p5))))) := ⟨p, _, h, trodAll_mk5 h' h'' h3 h4 h5, rfl⟩
end
end Go.Proofs.YtnmdnglbpkpfdaaGreatDoor

/- JournalWhole. -/
namespace Go.Proofs.YtnmdnglbpkpfdaaGreatDoor
open Go.RowKit Go.Maps
set_option maxRecDepth 100000
theorem AgI.alloc {w0 w : World} {M Q tw db k st sz : Nat} {ov : Value} {os : List Nat} (h : AgI w0 w M Q tw db k st sz ov os) (o : Obj) : AgI w0 (w.alloc o) M Q tw db k st sz ov os := by
  obtain ⟨G, R, hG⟩ := h.ex
  have b : Below w.heap.size w (w.alloc o) := (Below.refl _ w).alloc (Nat.le_refl _) _
  exact ⟨⟨G, R.below b, hG⟩, h.b.trans (b.mono h.b.size)⟩
theorem AgI.mono {w0 w : World} {M Q M' Q' tw db k st sz : Nat} {ov : Value} {os : List Nat} (h : AgI w0 w M Q tw db k st sz ov os) (hM : M ≤ M') (hQ : Q ≤ Q') : AgI w0 w M' Q' tw db k st sz ov os := by
  obtain ⟨G, R, hG⟩ := h.ex
  obtain ⟨S, N, seq, place, free, T, q0, p0, wv, xs, D, L, C, Tr, hxl, hse, hN, hq⟩ := R.ex
  exact ⟨⟨G, ⟨S, N, seq, place, free, T, q0, p0, wv, xs, D, L, C, Tr, hxl, hse, by omega, by omega⟩, hG⟩, h.b⟩
/-- run from a town at rest, its arguments of the statement's own. -/
theorem runR (er : Nat → Addr) {w0 ws : World} (hE : Errs w0 er) (hg : ErT w0) {G : Nat → Prop} {M Q tw db k st sz n : Nat} {ov : Value} {os : List Nat} (R : RsI ws G M Q tw db k st sz ov os) (hG : ∀ i, G i → w0.heap.size ≤ i) (hB : Below w0.heap.size w0 ws) (ltw : w0.heap.size ≤ tw) (P : Shp7 k st sz n os) (hM : M ≤ 400000000) (hQ : Q ≤ 400000000) (x : RnIn) (hx : TxsLies w0 x.ta x.tn x.ts) (hn : x.tn ≤ 140737488355328) (f : FlIn) (hf : FlOk w0 f) :
    Calls Tryz.prog 37 #[.pointer (some ⟨tw, 0, none⟩), .slice x.ta x.tn x.tc, .agg #[.int .i64 f.arm, .slice f.ka f.kn f.kc]] ws fun e w' => e = .returned (.bool true) ∧ AgI w0 w' (M + 1000000) (Q + 100) tw db k st sz ov os ∧ Turns (fun i => G i ∨ i = tw) ws w' := by
  have tB : ∀ W', Turns (fun i => G i ∨ i = tw) ws W' → Below w0.heap.size w0 W' := fun W' t => hB.trans (t.below (fun i r => r.elim (hG i) (fun e => by omega)) hB.size)
  refine (run_any er hE hg hB R hG ltw P.ol P.n1 P.nd P.os hM hQ x.ta x.tn x.tc x.ts hn hx.hlen hx.parts (fun W' t => hx.row (tB W' t)) f.arm hf.a f.ka f.kn f.kc f.ks hf.n hf.k.hlen (fun W' t => hf.k.late (tB W' t))).mono ?_
  rintro e w' ⟨rfl, R'⟩
  obtain ⟨G', Q', hG'⟩ := R'.ex
  have := hB.size
  exact ⟨rfl, ⟨⟨G', Q', fun i hi => (hG' i hi).elim (hG i) (fun r => by omega)⟩, tB w' R'.tr⟩, R'.tr⟩
set_option maxHeartbeats 8000000 in
theorem whole_any (er : Nat → Addr) (w : World) (hE : Errs w er) (hg : ErT w) (n0 st0 sz0 : Int) (ro : Option Addr) (nr rc : Nat) (rs : List RnIn) (hnr : nr ≤ 140737488355328) (hRs : RLies w ro nr rs) (fo : Option Addr) (nf fc : Nat) (fs : List FlIn) (hnf : nf ≤ 140737488355328) (hFs : FLies w fo nf fs) (oo : Option Addr) (no oc : Nat) (ops : List OpIn) (hno : no ≤ 140737488355328) (hOs : OLies w oo no ops) :
    Calls Tryz.prog 6 #[.int .i64 n0, .int .i64 st0, .int .i64 sz0, .slice ro nr rc, .slice fo nf fc, .slice oo no oc] w fun e w' => e = .returned (.bool true) ∧ Below w.heap.size w w' := by
  have hg0 := hg.lt
  go_enter Tryz.func6, Tryz.ntmps6
  go_wp2_with fail
  refine (head7 er w hE).mono ?_
  rintro e w1 ⟨rfl, B1⟩
  have s1 := B1.size
  go_wp2_with fail
  refine (townR w1 n0 st0 sz0).mono ?_
  rintro e w2 ⟨⟨k, st, sz, tw, db, n, F, ov, os, rfl, P, R2, hF, ltw1⟩, b2⟩
  have ltw : w.heap.size ≤ tw := by omega
  have HI : Hid (AgI w w2 (1000 + 3000000 * 0) (1 + 1000 * 0) tw db k st sz ov os) := ⟨⟨F, R2, fun i r => by have := hF i r; omega⟩, B1.trans (b2.mono s1)⟩
  clear R2 hF b2 ltw1
  go_wp2_with fail
  go_loopw [13, 16] (fun u i wr => ∃ t : Nat, t ≤ nr ∧ t ≤ 6 ∧ i = .int .i64 t ∧ u = .bool true ∧ AgI w wr (1000 + 3000000 * t) (1 + 1000 * t) tw db k st sz ov os) (fun _ i _ => 6 - (intOf i).toNat)
  case atStart => exact ⟨0, Nat.zero_le _, Nat.zero_le _, rfl, rfl, HI.out⟩
  case round =>
    clear HI
    obtain ⟨t, ht1, ht2, rfl, rfl, A⟩ := hrel
    have hnri : (nr : Int) ≤ 140737488355328 := by omega
    have hnfi : (nf : Int) ≤ 140737488355328 := by omega
    have hnoi : (no : Int) ≤ 140737488355328 := by omega
    by_cases hlt : t < nr ∧ t < 6
    · obtain ⟨hl1, hl2⟩ := hlt
      have hi1 : (t : Int) < nr := by omega
      have hi2 : (t : Int) < 6 := by omega
      obtain ⟨x, hx⟩ : ∃ x, rs[t]? = some x := ⟨_, List.getElem?_eq_getElem (by rw [hRs.hlen]; exact hl1)⟩
      obtain ⟨⟨hTx, hnx⟩, gr, pr, rfl, hcr⟩ := hRs.hcells t x hx
      have HCr : Hid (∀ W, Below w.heap.size w W → W.cell? ⟨gr, pr + t, none⟩ = some (.slice x.ta x.tn x.tc)) := fun W b => cell_later b hcr
      have hr1 : wr.cell? ⟨gr, pr + t, none⟩ = some (.slice x.ta x.tn x.tc) := HCr.out wr A.b
      have lgr : gr < wr.heap.size := World.block_lt_of_cell? wr _ hr1
      clear hx hcr
      by_cases hff : t < nf
      · have hf1 : (t : Int) < nf := by omega
        obtain ⟨f, hfx⟩ : ∃ f, fs[t]? = some f := ⟨_, List.getElem?_eq_getElem (by rw [hFs.hlen]; exact hff)⟩
        obtain ⟨hf, gf, pf, rfl, hcf0, hcf1⟩ := hFs.hcells t f hfx
        have hf3 : wr.cell? ⟨gf, pf + t * 2, none⟩ = some (.int .i64 f.arm) := cell_later A.b hcf0
        have hf4 : wr.cell? ⟨gf, pf + t * 2 + 1, none⟩ = some (.slice f.ka f.kn f.kc) := cell_later A.b hcf1
        have lgf : gf < wr.heap.size := World.block_lt_of_cell? wr _ hf3
        clear hfx hcf0 hcf1
        go_wp2_with fail
        clear hf3 hf4
        obtain ⟨G, RR, hG⟩ := A.ex
        have lt := RR.lt
        obtain ⟨W, hW⟩ : ∃ W, wr.alloc (.cells #[.int .i64 f.arm, .slice f.ka f.kn f.kc] 76) = W := ⟨_, rfl⟩
        have bW : Below wr.heap.size wr W.drew := by rw [← hW]; exact ((Below.refl _ wr).alloc (Nat.le_refl _) _).trans ⟨rfl, rfl, rfl, Nat.le_refl _, fun _ _ => rfl⟩
        have hbx : W.heap[wr.heap.size]? = some (.cells #[.int .i64 f.arm, .slice f.ka f.kn f.kc] 76) := by rw [← hW]; exact (MapKept.heap_alloc wr _).1
        have mR := runR er hE hg (RR.below bW) hG (A.b.trans (bW.mono A.b.size)) ltw P (by omega) (by omega) x hTx hnx f hf
        have lbx := heap_lt hbx
        have lW : gr < W.heap.size := Nat.lt_of_lt_of_le lgr (by omega)
        have hrW : W.cell? ⟨gr, pr + t, none⟩ = some (.slice x.ta x.tn x.tc) := HCr.out W (A.b.trans (show Below w.heap.size wr W by rw [← hW]; exact (Below.refl _ wr).alloc A.b.size _))
        have hcs : ∀ w' : World, w'.cell? ⟨gr, pr + t, none⟩ = some (.slice x.ta x.tn x.tc) → w'.heap[wr.heap.size]? = W.heap[wr.heap.size]? → w'.cell? ⟨gr, pr + t, none⟩ = some (.slice x.ta x.tn x.tc) ∧ w'.cell? ⟨wr.heap.size, 0, none⟩ = some (.int .i64 f.arm) ∧ w'.cell? ⟨wr.heap.size, 1, none⟩ = some (.slice f.ka f.kn f.kc) := fun w' e1 e2 => by
          rw [hbx] at e2
          exact ⟨e1, by simp [World.cell?, e2], by simp [World.cell?, e2]⟩
        have k0 := hcs W.drew hrW rfl
        try rw [hW]
        clear hr1 hW bW RR
        go_region_held3 (fun w' => w'.cell? ⟨gr, pr + t, none⟩ = some (.slice x.ta x.tn x.tc) ∧ w'.cell? ⟨wr.heap.size, 0, none⟩ = some (.int .i64 f.arm) ∧ w'.cell? ⟨wr.heap.size, 1, none⟩ = some (.slice f.ka f.kn f.kc))
          (first | exact k0 | exact k1)
          (first
            | (go_at_call 37; refine mR.mono ?_; rintro e w3 ⟨rfl, A3, t3⟩; have k1 := hcs w3 (HCr.out w3 A3.b) (t3.block _ lbx (fun r => r.elim (fun r => by { have := lt.2 _ r; omega }) (fun r => by { have := lt.1; omega })))))
        clear mR A k0 k1 hcs hbx hrW t3
        by_cases hoo : t < no
        · as_aux_lemma =>
            have ho1 : (t : Int) < no := by omega
            obtain ⟨y, hy⟩ : ∃ y, ops[t]? = some y := ⟨_, List.getElem?_eq_getElem (by rw [hOs.hlen]; exact hoo)⟩
            obtain ⟨⟨hFy, hny⟩, go, po, rfl, hco⟩ := hOs.hcells t y hy
            have ho3 : w3.cell? ⟨go, po + t, none⟩ = some (.slice y.fa y.fn y.fc) := cell_later A3.b hco
            go_wp2_with fail
            refine (againR er hE hg A3 ltw P (by omega) (by omega) y.fa y.fn y.fc y.fs hny hFy).mono ?_
            rintro e w4 ⟨rfl, A4⟩
            clear ho3 A3
            obtain ⟨G4, R4, hG4⟩ := A4.ex
            have B4 := A4.b
            have hEF : ∀ w', Turns G4 w4 w' → Errs w' er := fun w' t => hE.below (B4.trans (t.below hG4 B4.size)) (Nat.le_refl _)
            go_wp2_with fail
            refine (openR R4 P.os (by omega) (by omega) hEF).mono ?_
            rintro e w5 ⟨jb, tk, rfl, O5⟩
            have B5 := B4.trans (O5.tr.below hG4 B4.size)
            go_wp2_with fail
            refine (holdsR O5 P B4.size hG4).mono ?_
            rintro e w6 ⟨rfl, b6, G6, R6, hG6⟩
            have HX : Hid (AgI w w6 (1000 + 3000000 * (t + 1)) (1 + 1000 * (t + 1)) tw db k st sz ov os) := AgI.mono ⟨⟨G6, R6, hG6⟩, B5.trans b6⟩ (by omega) (by omega)
            clear O5 R6 R4 hEF
            go_wp2_with fail
            go_roundw
            case rel => exact ⟨t + 1, by omega, by omega, by go_num, rfl, HX.out⟩
            case measure => simp [intOf]; omega
        · as_aux_lemma =>
            have ho1 : ¬ (t : Int) < no := by omega
            have A4 := A3
            obtain ⟨w4, hw4⟩ : ∃ w4, w3 = w4 := ⟨_, rfl⟩
            subst hw4
            clear A3
            obtain ⟨G4, R4, hG4⟩ := A4.ex
            have B4 := A4.b
            have hEF : ∀ w', Turns G4 w3 w' → Errs w' er := fun w' t => hE.below (B4.trans (t.below hG4 B4.size)) (Nat.le_refl _)
            go_wp2_with fail
            refine (openR R4 P.os (by omega) (by omega) hEF).mono ?_
            rintro e w5 ⟨jb, tk, rfl, O5⟩
            have B5 := B4.trans (O5.tr.below hG4 B4.size)
            go_wp2_with fail
            refine (holdsR O5 P B4.size hG4).mono ?_
            rintro e w6 ⟨rfl, b6, G6, R6, hG6⟩
            have HX : Hid (AgI w w6 (1000 + 3000000 * (t + 1)) (1 + 1000 * (t + 1)) tw db k st sz ov os) := AgI.mono ⟨⟨G6, R6, hG6⟩, B5.trans b6⟩ (by omega) (by omega)
            clear O5 R6 R4 hEF
            go_wp2_with fail
            go_roundw
            case rel => exact ⟨t + 1, by omega, by omega, by go_num, rfl, HX.out⟩
            case measure => simp [intOf]; omega
      · have hf1 : ¬ (t : Int) < nf := by omega
        obtain ⟨f, hf, e0, e1, e2, e3⟩ : ∃ f : FlIn, FlOk w f ∧ f.arm = 0 ∧ f.ka = none ∧ f.kn = 0 ∧ f.kc = 0 := ⟨⟨0, none, 0, 0, []⟩, ⟨KLies.nil w, by show (0 : Nat) ≤ _; omega, by show (0 : Int) ≤ _; omega⟩, rfl, rfl, rfl, rfl⟩
        go_wp2_with fail
        obtain ⟨G, RR, hG⟩ := A.ex
        have lt := RR.lt
        obtain ⟨W, hW⟩ : ∃ W, wr.alloc (.cells #[.int .i64 0, .slice none 0 0] 76) = W := ⟨_, rfl⟩
        have bW : Below wr.heap.size wr W.drew := by rw [← hW]; exact ((Below.refl _ wr).alloc (Nat.le_refl _) _).trans ⟨rfl, rfl, rfl, Nat.le_refl _, fun _ _ => rfl⟩
        have hbx : W.heap[wr.heap.size]? = some (.cells #[.int .i64 0, .slice none 0 0] 76) := by rw [← hW]; exact (MapKept.heap_alloc wr _).1
        have mR := runR er hE hg (RR.below bW) hG (A.b.trans (bW.mono A.b.size)) ltw P (by omega) (by omega) x hTx hnx f hf
        rw [e0, e1, e2, e3] at mR
        have lbx := heap_lt hbx
        have lW : gr < W.heap.size := Nat.lt_of_lt_of_le lgr (by omega)
        have hrW : W.cell? ⟨gr, pr + t, none⟩ = some (.slice x.ta x.tn x.tc) := HCr.out W (A.b.trans (show Below w.heap.size wr W by rw [← hW]; exact (Below.refl _ wr).alloc A.b.size _))
        have hcs : ∀ w' : World, w'.cell? ⟨gr, pr + t, none⟩ = some (.slice x.ta x.tn x.tc) → w'.heap[wr.heap.size]? = W.heap[wr.heap.size]? → w'.cell? ⟨gr, pr + t, none⟩ = some (.slice x.ta x.tn x.tc) ∧ w'.cell? ⟨wr.heap.size, 0, none⟩ = some (.int .i64 0) ∧ w'.cell? ⟨wr.heap.size, 1, none⟩ = some (.slice none 0 0) := fun w' e1 e2 => by
          rw [hbx] at e2
          exact ⟨e1, by simp [World.cell?, e2], by simp [World.cell?, e2]⟩
        have k0 := hcs W.drew hrW rfl
        try rw [hW]
        clear hr1 hW bW RR
        go_region_held3 (fun w' => w'.cell? ⟨gr, pr + t, none⟩ = some (.slice x.ta x.tn x.tc) ∧ w'.cell? ⟨wr.heap.size, 0, none⟩ = some (.int .i64 0) ∧ w'.cell? ⟨wr.heap.size, 1, none⟩ = some (.slice none 0 0))
          (first | exact k0 | exact k1)
          (first
            | (go_at_call 37; refine mR.mono ?_; rintro e w3 ⟨rfl, A3, t3⟩; have k1 := hcs w3 (HCr.out w3 A3.b) (t3.block _ lbx (fun r => r.elim (fun r => by { have := lt.2 _ r; omega }) (fun r => by { have := lt.1; omega })))))
        clear mR A k0 k1 hcs hbx hrW t3
        by_cases hoo : t < no
        · as_aux_lemma =>
            have ho1 : (t : Int) < no := by omega
            obtain ⟨y, hy⟩ : ∃ y, ops[t]? = some y := ⟨_, List.getElem?_eq_getElem (by rw [hOs.hlen]; exact hoo)⟩
            obtain ⟨⟨hFy, hny⟩, go, po, rfl, hco⟩ := hOs.hcells t y hy
            have ho3 : w3.cell? ⟨go, po + t, none⟩ = some (.slice y.fa y.fn y.fc) := cell_later A3.b hco
            go_wp2_with fail
            refine (againR er hE hg A3 ltw P (by omega) (by omega) y.fa y.fn y.fc y.fs hny hFy).mono ?_
            rintro e w4 ⟨rfl, A4⟩
            clear ho3 A3
            obtain ⟨G4, R4, hG4⟩ := A4.ex
            have B4 := A4.b
            have hEF : ∀ w', Turns G4 w4 w' → Errs w' er := fun w' t => hE.below (B4.trans (t.below hG4 B4.size)) (Nat.le_refl _)
            go_wp2_with fail
            refine (openR R4 P.os (by omega) (by omega) hEF).mono ?_
            rintro e w5 ⟨jb, tk, rfl, O5⟩
            have B5 := B4.trans (O5.tr.below hG4 B4.size)
            go_wp2_with fail
            refine (holdsR O5 P B4.size hG4).mono ?_
            rintro e w6 ⟨rfl, b6, G6, R6, hG6⟩
            have HX : Hid (AgI w w6 (1000 + 3000000 * (t + 1)) (1 + 1000 * (t + 1)) tw db k st sz ov os) := AgI.mono ⟨⟨G6, R6, hG6⟩, B5.trans b6⟩ (by omega) (by omega)
            clear O5 R6 R4 hEF
            go_wp2_with fail
            go_roundw
            case rel => exact ⟨t + 1, by omega, by omega, by go_num, rfl, HX.out⟩
            case measure => simp [intOf]; omega
        · as_aux_lemma =>
            have ho1 : ¬ (t : Int) < no := by omega
            have A4 := A3
            obtain ⟨w4, hw4⟩ : ∃ w4, w3 = w4 := ⟨_, rfl⟩
            subst hw4
            clear A3
            obtain ⟨G4, R4, hG4⟩ := A4.ex
            have B4 := A4.b
            have hEF : ∀ w', Turns G4 w3 w' → Errs w' er := fun w' t => hE.below (B4.trans (t.below hG4 B4.size)) (Nat.le_refl _)
            go_wp2_with fail
            refine (openR R4 P.os (by omega) (by omega) hEF).mono ?_
            rintro e w5 ⟨jb, tk, rfl, O5⟩
            have B5 := B4.trans (O5.tr.below hG4 B4.size)
            go_wp2_with fail
            refine (holdsR O5 P B4.size hG4).mono ?_
            rintro e w6 ⟨rfl, b6, G6, R6, hG6⟩
            have HX : Hid (AgI w w6 (1000 + 3000000 * (t + 1)) (1 + 1000 * (t + 1)) tw db k st sz ov os) := AgI.mono ⟨⟨G6, R6, hG6⟩, B5.trans b6⟩ (by omega) (by omega)
            clear O5 R6 R4 hEF
            go_wp2_with fail
            go_roundw
            case rel => exact ⟨t + 1, by omega, by omega, by go_num, rfl, HX.out⟩
            case measure => simp [intOf]; omega
    · have hend : ¬ (t : Int) < nr ∨ ((t : Int) < nr ∧ ¬ (t : Int) < 6) := by omega
      obtain ⟨G4, R4, hG4⟩ := A.ex
      have B4 := A.b
      have hEF : ∀ w', Turns G4 wr w' → Errs w' er := fun w' t => hE.below (B4.trans (t.below hG4 B4.size)) (Nat.le_refl _)
      have mO := openR R4 P.os (by omega) (by omega) hEF
      rcases hend with hd | ⟨hd1, hd2⟩
      all_goals
        go_wp2_with fail
        refine mO.mono ?_
        rintro e w5 ⟨jb, tk, rfl, O5⟩
        have B5 := B4.trans (O5.tr.below hG4 B4.size)
        go_wp2_with fail
        refine (holdsR O5 P B4.size hG4).mono ?_
        rintro e w6 ⟨rfl, b6, _⟩
        go_wp2_with fail
        go_ret
        exact ⟨rfl, B5.trans b6⟩
end Go.Proofs.YtnmdnglbpkpfdaaGreatDoor
