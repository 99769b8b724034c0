/- PlanNewMemory, walked. -/
import Derived.Test.YtgpeefedboomoabDoorP15
import Derived.Test.YtgpeefedboomoabDoorNWhole
namespace Go.Proofs.YtgpeefedboomoabDoor
open Go.RowKit
set_option maxRecDepth 100000

attribute [local go_sem ↓ 100000] ly_store ly_load
attribute [local go_sem] LyStore.new LyLoad.new LyStore.at LyLoad.at
theorem Bk.now {w : World} {base bk : Nat} {B : Nat → Prop} {es : List Ent} (h : Bk w base bk B es) : Bk w base bk (fun k => B k ∧ k < w.heap.size) es := by
  obtain ⟨⟨vL, vM, hb, hL, hM, hBL, hBM⟩, hbk, hl⟩ := h
  exact ⟨⟨vL, vM, hb, hL, hM, fun k hk => ⟨hBL k hk, (own_old hL hk).2.1⟩, fun k hk => ⟨⟨(hBM k hk).1, (own_old hM hk).2.1⟩, (hBM k hk).2⟩⟩, ⟨hbk.1, hbk.2, lt_of_block hb⟩, fun e he => ⟨(hl e he).1, fun b hb => ⟨(hl e he).2 b hb, (own_old (hl e he).1 hb).2.1⟩⟩⟩
theorem Bk.new (w : World) : Bk (w.alloc (.cells #[.slice none 0 0, .slice none 0 0] 28)) w.heap.size w.heap.size (fun k => k = w.heap.size) [] := by
  refine ⟨⟨_, _, heap_alloc_last w _, ⟨rfl, Or.inl ⟨rfl, rfl⟩⟩, ⟨rfl, Or.inl ⟨rfl, rfl⟩⟩, fun k hk => (by cases hk), fun k hk => (by cases hk)⟩, ⟨Nat.le_refl _, rfl⟩, fun e he => (by cases he)⟩
theorem own_fr {K : Nat → Prop} {w w' : World} {base e n : Nat} {v : Value} {xs : List Value} (h : w.ownsRow base e 1 v n xs) (hF : Fr K w w') (hk : ∀ b, v.ownBlock = some b → ¬ K b) : w'.ownsRow base e 1 v n xs :=
  own_keep h (fun b hb => hF.block b (own_old h hb).2.1 (hk b hb))
theorem own_grow {w w' : World} {base e n : Nat} {v : Value} {xs : List Value} (h : w.ownsRow base e 1 v n xs) (hb : Below w.heap.size w w') : w'.ownsRow base e 1 v n xs :=
  own_keep h (fun b hb' => hb.block b (own_old h hb').2.1)
theorem Fr.below {K : Nat → Prop} {w w' : World} (h : Fr K w w') {b0 : Nat} (hK : ∀ k, K k → b0 ≤ k) (hsz : b0 ≤ w.heap.size) : Below b0 w w' :=
  ⟨h.os, h.tape, h.output, h.size, fun k hk => h.block k (by omega) (fun hh => by have := hK k hh; omega)⟩
/-- A row's block lies within bounds. -/
def In (v : Value) (lo hi : Nat) : Prop := ∀ b, v.ownBlock = some b → lo ≤ b ∧ b < hi
theorem own_in {w : World} {base e n : Nat} {v : Value} {xs : List Value} (h : w.ownsRow base e 1 v n xs) : In v base w.heap.size := fun _ hb => ⟨(own_old h hb).1, (own_old h hb).2.1⟩


/-- What Super hands out. -/
def supL (s : Shp) : List Int := if planE s = 0 then superB s else []
theorem superO_any (s : Shp) (w : World) (hB : Bds w) :
    Calls Tryd.prog 8 #[shV s] w fun e w' => ∃ al nl cl, e = .returned (.tuple #[.slice al nl cl, .int .i64 (planE s)]) ∧ w'.ownsRow w.heap.size 5 1 (.slice al nl cl) nl ((supL s).map (Value.int .u8)) ∧ nl ≤ 512 ∧ Below w.heap.size w w' := by
  refine (super_any s w hB).mono ?_
  rintro e w' ⟨ao, n, c, rfl, hb, hno, hok⟩
  by_cases hp : planE s = 0
  · obtain ⟨rfl, rfl, g, rfl, hg, hr⟩ := hok hp
    refine ⟨_, _, _, rfl, ?_, by omega, hb⟩
    have e : supL s = superB s := by unfold supL; rw [if_pos hp]
    rw [e]
    have hl := superB_length s
    exact ⟨by simp [hl], Or.inr ⟨g, 512, _, rfl, hg, hr, Nat.le_refl _, by unfold maxLen; omega, by simp [hl], by rw [List.take_of_length_le (by simp [hl])]⟩⟩
  · obtain ⟨rfl, rfl, rfl⟩ := hno hp
    refine ⟨_, _, _, rfl, ?_, by omega, hb⟩
    have e : supL s = [] := by unfold supL; rw [if_neg hp]
    rw [e]
    exact ⟨rfl, Or.inl ⟨rfl, rfl⟩⟩

/-- A shape within a block. -/
structure ShAt (w : World) (b p : Nat) (s : Shp) : Prop where
  c0 : w.cell? ⟨b, p, none⟩ = some (.int .i64 s.cl)
  c1 : w.cell? ⟨b, p + 1, none⟩ = some (.int .i64 s.wi)
  c2 : w.cell? ⟨b, p + 2, none⟩ = some (.int .i64 s.pl)
  c3 : w.cell? ⟨b, p + 3, none⟩ = some (.int .i64 s.ca)
  c4 : w.cell? ⟨b, p + 4, none⟩ = some (.int .i64 s.ino)
  c5 : w.cell? ⟨b, p + 5, none⟩ = some (.int .i64 s.qu)
  c6 : w.cell? ⟨b, p + 6, none⟩ = some (.int .i64 s.da)
  c7 : w.cell? ⟨b, p + 7, none⟩ = some (.int .i64 s.jo)
theorem ShAt.later {B : Nat} {w w' : World} {b p : Nat} {s : Shp} (h : ShAt w b p s) (hb : Below B w w') (hB : b < B) : ShAt w' b p s :=
  ⟨(hb.cell (p := ⟨b, p, none⟩) hB).trans h.c0, (hb.cell (p := ⟨b, p + 1, none⟩) hB).trans h.c1, (hb.cell (p := ⟨b, p + 2, none⟩) hB).trans h.c2, (hb.cell (p := ⟨b, p + 3, none⟩) hB).trans h.c3, (hb.cell (p := ⟨b, p + 4, none⟩) hB).trans h.c4, (hb.cell (p := ⟨b, p + 5, none⟩) hB).trans h.c5, (hb.cell (p := ⟨b, p + 6, none⟩) hB).trans h.c6, (hb.cell (p := ⟨b, p + 7, none⟩) hB).trans h.c7⟩
/-- A slice of shapes. -/
structure SLies (w : World) (ao : Option Addr) (n c : Nat) (ss : List Shp) : Prop where
  hlen : ss.length = n
  hle : n ≤ c
  hat : ∀ j s, ss[j]? = some s → ∃ b o, ao = some ⟨b, o, none⟩ ∧ ShAt w b (o + j * 8) s

set_option maxHeartbeats 8000000 in
theorem newMem_any (ao : Option Addr) (n c : Nat) (ss : List Shp) (w : World) (hB0 : Bds w) (hn : n ≤ 140737488351232) (hL : SLies w ao n c ss) :
    Calls Tryd.prog 3 #[.slice ao n c] w fun e w' => e = .returned (.bool true) ∧ Below w.heap.size w w' := by
  have hni : (n : Int) ≤ 140737488351232 := by omega
  go_enter Tryd.func3, Tryd.ntmps3
  go_wp2_with fail
  refine (first_any w hB0).mono ?_
  rintro e w1 ⟨rfl, hb1⟩
  have hbase := hb1.size
  go_wp2_with fail
  go_loopw [5] (fun i wr => ∃ (k : Nat) (B : Nat → Prop) (es : List Ent), k ≤ n ∧ k ≤ 30 ∧ i = .int .i64 k ∧ Bk wr w1.heap.size w1.heap.size B es ∧ es.length = 6 * k ∧ (∀ e ∈ es, e.len ≤ 1000) ∧ (∀ b, B b → w1.heap.size ≤ b ∧ b < wr.heap.size) ∧ Below w.heap.size w wr ∧ w1.heap.size ≤ wr.heap.size) (fun i _ => 40 - (intOf i).toNat)
  case atStart => exact ⟨0, _, [], Nat.zero_le _, Nat.zero_le _, rfl, Bk.new w1, rfl, (fun e he => by cases he), (fun b hb => by subst hb; simp), hb1.alloc hb1.size _, by simp⟩
  case round =>
    obtain ⟨k, B, es, hk, hk30, rfl, hB, hes, hel, hBB, hbl, hsz0⟩ := hrel
    by_cases hgo : k < n ∧ k < 30
    · obtain ⟨hlt, hlt30⟩ := hgo
      have hki : (k : Int) < 30 := by omega
      have hkn : (k : Int) < n := by omega
      have h0n : (0 : Int) < n := by omega
      have hlen := hL.hlen
      have hle := hL.hle
      obtain ⟨b, o, rfl, hck⟩ := hL.hat k _ (List.getElem?_eq_getElem (by omega : k < ss.length))
      obtain ⟨b2, o2, e2, hc0⟩ := hL.hat 0 _ (List.getElem?_eq_getElem (by omega : 0 < ss.length))
      cases e2
      have hbw : b < w.heap.size := World.block_lt_of_cell? w _ hck.c0
      generalize ss[k]'(by omega) = y at hck
      generalize ss[0]'(by omega) = y0 at hc0
      rw [Nat.zero_mul, Nat.add_zero] at hc0
      clear hL
      have HB : Hid (Bk wr w1.heap.size w1.heap.size B es) := hB
      clear hB
      obtain ⟨q0, q1, q2, q3, q4, q5, q6, q7⟩ := hck.later hbl hbw
      go_wp2_with fail
      clear q0 q1 q2 q3 q4 q5 q6 q7
      refine (superO_any y _ (hB0.later hbl (Nat.le_refl _))).mono ?_
      rintro e w2 ⟨al, nl, cl, rfl, hl2, hnl, hb2⟩
      have hw2 := hbl.trans (hb2.mono hbl.size)
      obtain ⟨q0, q1, q2, q3, q4, q5, q6, q7⟩ := hc0.later hw2 hbw
      go_wp2_with fail
      clear q0 q1 q2 q3 q4 q5 q6 q7
      refine (superO_any y0 _ (hB0.later hw2 (Nat.le_refl _))).mono ?_
      rintro e w3 ⟨ax, nx, cx, rfl, hx3, hnx, hb3⟩
      have hw3 := hw2.trans (hb3.mono hw2.size)
      obtain ⟨q0, q1, q2, q3, q4, q5, q6, q7⟩ := hck.later hw3 hbw
      go_wp2_with fail
      clear q0 q1 q2 q3 q4 q5 q6 q7
      refine (superO_any y _ (hB0.later hw3 (Nat.le_refl _))).mono ?_
      rintro e w4 ⟨am, nm, cm, rfl, hm4, hnm, hb4⟩
      have hw4 := hw3.trans (hb4.mono hw3.size)
      have hx4 := own_grow hx3 hb4
      go_wp2_with fail
      refine (bytes29_any am nm cm (supL y) _ (by omega) (Lies.owned hm4)).mono ?_
      rintro e w5 ⟨a5, c5, rfl, hw5, hb5⟩
      have hx5 := own_grow hx4 hb5
      go_wp2_with fail
      refine (bytes29_any ax nx cx (supL y0) _ (by omega) (Lies.owned hx5)).mono ?_
      rintro e w6 ⟨a6, c6, rfl, hw6, hb6⟩
      have hs12 := hb2.size
      have hs23 := hb3.size
      have hs34 := hb4.size
      have hs45 := hb5.size
      have hs56 := hb6.size
      have il := own_in hl2
      have ix := own_in hx3
      have im := own_in hm4
      have i5 := own_in hw5
      have i6 := own_in hw6
      have g5 := hb6
      have g4 := hb5.trans (g5.mono hb5.size)
      have g3 := hb4.trans (g4.mono hb4.size)
      have g2 := hb3.trans (g3.mono hb3.size)
      have g1 := hb2.trans (g2.mono hb2.size)
      have rl := ownsRow_mono (own_grow hl2 g2) hsz0
      have rx := ownsRow_mono (own_grow hx3 g3) (by omega : w1.heap.size ≤ w2.heap.size)
      have rm := ownsRow_mono (own_grow hm4 g4) (by omega : w1.heap.size ≤ w3.heap.size)
      have r5 := ownsRow_mono (own_grow hw5 g5) (by omega : w1.heap.size ≤ w4.heap.size)
      have r6 := ownsRow_mono hw6 (by omega : w1.heap.size ≤ w5.heap.size)
      have hBV := HB.out.below g1
      have hwV := hbl.trans (g1.mono hbl.size)
      clear hx4 hx5 hl2 hx3 hm4 hw5 hw6 g1 g2 g3 g4 g5 hb2 hb3 hb4 hb5 hb6 hw2 hw3 hw4 HB
      have HY : Hid (supL y = supL y) := rfl
      go_wp2_with fail
      refine (keep_any w1.heap.size w1.heap.size nl cl B es al _ _ _ (by omega) hBV (by omega) (by omega) rl (fun b hb hB => by have := hBB b hB; have := il b hb; omega)).mono ?_
      rintro e w7 ⟨rfl, e1, hB7, he1, hF7⟩
      have nl7 : ∀ b, w2.heap.size ≤ b → ¬ (B b ∨ (Value.slice al nl cl).ownBlock = some b) := fun b h1 h2 => by
        rcases h2 with h2 | h2
        · have := hBB b h2; omega
        · have := il b h2; omega
      have rx7 := own_fr rx hF7 (fun b hb => nl7 b (by have := ix b hb; omega))
      have rm7 := own_fr rm hF7 (fun b hb => nl7 b (by have := im b hb; omega))
      have r57 := own_fr r5 hF7 (fun b hb => nl7 b (by have := i5 b hb; omega))
      have r67 := own_fr r6 hF7 (fun b hb => nl7 b (by have := i6 b hb; omega))
      have hbF7 : Below w.heap.size w w7 := hwV.trans (hF7.below (fun k hk => by rcases hk with hk | hk; (have := hBB k hk; omega); (have := il k hk; omega)) (by omega))
      have hs7 := hF7.size
      clear hBV hwV hF7 rl rx rm r5 r6 nl7
      obtain ⟨P7, es7, hB7, hP7, hl7, he7⟩ : ∃ (P7 : Nat → Prop) (es7 : List Ent), Bk w7 w1.heap.size w1.heap.size P7 es7 ∧ (∀ b, P7 b → w1.heap.size ≤ b ∧ b < w7.heap.size ∧ (b < w2.heap.size ∨ w6.heap.size ≤ b)) ∧ es7.length = 6 * k + 2 ∧ ∀ e ∈ es7, e.len ≤ 1000 := by
        refine ⟨_, _, hB7.now, fun b hb => ?_, by simp [hes], fun e he => ?_⟩
        · obtain ⟨h1 | h1 | h1, h2⟩ := hb
          · have := hBB b h1; exact ⟨by omega, h2, .inl (by omega)⟩
          · have := il b h1; exact ⟨by omega, h2, .inl (by omega)⟩
          · exact ⟨by omega, h2, .inr h1⟩
        · rcases List.mem_append.1 he with h | h
          · exact hel e h
          · simp at h
            rcases h with rfl | rfl
            · show nl ≤ 1000
              omega
            · omega
      clear he1 hel hes hBB HY
      go_wp2_with fail
      refine (same_any _ _ _ _ _ _ _ _ _ (by omega) (Lies.owned rm7) (Lies.owned r57)).mono ?_
      rintro e w8 ⟨rfl, q8, rfl⟩
      rw [decide_eq_true rfl]
      have hd8 : Below w7.heap.size w7 (w7.drewN q8) := below_drewN (Below.refl _ w7) q8
      have hsd8 : (w7.drewN q8).heap.size ≤ w7.heap.size := by simp
      have hsd8b : w7.heap.size ≤ (w7.drewN q8).heap.size := by simp
      have hB8 := hB7.below hd8
      have hb8 : Below w.heap.size w (w7.drewN q8) := below_drewN hbF7 q8
      have rx8 := own_grow rx7 hd8
      have rm8 := own_grow rm7 hd8
      have r58 := own_grow r57 hd8
      have r68 := own_grow r67 hd8
      clear hB7 hbF7 rx7 rm7 r57 r67 hd8
      generalize w7.drewN q8 = V8 at *
      go_wp2_with fail
      refine (same_any _ _ _ _ _ _ _ _ _ (by omega) (Lies.owned rx8) (Lies.owned r68)).mono ?_
      rintro e w9 ⟨rfl, q9, rfl⟩
      rw [decide_eq_true rfl]
      have hd9 : Below V8.heap.size V8 (V8.drewN q9) := below_drewN (Below.refl _ V8) q9
      have hsd9 : (V8.drewN q9).heap.size ≤ V8.heap.size := by simp
      have hsd9b : V8.heap.size ≤ (V8.drewN q9).heap.size := by simp
      have hB9 := hB8.below hd9
      have hb9 : Below w.heap.size w (V8.drewN q9) := below_drewN hb8 q9
      have rx9 := own_grow rx8 hd9
      have rm9 := own_grow rm8 hd9
      have r59 := own_grow r58 hd9
      clear hB8 hb8 rx8 rm8 r58 r68 hd9
      generalize V8.drewN q9 = V9 at *
      go_wp2_with fail
      refine (keep_any w1.heap.size w1.heap.size nm cm P7 es7 am _ _ _ (by omega) hB9 (by omega) (by omega) rm9 (fun b hb hB => by have := hP7 b hB; have := im b hb; omega)).mono ?_
      rintro e w10 ⟨rfl, e2, hB10, he2, hF10⟩
      have nl10 : ∀ b, w2.heap.size ≤ b → b < w6.heap.size → (b < w3.heap.size ∨ w4.heap.size ≤ b) → ¬ (P7 b ∨ (Value.slice am nm cm).ownBlock = some b) := fun b h1 h2 h4 h3 => by
        rcases h3 with h3 | h3
        · have := hP7 b h3; omega
        · have := im b h3; omega
      have rx10 := own_fr rx9 hF10 (fun b hb => nl10 b (by have := ix b hb; omega) (by have := ix b hb; omega) (by have := ix b hb; omega))
      have r510 := own_fr r59 hF10 (fun b hb => nl10 b (by have := i5 b hb; omega) (by have := i5 b hb; omega) (by have := i5 b hb; omega))
      have hb10 : Below w.heap.size w w10 := hb9.trans (hF10.below (fun k hk => by rcases hk with hk | hk; (have := hP7 k hk; omega); (have := im k hk; omega)) (by omega))
      have hs10 := hF10.size
      obtain ⟨P10, es10, hB10, hP10, hl10, he10⟩ : ∃ (P10 : Nat → Prop) (es10 : List Ent), Bk w10 w1.heap.size w1.heap.size P10 es10 ∧ (∀ b, P10 b → w1.heap.size ≤ b ∧ b < w10.heap.size ∧ (b < w2.heap.size ∨ (w3.heap.size ≤ b ∧ b < w4.heap.size) ∨ w6.heap.size ≤ b)) ∧ es10.length = 6 * k + 4 ∧ ∀ e ∈ es10, e.len ≤ 1000 := by
        refine ⟨_, _, hB10.now, fun b hb => ?_, by simp [hl7], fun e he => ?_⟩
        · obtain ⟨h1 | h1 | h1, h2⟩ := hb
          · have := hP7 b h1; exact ⟨by omega, h2, by omega⟩
          · have := im b h1; exact ⟨by omega, h2, by omega⟩
          · exact ⟨by omega, h2, by omega⟩
        · rcases List.mem_append.1 he with h | h
          · exact he7 e h
          · simp at h
            rcases h with rfl | rfl
            · show nm ≤ 1000
              omega
            · omega
      clear he2 he7 hl7 hP7 hF10 nl10 hB9 hb9 rx9 rm9 r59
      go_wp2_with fail
      refine (keep_any w1.heap.size w1.heap.size nx cx P10 es10 ax _ _ _ (by omega) hB10 (by omega) (by omega) rx10 (fun b hb hB => by have := hP10 b hB; have := ix b hb; omega)).mono ?_
      rintro e w14 ⟨rfl, e3, hB14, he3, hF14⟩
      have nl14 : ∀ b, w4.heap.size ≤ b → b < w6.heap.size → ¬ (P10 b ∨ (Value.slice ax nx cx).ownBlock = some b) := fun b h1 h2 h3 => by
        rcases h3 with h3 | h3
        · have := hP10 b h3; omega
        · have := ix b h3; omega
      have r514 := own_fr r510 hF14 (fun b hb => nl14 b (by have := i5 b hb; omega) (by have := i5 b hb; omega))
      have hb14 : Below w.heap.size w w14 := hb10.trans (hF14.below (fun k hk => by rcases hk with hk | hk; (have := hP10 k hk; omega); (have := ix k hk; omega)) (by omega))
      have hs14 := hF14.size
      obtain ⟨P14, es14, hB14, hP14, hl14, he14⟩ : ∃ (P14 : Nat → Prop) (es14 : List Ent), Bk w14 w1.heap.size w1.heap.size P14 es14 ∧ (∀ b, P14 b → w1.heap.size ≤ b ∧ b < w14.heap.size) ∧ es14.length = 6 * k + 6 ∧ ∀ e ∈ es14, e.len ≤ 1000 := by
        refine ⟨_, _, hB14.now, fun b hb => ?_, by simp [hl10], fun e he => ?_⟩
        · obtain ⟨h1 | h1 | h1, h2⟩ := hb
          · have := hP10 b h1; exact ⟨by omega, h2⟩
          · have := ix b h1; exact ⟨by omega, h2⟩
          · exact ⟨by omega, h2⟩
        · rcases List.mem_append.1 he with h | h
          · exact he10 e h
          · simp at h
            rcases h with rfl | rfl
            · show nx ≤ 1000
              omega
            · omega
      clear he3 he10 hl10 hP10 hF14 nl14 hB10 hb10 rx10 r510
      obtain ⟨q0, q1, q2, q3, q4, q5, q6, q7⟩ := hck.later hb14 hbw
      go_wp2_with fail
      clear q0 q1 q2 q3 q4 q5 q6 q7
      refine (superO_any y _ (hB0.later hb14 (Nat.le_refl _))).mono ?_
      rintro e w15 ⟨an, nn, cn, rfl, hn15, hnn, hd15⟩
      have hB15 := hB14.below hd15
      have r515 := own_grow r514 hd15
      have hb15 := hb14.trans (hd15.mono hb14.size)
      have hs15 := hd15.size
      clear hB14 r514 hb14 hd15
      go_wp2_with fail
      refine (same_any _ _ _ _ _ _ _ _ _ (by omega) (Lies.owned hn15) (Lies.owned r515)).mono ?_
      rintro e w16 ⟨rfl, q16, rfl⟩
      rw [decide_eq_true rfl]
      have hd16 : Below w15.heap.size w15 (w15.drewN q16) := below_drewN (Below.refl _ w15) q16
      have hsd16 : w15.heap.size ≤ (w15.drewN q16).heap.size := by simp
      have hB16 := hB15.below hd16
      have hb16 : Below w.heap.size w (w15.drewN q16) := below_drewN hb15 q16
      clear hB15 hb15 hn15 r515 hd16
      generalize w15.drewN q16 = V16 at *
      go_wp2_with fail
      refine (whole_any _ _ _ _ _ hB16 (by omega) he14).mono ?_
      rintro e w17 ⟨rfl, hd17⟩
      have hB17 := hB16.below hd17
      have hb17 := hb16.trans (hd17.mono hb16.size)
      have hs17 := hd17.size
      have HB17 : Hid (Bk w17 w1.heap.size w1.heap.size P14 es14) := hB17
      clear hB16 hb16 hd17 hB17
      generalize planE y = S
      go_wp2_with (go_at_call 13; refine (num_id _ _).mono ?_; rintro e wq ⟨rfl, hq⟩; subst wq)
      go_roundw
      case rel => exact ⟨k + 1, P14, es14, by omega, by omega, by go_num, HB17.out, by omega, he14, (fun b hb => by have := hP14 b hb; omega), hb17, by omega⟩
      case measure => simp [intOf]; omega
    · have hway : ¬ k < n ∨ (k < n ∧ ¬ (k : Int) < 30) := by omega
      rcases hway with hway | ⟨hway, hway2⟩
      all_goals
        clear hB
        go_wp2
        go_ret
        exact ⟨rfl, hbl⟩
end Go.Proofs.YtgpeefedboomoabDoor
