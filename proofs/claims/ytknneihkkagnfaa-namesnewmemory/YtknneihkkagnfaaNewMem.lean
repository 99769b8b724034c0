/- annexlaw3.NamesNewMemory by its walk. -/
import Derived.Test.YtknneihkkagnfaaNWhole
namespace Go.Proofs.Ytknneihkkagnfaa
open Go.RowKit
set_option maxRecDepth 100000

theorem Bk.now {w : World} {base bk : Nat} {B : Nat → Prop} {es : List Ent} (h : Bk w base bk B es) : Bk w base bk (fun k => B k ∧ k < w.heap.size) es := by
  obtain ⟨⟨vL, vM, hb, hL, hM, hBL, hBM⟩, hbk, hl⟩ := h
  exact ⟨⟨vL, vM, hb, hL, hM, fun k hk => ⟨hBL k hk, (own_old hL hk).2.1⟩, fun k hk => ⟨⟨(hBM k hk).1, (own_old hM hk).2.1⟩, (hBM k hk).2⟩⟩, ⟨hbk.1, hbk.2, lt_of_block hb⟩, fun e he => ⟨(hl e he).1, fun b hb => ⟨(hl e he).2 b hb, (own_old (hl e he).1 hb).2.1⟩⟩⟩
theorem Bk.new (w : World) : Bk (w.alloc (.cells #[.slice none 0 0, .slice none 0 0] 39)) w.heap.size w.heap.size (fun k => k = w.heap.size) [] := by
  refine ⟨⟨_, _, World.alloc_heap_new w _, ⟨rfl, Or.inl ⟨rfl, rfl⟩⟩, ⟨rfl, Or.inl ⟨rfl, rfl⟩⟩, fun k hk => (by cases hk), fun k hk => (by cases hk)⟩, ⟨Nat.le_refl _, rfl⟩, fun e he => (by cases he)⟩
theorem own_fr {K : Nat → Prop} {w w' : World} {base e n : Nat} {v : Value} {xs : List Value} (h : w.ownsRow base e 1 v n xs) (hF : Fr K w w') (hk : ∀ b, v.ownBlock = some b → ¬ K b) : w'.ownsRow base e 1 v n xs :=
  own_keep h (fun b hb => hF.block b (own_old h hb).2.1 (hk b hb))
theorem own_grow {w w' : World} {base e n : Nat} {v : Value} {xs : List Value} (h : w.ownsRow base e 1 v n xs) (hb : Below w.heap.size w w') : w'.ownsRow base e 1 v n xs :=
  own_keep h (fun b hb' => hb.block b (own_old h hb').2.1)
theorem Fr.below {K : Nat → Prop} {w w' : World} (h : Fr K w w') {b0 : Nat} (hK : ∀ k, K k → b0 ≤ k) (hsz : b0 ≤ w.heap.size) : Below b0 w w' :=
  ⟨h.os, h.tape, h.output, h.size, fun k hk => h.block k (by omega) (fun hh => by have := hK k hh; omega)⟩
/-- A row's block lies within bounds. -/
def In (v : Value) (lo hi : Nat) : Prop := ∀ b, v.ownBlock = some b → lo ≤ b ∧ b < hi
theorem own_in {w : World} {base e n : Nat} {v : Value} {xs : List Value} (h : w.ownsRow base e 1 v n xs) : In v base w.heap.size := fun _ hb => ⟨(own_old h hb).1, (own_old h hb).2.1⟩

set_option maxHeartbeats 4000000 in
theorem newMem_any (ao : Option Addr) (n c : Nat) (xs : List ByteArray) (w : World) (hn : n ≤ 8796093021952) (hL : Lies w ao n c xs) (hs : ∀ x, x ∈ xs → x.size ≤ 140737488351232) :
    Calls Try.prog 6 #[.slice ao n c] w fun e w' => e = .returned (.bool true) ∧ Below w.heap.size w w' := by
  obtain ⟨i9, hi9, hz0, hz1, hz2⟩ := info_parts Try.info9
  have hni : (n : Int) ≤ 8796093021952 := by omega
  have HS : Hid (∀ x, x ∈ xs → x.size ≤ 140737488351232) := ⟨hs⟩
  clear hs
  go_enter Try.func6, Try.ntmps6
  go_wp2_with fail
  refine (first_any w).mono ?_
  rintro e w1 ⟨rfl, hb1⟩
  have hbase := hb1.size
  go_wp2
  go_loopw [5] (fun i wr => ∃ (k : Nat) (B : Nat → Prop) (es : List Ent), k ≤ n ∧ k ≤ 40 ∧ i = .int .i64 k ∧ Bk wr w1.heap.size w1.heap.size B es ∧ es.length = 6 * k ∧ (∀ e ∈ es, e.len ≤ 1000) ∧ (∀ b, B b → w1.heap.size ≤ b ∧ b < wr.heap.size) ∧ Below w.heap.size w wr ∧ w1.heap.size ≤ wr.heap.size) (fun i _ => n - (intOf i).toNat)
  case atStart => exact ⟨0, _, [], Nat.zero_le _, Nat.zero_le _, rfl, Bk.new w1, rfl, (fun e he => by cases he), (fun b hb => by subst hb; simp), hb1.alloc hb1.size _, by simp⟩
  case round =>
    obtain ⟨k, B, es, hk, hk40, rfl, hB, hes, hel, hBB, hbl, hsz0⟩ := hrel
    by_cases hgo : k < n ∧ k < 40
    · obtain ⟨hlt, hlt40⟩ := hgo
      have hki : (k : Int) < 40 := by omega
      have hkn : (k : Int) < n := by omega
      have h0n : (0 : Int) < n := by omega
      have hlen := hL.hlen
      obtain ⟨b, o, rfl, hbw, hcell⟩ := hL.at (by omega)
      have hck := hcell k (by omega)
      have hc0 := hcell 0 (by omega)
      rw [Nat.add_zero] at hc0
      have hsk := HS.out _ (List.getElem_mem (h := (by omega : k < xs.length)))
      have hs0 := HS.out _ (List.getElem_mem (h := (by omega : 0 < xs.length)))
      generalize xs[k]'(by omega) = y at hck hsk
      generalize xs[0]'(by omega) = y0 at hc0 hs0
      clear hcell hL
      have HB : Hid (Bk wr w1.heap.size w1.heap.size B es) := ⟨hB⟩
      clear hB
      have k1 := (hbl.cell (p := ⟨b, o + k, none⟩) hbw).trans hck
      go_wp2_with fail
      refine (split_any _ _ (by omega)).mono ?_
      rintro e w2 ⟨al, nl, cl, rfl, hl2, hb2⟩
      have hw2 := hbl.trans (hb2.mono hbl.size)
      have k2 := (hw2.cell (p := ⟨b, o, none⟩) hbw).trans hc0
      go_wp2_with fail
      refine (split_any _ _ (by omega)).mono ?_
      rintro e w3 ⟨ax, nx, cx, rfl, hx3, hb3⟩
      have hw3 := hw2.trans (hb3.mono hw2.size)
      have k3 := (hw3.cell (p := ⟨b, o + k, none⟩) hbw).trans hck
      go_wp2_with fail
      refine (split_any _ _ (by omega)).mono ?_
      rintro e w4 ⟨am, nm, cm, rfl, hm4, hb4⟩
      have hw4 := hw3.trans (hb4.mono hw3.size)
      clear k1 k2 k3
      have hx4 := own_grow hx3 hb4
      go_wp2_with (first
        | (at_builtin; refine wpList_append_clone _ rfl _ _ 22 rfl w3.heap.size 9 i9 (.string ⟨#[]⟩) 1 16 Try.underlying22 hi9 hz0 hz1 hz2 rfl (by decide) (.slice am nm cm) nm _ rfl rfl hm4 (oneCells _) (by have := hm4.1; simp at this; have := splitL_len (bs y); unfold maxLen; omega) (by have := hm4.1; simp at this; have := splitL_len (bs y); omega) ?_; intro v5 w5 hw5 hb5; have hx5 := own_grow hx4 hb5; obtain ⟨a5, c5, rfl⟩ := own_val hw5)
        | (at_builtin; refine wpList_append_clone _ rfl _ _ 22 rfl w2.heap.size 9 i9 (.string ⟨#[]⟩) 1 16 Try.underlying22 hi9 hz0 hz1 hz2 rfl (by decide) (.slice ax nx cx) nx _ rfl rfl hx5 (oneCells _) (by have := hx3.1; simp at this; have := splitL_len (bs y0); unfold maxLen; omega) (by have := hx3.1; simp at this; have := splitL_len (bs y0); omega) ?_; intro v6 w6 hw6 hb6; obtain ⟨a6, c6, rfl⟩ := own_val hw6; obtain ⟨X1, hX1s, hX1⟩ := conv_one w6 (97 + (k : Int))))
      have hs12 := hb2.size
      have hs23 := hb3.size
      have hs34 := hb4.size
      have hs45 := hb5.size
      have hs56 := hb6.size
      have hnl : nl ≤ 16 := by have := hl2.1; simp at this; have := splitL_len (bs y); omega
      have hnx : nx ≤ 16 := by have := hx3.1; simp at this; have := splitL_len (bs y0); omega
      have hnm : nm ≤ 16 := by have := hm4.1; simp at this; have := splitL_len (bs y); omega
      have il := own_in hl2
      have ix := own_in hx3
      have im := own_in hm4
      have i5 := own_in hw5
      have i6 := own_in hw6
      have hg6 : Below w6.heap.size w6 (w6.alloc (.cells #[.int .u8 (97 + (k : Int))] 5)) := (Below.refl _ w6).alloc (Nat.le_refl _) _
      have g5 := hb6.trans (hg6.mono hb6.size)
      have g4 := hb5.trans (g5.mono hb5.size)
      have g3 := hb4.trans (g4.mono hb4.size)
      have g2 := hb3.trans (g3.mono hb3.size)
      have g1 := hb2.trans (g2.mono hb2.size)
      have rl := ownsRow_mono (own_grow hl2 g2) hsz0
      have rx := ownsRow_mono (own_grow hx3 g3) (by omega : w1.heap.size ≤ w2.heap.size)
      have rm := ownsRow_mono (own_grow hm4 g4) (by omega : w1.heap.size ≤ w3.heap.size)
      have r5 := ownsRow_mono (own_grow hw5 g5) (by omega : w1.heap.size ≤ w4.heap.size)
      have r6 := ownsRow_mono (own_grow hw6 hg6) (by omega : w1.heap.size ≤ w5.heap.size)
      have hBV := HB.out.below g1
      have hwV := hbl.trans (g1.mono hbl.size)
      have hVs : (w6.alloc (.cells #[.int .u8 (97 + (k : Int))] 5)).heap.size ≤ w6.heap.size + 1 := by simp
      have hVsb : w6.heap.size + 1 ≤ (w6.alloc (.cells #[.int .u8 (97 + (k : Int))] 5)).heap.size := by simp
      clear hx4 hx5 hl2 hx3 hm4 hw5 hw6 hg6 g1 g2 g3 g4 g5 hb2 hb3 hb4 hb5 hb6 hw2 hw3 hw4 HB
      generalize hYd0 : (splitL (bs y)).map tx = Y at rl rm r5
      have hYd : Hid ((splitL (bs y)).map tx = Y) := ⟨hYd0⟩
      clear hYd0
      generalize w6.alloc (.cells #[.int .u8 (97 + (k : Int))] 5) = V at rl rx rm r5 r6 hBV hwV hVs hVsb
      refine (keep_any w1.heap.size w1.heap.size nl cl B es al _ _ _ (by omega) hBV (by omega) (by omega) rl (fun b hb hB => by have := hBB b hB; have := il b hb; omega)).mono ?_
      rintro e w7 ⟨rfl, e1, hB7, he1, hF7⟩
      have nl7 : ∀ b, w2.heap.size ≤ b → ¬ (B b ∨ (Value.slice al nl cl).ownBlock = some b) := fun b h1 h2 => by
        rcases h2 with h2 | h2
        · have := hBB b h2; omega
        · have := il b h2; omega
      have rx7 := own_fr rx hF7 (fun b hb => nl7 b (by have := ix b hb; omega))
      have rm7 := own_fr rm hF7 (fun b hb => nl7 b (by have := im b hb; omega))
      have r57 := own_fr r5 hF7 (fun b hb => nl7 b (by have := i5 b hb; omega))
      have r67 := own_fr r6 hF7 (fun b hb => nl7 b (by have := i6 b hb; omega))
      have hbF7 : Below w.heap.size w w7 := hwV.trans (hF7.below (fun k hk => by rcases hk with hk | hk; (have := hBB k hk; omega); (have := il k hk; omega)) (by omega))
      have hs7 := hF7.size
      clear hBV hwV hF7 rl rx rm r5 r6 nl7
      obtain ⟨P7, es7, hB7, hP7, hl7, he7⟩ : ∃ (P7 : Nat → Prop) (es7 : List Ent), Bk w7 w1.heap.size w1.heap.size P7 es7 ∧ (∀ b, P7 b → w1.heap.size ≤ b ∧ b < w7.heap.size ∧ (b < w2.heap.size ∨ V.heap.size ≤ b)) ∧ es7.length = 6 * k + 2 ∧ ∀ e ∈ es7, e.len ≤ 1000 := by
        refine ⟨_, _, hB7.now, fun b hb => ?_, by simp [hes], fun e he => ?_⟩
        · obtain ⟨h1 | h1 | h1, h2⟩ := hb
          · have := hBB b h1; exact ⟨by omega, h2, .inl (by omega)⟩
          · have := il b h1; exact ⟨by omega, h2, .inl (by omega)⟩
          · exact ⟨by omega, h2, .inr h1⟩
        · rcases List.mem_append.1 he with h | h
          · exact hel e h
          · simp at h
            rcases h with rfl | rfl
            · show nl ≤ 1000
              omega
            · omega
      clear he1 hel hes hBB
      generalize (splitL (bs y0)).map tx = Y0 at rx7 r67
      go_wp2_with fail
      refine (same_any _ _ _ _ _ _ _ _ _ (by omega) (Lies.owned rx7) (Lies.owned r67)).mono ?_
      rintro e w8 ⟨rfl, q8, rfl⟩
      rw [decide_eq_true rfl]
      have hd8 : Below w7.heap.size w7 (w7.drewN q8) := (Below.refl _ w7).drewN q8
      have hsd8 : (w7.drewN q8).heap.size ≤ w7.heap.size := by simp
      have hsd8b : w7.heap.size ≤ (w7.drewN q8).heap.size := by simp
      have hB8 := hB7.below hd8
      have hb8 : Below w.heap.size w (w7.drewN q8) := hbF7.drewN q8
      have rx8 := own_grow rx7 hd8
      have rm8 := own_grow rm7 hd8
      have r58 := own_grow r57 hd8
      clear hB7 hbF7 rx7 rm7 r57 r67 hd8
      generalize w7.drewN q8 = V8 at hB8 hb8 rx8 rm8 r58 hsd8 hsd8b
      obtain ⟨X2, hX2s, hX2⟩ := conv_one V8 (97 + (k : Int))
      have hg8 : Below V8.heap.size V8 (V8.alloc (.cells #[.int .u8 (97 + (k : Int))] 5)) := (Below.refl _ V8).alloc (Nat.le_refl _) _
      have hVs8 : (V8.alloc (.cells #[.int .u8 (97 + (k : Int))] 5)).heap.size ≤ V8.heap.size + 1 := by simp
      have hVs8b : V8.heap.size + 1 ≤ (V8.alloc (.cells #[.int .u8 (97 + (k : Int))] 5)).heap.size := by simp
      have hB9 := hB8.below hg8
      have rx9 := own_grow rx8 hg8
      have rm9 := own_grow rm8 hg8
      have r59 := own_grow r58 hg8
      have hb9 := hb8.trans (hg8.mono hb8.size)
      clear hB8 hb8 rx8 rm8 r58 hg8
      go_wp2_with fail
      generalize V8.alloc (.cells #[.int .u8 (97 + (k : Int))] 5) = W8 at hB9 rx9 rm9 r59 hb9 hVs8 hVs8b
      refine (keep_any w1.heap.size w1.heap.size nx cx P7 es7 ax _ _ _ (by omega) hB9 (by omega) (by omega) rx9 (fun b hb hB => by have := hP7 b hB; have := ix b hb; omega)).mono ?_
      rintro e w10 ⟨rfl, e2, hB10, he2, hF10⟩
      have nl10 : ∀ b, w3.heap.size ≤ b → b < V.heap.size → ¬ (P7 b ∨ (Value.slice ax nx cx).ownBlock = some b) := fun b h1 h2 h3 => by
        rcases h3 with h3 | h3
        · have := hP7 b h3; omega
        · have := ix b h3; omega
      have rm10 := own_fr rm9 hF10 (fun b hb => nl10 b (by have := im b hb; omega) (by have := im b hb; omega))
      have r510 := own_fr r59 hF10 (fun b hb => nl10 b (by have := i5 b hb; omega) (by have := i5 b hb; omega))
      have hb10 : Below w.heap.size w w10 := hb9.trans (hF10.below (fun k hk => by rcases hk with hk | hk; (have := hP7 k hk; omega); (have := ix k hk; omega)) (by omega))
      have hs10 := hF10.size
      obtain ⟨P10, es10, hB10, hP10, hl10, he10⟩ : ∃ (P10 : Nat → Prop) (es10 : List Ent), Bk w10 w1.heap.size w1.heap.size P10 es10 ∧ (∀ b, P10 b → w1.heap.size ≤ b ∧ b < w10.heap.size ∧ (b < w3.heap.size ∨ V.heap.size ≤ b)) ∧ es10.length = 6 * k + 4 ∧ ∀ e ∈ es10, e.len ≤ 1000 := by
        refine ⟨_, _, hB10.now, fun b hb => ?_, by simp [hl7], fun e he => ?_⟩
        · obtain ⟨h1 | h1 | h1, h2⟩ := hb
          · have := hP7 b h1; exact ⟨by omega, h2, by omega⟩
          · have := ix b h1; exact ⟨by omega, h2, .inl (by omega)⟩
          · exact ⟨by omega, h2, .inr (by omega)⟩
        · rcases List.mem_append.1 he with h | h
          · exact he7 e h
          · simp at h
            rcases h with rfl | rfl
            · show nx ≤ 1000
              omega
            · omega
      clear he2 he7 hl7 hP7 hF10 nl10 hB9 hb9 rx9 rm9 r59
      go_wp2_with fail
      refine (same_any _ _ _ _ _ _ _ _ _ (by omega) (Lies.owned rm10) (Lies.owned r510)).mono ?_
      rintro e w11 ⟨rfl, q11, rfl⟩
      rw [decide_eq_true rfl]
      have hd11 : Below w10.heap.size w10 (w10.drewN q11) := (Below.refl _ w10).drewN q11
      have hsd11 : (w10.drewN q11).heap.size ≤ w10.heap.size := by simp
      have hsd11b : w10.heap.size ≤ (w10.drewN q11).heap.size := by simp
      have hB11 := hB10.below hd11
      have hb11 : Below w.heap.size w (w10.drewN q11) := hb10.drewN q11
      have rm11 := own_grow rm10 hd11
      have r511 := own_grow r510 hd11
      clear hB10 hb10 rm10 r510 hd11
      generalize w10.drewN q11 = V11 at hB11 hb11 rm11 r511 hsd11 hsd11b
      go_wp2_with fail
      refine (whole_any _ _ _ _ _ hB11 (by omega) he10).mono ?_
      rintro e w12 ⟨rfl, hd12⟩
      have hB12 := hB11.below hd12
      have hb12 := hb11.trans (hd12.mono hb11.size)
      have rm12 := own_grow rm11 hd12
      have r512 := own_grow r511 hd12
      have hs12' := hd12.size
      clear hB11 hb11 rm11 r511 hd12
      obtain ⟨X3, hX3s, hX3⟩ := conv_one w12 (97 + (k : Int))
      have hg12 : Below w12.heap.size w12 (w12.alloc (.cells #[.int .u8 (97 + (k : Int))] 5)) := (Below.refl _ w12).alloc (Nat.le_refl _) _
      have hVs12 : (w12.alloc (.cells #[.int .u8 (97 + (k : Int))] 5)).heap.size ≤ w12.heap.size + 1 := by simp
      have hVs12b : w12.heap.size + 1 ≤ (w12.alloc (.cells #[.int .u8 (97 + (k : Int))] 5)).heap.size := by simp
      have hB13 := hB12.below hg12
      have rm13 := own_grow rm12 hg12
      have r513 := own_grow r512 hg12
      have hb13 := hb12.trans (hg12.mono hb12.size)
      clear hB12 hb12 rm12 r512 hg12
      go_wp2_with (first | (go_at_call 12; refine (num_any _ _).mono ?_; rintro e wq ⟨rfl, hq⟩; subst wq) | fail)
      generalize w12.alloc (.cells #[.int .u8 (97 + (k : Int))] 5) = W12 at hB13 rm13 r513 hb13 hVs12 hVs12b
      refine (keep_any w1.heap.size w1.heap.size nm cm P10 es10 am _ _ _ (by omega) hB13 (by omega) (by omega) rm13 (fun b hb hB => by have := hP10 b hB; have := im b hb; omega)).mono ?_
      rintro e w14 ⟨rfl, e3, hB14, he3, hF14⟩
      have nl14 : ∀ b, w4.heap.size ≤ b → b < V.heap.size → ¬ (P10 b ∨ (Value.slice am nm cm).ownBlock = some b) := fun b h1 h2 h3 => by
        rcases h3 with h3 | h3
        · have := hP10 b h3; omega
        · have := im b h3; omega
      have r514 := own_fr r513 hF14 (fun b hb => nl14 b (by have := i5 b hb; omega) (by have := i5 b hb; omega))
      have hb14 : Below w.heap.size w w14 := hb13.trans (hF14.below (fun k hk => by rcases hk with hk | hk; (have := hP10 k hk; omega); (have := im k hk; omega)) (by omega))
      have hs14 := hF14.size
      obtain ⟨P14, es14, hB14, hP14, hl14, he14⟩ : ∃ (P14 : Nat → Prop) (es14 : List Ent), Bk w14 w1.heap.size w1.heap.size P14 es14 ∧ (∀ b, P14 b → w1.heap.size ≤ b ∧ b < w14.heap.size) ∧ es14.length = 6 * k + 6 ∧ ∀ e ∈ es14, e.len ≤ 1000 := by
        refine ⟨_, _, hB14.now, fun b hb => ?_, by simp [hl10], fun e he => ?_⟩
        · obtain ⟨h1 | h1 | h1, h2⟩ := hb
          · have := hP10 b h1; exact ⟨by omega, h2⟩
          · have := im b h1; exact ⟨by omega, h2⟩
          · exact ⟨by omega, h2⟩
        · rcases List.mem_append.1 he with h | h
          · exact he10 e h
          · simp at h
            rcases h with rfl | rfl
            · show nm ≤ 1000
              omega
            · omega
      clear he3 he10 hl10 hP10 hF14 nl14 hB13 hb13 rm13 r513
      have k4 := (hb14.cell (p := ⟨b, o + k, none⟩) hbw).trans hck
      go_wp2_with fail
      refine (split_any _ _ (by omega)).mono ?_
      rintro e w15 ⟨an, nn, cn, rfl, hn15, hd15⟩
      have hB15 := hB14.below hd15
      have r515 := own_grow r514 hd15
      have hb15 := hb14.trans (hd15.mono hb14.size)
      have hs15 := hd15.size
      have hnn : nn ≤ 16 := by have := hn15.1; simp at this; have := splitL_len (bs y); omega
      rw [← hYd.out] at r515
      clear k4 hB14 r514 hb14 hd15
      go_wp2_with fail
      refine (same_any _ _ _ _ _ _ _ _ _ (by omega) (Lies.owned hn15) (Lies.owned r515)).mono ?_
      rintro e w16 ⟨rfl, q16, rfl⟩
      rw [decide_eq_true rfl]
      have hd16 : Below w15.heap.size w15 (w15.drewN q16) := (Below.refl _ w15).drewN q16
      have hsd16 : w15.heap.size ≤ (w15.drewN q16).heap.size := by simp
      have hB16 := hB15.below hd16
      have hb16 : Below w.heap.size w (w15.drewN q16) := hb15.drewN q16
      clear hB15 hb15 hn15 r515 hd16
      generalize w15.drewN q16 = V16 at hB16 hb16 hsd16
      go_wp2_with fail
      refine (whole_any _ _ _ _ _ hB16 (by omega) he14).mono ?_
      rintro e w17 ⟨rfl, hd17⟩
      have hB17 := hB16.below hd17
      have hb17 := hb16.trans (hd17.mono hb16.size)
      have hs17 := hd17.size
      have HB17 : Hid (Bk w17 w1.heap.size w1.heap.size P14 es14) := ⟨hB17⟩
      clear hB16 hb16 hd17 hB17
      generalize splitE (bs y) = S
      go_wp2_with (first | (go_at_call 12; refine (num_any _ _).mono ?_; rintro e wq ⟨rfl, hq⟩; subst wq))
      go_roundw
      case rel => exact ⟨k + 1, P14, es14, by omega, by omega, by go_num, HB17.out, by omega, he14, (fun b hb => by have := hP14 b hb; omega), hb17, by omega⟩
      case measure => simp [intOf]; omega
    · have hway : ¬ k < n ∨ (k < n ∧ ¬ (k : Int) < 40) := by omega
      rcases hway with hway | ⟨hway, hway2⟩
      all_goals
        clear hB
        go_wp2
        go_ret
        exact ⟨rfl, hbl⟩
end Go.Proofs.Ytknneihkkagnfaa
