/- lowest, used by their contracts. -/
import Derived.Test.YtfmcbjlagdanjaaGreatDoorPk09
import Derived.WalkMore
import Derived.BigQuiet
import Derived.Deep.AppendLies
namespace Go.Proofs.YtfmcbjlagdanjaaGreatDoor
open Go.RowKit Go.Maps
set_option maxRecDepth 100000

attribute [local go_sem ↓ 100000] bm_store bm_load
/-- The lowest data block that is not in use, or -1. -/
def lowZ (bs : List Int) (D : Nat) : Int := ((List.range D).find? (fun i => !bitB bs i)).elim (-1) (fun i => (i : Int))
theorem lowZ_some {bs : List Int} {D i : Nat} (hi : i < D) (hb : bitB bs i = false) (hl : ∀ j, j < i → bitB bs j = true) : lowZ bs D = i := by
  have e : (List.range D).find? (fun i => !bitB bs i) = some i := by
    rw [List.find?_range_eq_some]
    exact ⟨by simp [hb], by simpa using hi, fun j hj => by simp [hl j hj]⟩
  unfold lowZ
  rw [e]; rfl
theorem lowZ_none {bs : List Int} {D : Nat} (hl : ∀ j, j < D → bitB bs j = true) : lowZ bs D = -1 := by
  have e : (List.range D).find? (fun i => !bitB bs i) = none := by
    rw [List.find?_eq_none]
    intro j hj
    simp [hl j (by simpa using hj)]
  unfold lowZ
  rw [e]; rfl
/-- How many of the first n are in use. -/
def cntB (bs : List Int) : Nat → Nat
  | 0 => 0
  | n + 1 => cntB bs n + if bitB bs n then 1 else 0
theorem cntB_le (bs : List Int) : ∀ n, cntB bs n ≤ n
  | 0 => Nat.le_refl _
  | n + 1 => by have := cntB_le bs n; unfold cntB; split <;> omega

set_option maxHeartbeats 4000000 in
theorem lowest_any (tx : Option Addr) (l : Lay) (g n c : Nat) (bs : List Int) (tl : List Value) (w : World) (hb : w.heap[g]? = some (bt bs tl)) (hn : bs.length = n) (hy : ∀ x ∈ bs, 0 ≤ x ∧ x ≤ 255) (D : Nat) (hD : l.dl = D) (hD2 : D ≤ 4096) (hDn : (D + 7) / 8 ≤ n) :
    Calls Tryz.prog 43 #[bmV tx l (some ⟨g, 0, none⟩) n c] w fun e w' => e = .returned (.int .i64 (lowZ bs D)) ∧ Below w.heap.size w w' := by
  obtain ⟨W, hW⟩ : ∃ W, w.alloc (.cells (bmA tx l (some ⟨g, 0, none⟩) n c) 96) = W := ⟨_, rfl⟩
  have hbW : Below w.heap.size w W := by rw [← hW]; exact (Below.refl _ w).alloc (Nat.le_refl _) _
  have hM : W.heap[w.heap.size]? = some (.cells (bmA tx l (some ⟨g, 0, none⟩) n c) 96 (0, 0)) := by rw [← hW]; exact heap_alloc_last w _
  have hg : W.heap[g]? = some (bt bs tl) := (hbW.block g (heap_lt hb)).trans hb
  obtain ⟨B, hB⟩ : ∃ B, w.heap.size = B := ⟨_, rfl⟩
  rw [hB] at hM
  have hld := BmLoad.row hM rfl
  obtain ⟨K, hK⟩ : ∃ K, (D + 7) / 8 = K := ⟨_, rfl⟩
  have HK : Hid ((D + 7) / 8 = K) := hK
  have hKn : K ≤ n := by omega
  have hK8 : K ≤ 513 := by omega
  clear hK hDn
  go_enter Tryz.func43, Tryz.ntmps43
  go_wp2_with fail
  try rw [hW]
  go_step3
  go_wp2_with fail
  go_step3
  go_wp2_with fail
  refine (blength_any tx l _ n c W D hD hD2).mono ?_
  rintro e w1 ⟨rfl, b1⟩
  rw [HK.out]
  clear hld
  go_wp2_with fail
  go_loopw [3, 9] (fun f i wr => ∃ a : Nat, a ≤ K ∧ f = .int .i64 (-1) ∧ i = .int .i64 a ∧ Below W.heap.size W wr ∧ ∀ j, j < a * 8 → j < D → bitB bs j = true) (fun _ i _ => K - (intOf i).toNat)
  case atStart => exact ⟨0, Nat.zero_le _, rfl, rfl, b1, fun j hj => by omega⟩
  case round =>
    obtain ⟨a, ha, rfl, rfl, hBr, hall⟩ := hrel
    have hMr := (hBr.block B (heap_lt hM)).trans hM
    have hgr := (hBr.block g (heap_lt hg)).trans hg
    have hld := BmLoad.row hMr rfl
    by_cases hlt : a < K
    · have hai : (a : Int) < K := by omega
      have haD : a * 8 ≤ D := by have := HK.out; omega
      go_wp2_with fail
      refine (bitsAt_any tx l _ n c wr D a hD hD2 haD).mono ?_
      rintro e w2 ⟨rfl, b2⟩
      obtain ⟨m, hm⟩ : ∃ m, min 8 (D - a * 8) = m := ⟨_, rfl⟩
      have HM : Hid (min 8 (D - a * 8) = m) := hm
      have hm8 : m ≤ 8 := by omega
      rw [hm]
      have B2 := hBr.trans (b2.mono hBr.size)
      clear hld hm b2
      go_wp2_with fail
      go_loopw [3, 15] (fun f i wr => ∃ b : Nat, b ≤ m ∧ f = .int .i64 (-1) ∧ i = .int .i64 b ∧ Below W.heap.size W wr ∧ ∀ j, j < a * 8 + b → j < D → bitB bs j = true) (fun _ i _ => m - (intOf i).toNat)
      case atStart => exact ⟨0, Nat.zero_le _, rfl, rfl, B2, hall⟩
      case round =>
        obtain ⟨b, hbm, rfl, rfl, hBs, hall2⟩ := hrel
        have hMs := (hBs.block B (heap_lt hM)).trans hM
        have hgs := (hBs.block g (heap_lt hg)).trans hg
        have hld := BmLoad.row hMs rfl
        by_cases hlt2 : b < m
        · have hbi : (b : Int) < m := by omega
          have hin : a * 8 + b < D := by have := HM.out; omega
          have hH := bhas_any tx l g n c bs tl wr hgs hn hy (a * 8 + b) (by omega) (by omega)
          rw [show (((a * 8 + b : Nat)) : Int) = (a : Int) * 8 + b by omega] at hH
          have HH : Hid (Calls Tryz.prog 46 #[bmV tx l (some ⟨g, 0, none⟩) n c, .int .i64 ((a : Int) * 8 + b)] wr fun e w' => e = .returned (.bool (bitB bs (a * 8 + b))) ∧ Below wr.heap.size wr w') := hH
          clear hH
          go_wp2_with fail
          refine HH.out.mono ?_
          rintro e w3 ⟨rfl, b3⟩
          have B3 := hBs.trans (b3.mono hBs.size)
          clear hld HH
          by_cases hbit : bitB bs (a * 8 + b) = true
          · rw [hbit]
            have HN : Hid (∀ j, j < a * 8 + (b + 1) → j < D → bitB bs j = true) := fun j hj hjD => by
              by_cases e : j = a * 8 + b
              · rw [e]; exact hbit
              · exact hall2 j (by omega) hjD
            go_wp2_with fail
            go_roundw
            case rel => exact ⟨b + 1, by omega, rfl, by go_num, B3, HN.out⟩
            case measure => simp [intOf]; omega
          · have hbf : bitB bs (a * 8 + b) = false := by simpa using hbit
            have HL : Hid (lowZ bs D = ((a * 8 + b : Nat) : Int)) := lowZ_some hin hbf (fun j hj => hall2 j hj (by omega))
            rw [hbf]
            go_wp2_with fail
            try rw [Exit.noGoto_ret]
            go_ret
            exact ⟨by rw [HL.out]; show Ending.returned _ = Ending.returned _; congr 2, hbW.trans (B3.mono hbW.size)⟩
        · obtain rfl : b = m := by omega
          have HN : Hid (∀ j, j < (a + 1) * 8 → j < D → bitB bs j = true) := fun j hj hjD => hall2 j (by have := HM.out; omega) hjD
          clear hld
          go_wp2_with fail
          go_roundw
          case rel => exact ⟨a + 1, by omega, rfl, by go_num, hBs, HN.out⟩
          case measure => simp [intOf]; omega
    · obtain rfl : a = K := by omega
      have HL : Hid (lowZ bs D = -1) := lowZ_none (fun j hj => hall j (by have := HK.out; omega) hj)
      clear hld
      go_wp2_with fail
      try rw [Exit.noGoto_ret]
      go_ret
      exact ⟨by rw [HL.out]; rfl, hbW.trans (hBr.mono hbW.size)⟩

set_option maxHeartbeats 4000000 in
theorem used_any (tx : Option Addr) (l : Lay) (g n c : Nat) (bs : List Int) (tl : List Value) (w : World) (hb : w.heap[g]? = some (bt bs tl)) (hn : bs.length = n) (hy : ∀ x ∈ bs, 0 ≤ x ∧ x ≤ 255) (D : Nat) (hD : l.dl = D) (hD2 : D ≤ 4096) (hDn : (D + 7) / 8 ≤ n) :
    Calls Tryz.prog 47 #[bmV tx l (some ⟨g, 0, none⟩) n c] w fun e w' => e = .returned (.int .i64 (cntB bs D)) ∧ Below w.heap.size w w' := by
  obtain ⟨W, hW⟩ : ∃ W, w.alloc (.cells (bmA tx l (some ⟨g, 0, none⟩) n c) 96) = W := ⟨_, rfl⟩
  have hbW : Below w.heap.size w W := by rw [← hW]; exact (Below.refl _ w).alloc (Nat.le_refl _) _
  have hM : W.heap[w.heap.size]? = some (.cells (bmA tx l (some ⟨g, 0, none⟩) n c) 96 (0, 0)) := by rw [← hW]; exact heap_alloc_last w _
  have hg : W.heap[g]? = some (bt bs tl) := (hbW.block g (heap_lt hb)).trans hb
  obtain ⟨B, hB⟩ : ∃ B, w.heap.size = B := ⟨_, rfl⟩
  rw [hB] at hM
  have hld := BmLoad.row hM rfl
  obtain ⟨K, hK⟩ : ∃ K, (D + 7) / 8 = K := ⟨_, rfl⟩
  have HK : Hid ((D + 7) / 8 = K) := hK
  have hKn : K ≤ n := by omega
  have hK8 : K ≤ 513 := by omega
  clear hK hDn
  go_enter Tryz.func47, Tryz.ntmps47
  go_wp2_with fail
  try rw [hW]
  refine (blength_any tx l _ n c W D hD hD2).mono ?_
  rintro e w1 ⟨rfl, b1⟩
  rw [HK.out]
  clear hld
  go_wp2_with fail
  go_loopw [3, 8] (fun f i wr => ∃ a : Nat, a ≤ K ∧ f = .int .i64 (cntB bs (min (a * 8) D)) ∧ i = .int .i64 a ∧ Below W.heap.size W wr) (fun _ i _ => K - (intOf i).toNat)
  case atStart => exact ⟨0, Nat.zero_le _, by simp [cntB], rfl, b1⟩
  case round =>
    obtain ⟨a, ha, rfl, rfl, hBr⟩ := hrel
    have hMr := (hBr.block B (heap_lt hM)).trans hM
    have hgr := (hBr.block g (heap_lt hg)).trans hg
    have hld := BmLoad.row hMr rfl
    by_cases hlt : a < K
    · have hai : (a : Int) < K := by omega
      have haD : a * 8 ≤ D := by have := HK.out; omega
      go_wp2_with fail
      refine (bitsAt_any tx l _ n c wr D a hD hD2 haD).mono ?_
      rintro e w2 ⟨rfl, b2⟩
      obtain ⟨m, hm⟩ : ∃ m, min 8 (D - a * 8) = m := ⟨_, rfl⟩
      have HM : Hid (min 8 (D - a * 8) = m) := hm
      have hm8 : m ≤ 8 := by omega
      rw [hm]
      have B2 := hBr.trans (b2.mono hBr.size)
      clear hld hm b2
      go_wp2_with fail
      go_loopw [3, 14] (fun f i wr => ∃ b : Nat, b ≤ m ∧ f = .int .i64 (cntB bs (a * 8 + b)) ∧ i = .int .i64 b ∧ Below W.heap.size W wr) (fun _ i _ => m - (intOf i).toNat)
      case atStart => exact ⟨0, Nat.zero_le _, by rw [Nat.add_zero], rfl, B2⟩
      case round =>
        obtain ⟨b, hbm, rfl, rfl, hBs⟩ := hrel
        have hMs := (hBs.block B (heap_lt hM)).trans hM
        have hgs := (hBs.block g (heap_lt hg)).trans hg
        have hld := BmLoad.row hMs rfl
        by_cases hlt2 : b < m
        · have hbi : (b : Int) < m := by omega
          have hin : a * 8 + b < D := by have := HM.out; omega
          have hH := bhas_any tx l g n c bs tl wr hgs hn hy (a * 8 + b) (by omega) (by omega)
          rw [show (((a * 8 + b : Nat)) : Int) = (a : Int) * 8 + b by omega] at hH
          have HH : Hid (Calls Tryz.prog 46 #[bmV tx l (some ⟨g, 0, none⟩) n c, .int .i64 ((a : Int) * 8 + b)] wr fun e w' => e = .returned (.bool (bitB bs (a * 8 + b))) ∧ Below wr.heap.size wr w') := hH
          clear hH
          go_wp2_with fail
          refine HH.out.mono ?_
          rintro e w3 ⟨rfl, b3⟩
          have B3 := hBs.trans (b3.mono hBs.size)
          clear hld HH
          have hle := cntB_le bs (a * 8 + b)
          by_cases hbit : bitB bs (a * 8 + b) = true
          · rw [hbit]
            have HN : Hid (((cntB bs (a * 8 + b) : Nat) : Int) + 1 = (cntB bs (a * 8 + (b + 1)) : Nat)) := by show _ = _; rw [← Nat.add_assoc]; simp [cntB, hbit]
            obtain ⟨C, hC⟩ : ∃ C, cntB bs (a * 8 + b) = C := ⟨_, rfl⟩
            rw [hC] at HN hle ⊢
            have hCi : (C : Int) ≤ 100000 := by omega
            clear hC
            go_wp2_with fail
            go_roundw
            case rel => exact ⟨b + 1, by omega, by rw [← HN.out], by go_num, B3⟩
            case measure => simp [intOf]; omega
          · have hbf : bitB bs (a * 8 + b) = false := by simpa using hbit
            have HN : Hid (cntB bs (a * 8 + b) = cntB bs (a * 8 + (b + 1))) := by show _ = _; rw [← Nat.add_assoc]; simp [cntB, hbf]
            rw [hbf]
            go_wp2_with fail
            go_roundw
            case rel => exact ⟨b + 1, by omega, by rw [← HN.out], by go_num, B3⟩
            case measure => simp [intOf]; omega
        · obtain rfl : b = m := by omega
          have HN : Hid (a * 8 + b = min ((a + 1) * 8) D) := by have := HM.out; show _ = _; omega
          clear hld
          go_wp2_with fail
          go_roundw
          case rel => exact ⟨a + 1, by omega, by rw [HN.out], by go_num, hBs⟩
          case measure => simp [intOf]; omega
    · obtain rfl : a = K := by omega
      have HL : Hid (cntB bs (min (a * 8) D) = cntB bs D) := by have := HK.out; show _ = _; rw [show min (a * 8) D = D by omega]
      clear hld
      go_wp2_with fail
      go_ret
      exact ⟨by rw [← HL.out]; rfl, hbW.trans (hBr.mono hbW.size)⟩
end Go.Proofs.YtfmcbjlagdanjaaGreatDoor

/- A transaction that has ended: close, Drop, Commit of nothing, Read by their contracts. -/
namespace Go.Proofs.YtfmcbjlagdanjaaGreatDoor
open Go.RowKit Go.Maps
set_option maxRecDepth 100000

/-- A transaction that is not open any more. -/
def Td (w : World) (tb : Nat) : Prop := w.heap[tb]? = some (.cells #[.pointer none, .map none, .slice none 0 0, .int .i64 0] 108)
set_option maxHeartbeats 1000000 in
theorem close_ok {w : World} {tb jb wm d st sz : Nat} {sv : Value} {last seq place free : Int} {bm : Nat} (hT : Tb w tb jb wm sv last) (hJ : Jb w jb d st sz seq place free bm (some tb)) (hne : tb ≠ jb) :
    Calls Tryz.prog 51 #[.pointer (some ⟨tb, 0, none⟩)] w fun e w' => e = .returned (.tuple #[]) ∧ Td w' tb ∧ Jb w' jb d st sz seq place free bm none ∧ Turns (fun i => i = tb ∨ i = jb) w w' := by
  have t0 := hT.cells.c0
  have c7 := hJ.cells.c7
  have f7 := hJ.cells.fz 7
  have JV := hJ.opened none
  have TV := Turns.cell w jb 7 (.pointer ((none : Option Nat).map fun t => (⟨t, 0, none⟩ : Addr)))
  obtain ⟨V, hV⟩ : ∃ V, w.setCell ⟨jb, 7, none⟩ (.pointer none) = V := ⟨_, rfl⟩
  have JV : Jb V jb d st sz seq place free bm none := by rw [← hV]; exact JV
  have TV : Turns (fun i => i = jb) w V := by rw [← hV]; exact TV
  have T2 : Tb V tb jb wm sv last := (TV.block tb (heap_lt hT) hne).trans hT
  obtain ⟨v0, v1, v2, v3, vz⟩ := T2.cells
  have z0 := vz 0
  have z1 := vz 1
  have z2 := vz 2
  have z3 := vz 3
  go_enter Tryz.func51, Tryz.ntmps51
  go_wp2_with fail
  first | go_end0 | refine bodyPost_ret (results_none rfl _ _ _) rfl ?_
  have e1 := heap_setCell_same _ tb 0 _ _ (.pointer none) T2
  have e2 := heap_setCell_same _ tb 1 _ _ (.map none) e1
  have e3 := heap_setCell_same _ tb 2 _ _ (.slice none 0 0) e2
  have e4 := heap_setCell_same _ tb 3 _ _ (.int .i64 0) e3
  have TT := (((Turns.cell V tb 0 (.pointer none)).trans (Turns.cell _ tb 1 (.map none)) (fun _ _ h => h)).trans (Turns.cell _ tb 2 (.slice none 0 0)) (fun _ _ h => h)).trans (Turns.cell _ tb 3 (.int .i64 0)) (fun _ _ h => h)
  exact ⟨rfl, e4, (TT.block jb (heap_lt JV) (fun e => hne e.symm)).trans JV, (TV.mono (fun _ _ => Or.inr)).trans TT (fun _ _ => Or.inl)⟩
theorem drop_ok {w : World} {tb jb wm d st sz : Nat} {sv : Value} {last seq place free : Int} {bm : Nat} (hT : Tb w tb jb wm sv last) (hJ : Jb w jb d st sz seq place free bm (some tb)) (hne : tb ≠ jb) :
    Calls Tryz.prog 20 #[.pointer (some ⟨tb, 0, none⟩)] w fun e w' => e = .returned (.tuple #[]) ∧ Td w' tb ∧ Jb w' jb d st sz seq place free bm none ∧ Turns (fun i => i = tb ∨ i = jb) w w' := by
  have t0 := hT.cells.c0
  go_enter Tryz.func20, Tryz.ntmps20
  go_wp2_with fail
  refine (close_ok hT hJ hne).mono ?_
  rintro e w1 ⟨rfl, h1, h2, h3⟩
  go_wp2
  first | go_end0 | refine bodyPost_ret (results_none rfl _ _ _) rfl ?_
  exact ⟨rfl, h1, h2, h3⟩
set_option maxHeartbeats 1000000 in
theorem commit_none {w : World} {d : Nat} {S : DevS} {k N n : Nat} {G : Nat → Prop} (hD : Dev w d 0 S k N G) {tb jb wm st sz : Nat} {sv : Value} {last seq place free : Int} {bm : Nat} (hT : Tb w tb jb wm sv last) (hJ : Jb w jb d st sz seq place free bm (some tb)) (hM : Mp w wm n []) (hne : tb ≠ jb) (htm : tb ≠ wm) (hjm : jb ≠ wm) (hjG : ¬ G jb) (htG : ¬ G tb) (hmG : ¬ G wm) (ho : S.off = false) :
    Calls Tryz.prog 19 #[.pointer (some ⟨tb, 0, none⟩)] w fun e w' => e = .returned (.int .i64 0) ∧ Td w' tb ∧ Jb w' jb d st sz seq place free bm none ∧ Dev w' d 0 S k N G ∧ Turns (fun i => G i ∨ i = tb ∨ i = jb) w w' := by
  have t0 := hT.cells.c0
  have t1 := hT.cells.c1
  go_enter Tryz.func19, Tryz.ntmps19
  go_wp2_with fail
  go_quiet (fail)
  go_wp2_with fail
  refine (close_ok (w := w.drewN _) hT hJ hne).mono ?_
  rintro e w1 ⟨rfl, T1, J1, u1⟩
  have u1 : Turns (fun i => i = tb ∨ i = jb) w w1 := (Turns.drewN _ w _).trans u1 (fun _ _ h => h)
  have D1 := hD.turns u1 (fun i hi h => h.elim (fun e => htG (e ▸ hi)) (fun e => hjG (e ▸ hi)))
  have M1 := hM.turns u1 (fun h => h.elim (fun e => htm e.symm) (fun e => hjm e.symm))
  clear t0 t1
  go_wp2_with fail
  refine (power_ok D1 J1 ho).mono ?_
  rintro e w2 ⟨rfl, q2⟩
  have M2 := M1.turns q2.2 hmG
  have T2 : Td w2 tb := (q2.2.block tb (heap_lt T1) htG).trans T1
  have J2 : Jb w2 jb d st sz seq place free bm none := (q2.2.block jb (heap_lt J1) hjG).trans J1
  have hown := M2.own
  have hsz : (Maps.size (mD []) : Int) = 0 := by simp [mD, Maps.size_eq]
  have hln := fun ty => hown.len Tryz.underlying105 ty
  simp only [hsz] at hln
  have tt : Turns (fun i => G i ∨ i = tb ∨ i = jb) w w2 := (u1.mono (fun _ _ h => Or.inr h)).trans q2.2 (fun _ _ h => Or.inl h)
  have D2 := q2.1
  clear D1 M1 T1 J1 u1 q2 hown hsz
  go_wp2_with fail
  go_ret
  exact ⟨rfl, T2, J2, D2, tt⟩
theorem txRead_end {w : World} {tb : Nat} (hT : Td w tb) (b : Int) :
    Calls Tryz.prog 36 #[.pointer (some ⟨tb, 0, none⟩), .int .i64 b] w fun e w' => e = .returned (.tuple #[.slice none 0 0, .int .i64 76]) ∧ w' = w := by
  have t0 : w.cell? ⟨tb, 0, none⟩ = some (.pointer none) := by unfold Td at hT; simp [World.cell?, hT]
  go_enter Tryz.func36, Tryz.ntmps36
  go_wp2
  refine bodyPost_ret (results_tmp2 rfl _ _ _) rfl ?_
  exact ⟨rfl, rfl⟩
end Go.Proofs.YtfmcbjlagdanjaaGreatDoor

/- turn by its contract: a bit turned over, the block written within the transaction. -/
namespace Go.Proofs.YtfmcbjlagdanjaaGreatDoor
open Go.RowKit Go.Maps
set_option maxRecDepth 100000

/-- The bytes with one bit turned over. -/
def flipB (bs : List Int) (i : Nat) : List Int := bs.set (i / 8) (((bs.getD (i / 8) 0).toNat ^^^ 2 ^ (i % 8) : Nat) : Int)
theorem flipB_length (bs : List Int) (i : Nat) : (flipB bs i).length = bs.length := by simp [flipB]
theorem flipB_bytes {bs : List Int} (hy : ∀ x ∈ bs, 0 ≤ x ∧ x ≤ 255) (i : Nat) (hi : i / 8 < bs.length) : ∀ x ∈ flipB bs i, 0 ≤ x ∧ x ≤ 255 := by
  intro x hx
  rcases List.mem_or_eq_of_mem_set hx with h | rfl
  · exact hy x h
  · have hm : bs.getD (i / 8) 0 ∈ bs := by
      rw [List.getD_eq_getElem?_getD, List.getElem?_eq_getElem hi]
      exact List.getElem_mem _
    have h1 := hy _ hm
    have h2 : (bs.getD (i / 8) 0).toNat < 2 ^ 8 := by omega
    have h3 : 2 ^ (i % 8) < 2 ^ 8 := Nat.pow_lt_pow_right (by decide) (by omega)
    have := Nat.xor_lt_two_pow h2 h3
    omega
theorem bitB_flip (bs : List Int) (i j : Nat) (hi : i / 8 < bs.length) : bitB (flipB bs i) j = if j = i then !bitB bs i else bitB bs j := by
  unfold bitB flipB
  by_cases e : j / 8 = i / 8
  · rw [e, List.getD_eq_getElem?_getD, List.getElem?_set_self hi]
    simp only [Option.getD_some, Int.toNat_natCast, Nat.testBit_xor, Nat.testBit_two_pow]
    by_cases e2 : j = i
    · subst e2; simp
    · have : ¬ i % 8 = j % 8 := by omega
      simp [this, e2]
  · have : ¬ j = i := fun h => e (by rw [h])
    rw [if_neg this, List.getD_eq_getElem?_getD, List.getElem?_set_ne (fun h => e h.symm), ← List.getD_eq_getElem?_getD]
theorem bt_set {w : World} {g : Nat} {bs : List Int} {tl : List Value} (h : w.heap[g]? = some (bt bs tl)) (q : Nat) (hq : q < bs.length) (x : Int) : (w.setCell ⟨g, q, none⟩ (.int .u8 x)).heap[g]? = some (bt (bs.set q x) tl) := by
  rw [heap_setCell_same _ _ _ _ _ _ h]
  show some (Obj.cells _ _ _) = some (Obj.cells _ _ _)
  congr 2
  apply Array.toList_inj.1
  have hq2 : q < bs.length + tl.length := by omega
  simp [Array.setIfInBounds, hq, hq2]

set_option maxHeartbeats 4000000 in
theorem turn_ok {w : World} {d : Nat} {S : DevS} {k N n0 : Nat} {G : Nat → Prop} (hD : Dev w d 0 S k N G) {jb st sz tb wm : Nat} {seq place free last : Int} {bm : Nat} {sv : Value} {m : List (Nat × Nat)} (hJ : Jb w jb d st sz seq place free bm (some tb)) (hT : Tb w tb jb wm sv last) (hM : Mp w wm n0 m) (hjG : ¬ G jb) (htG : ¬ G tb) (hmG : ¬ G wm) (htm : tb ≠ wm) (ho : S.off = false) (hst : st + sz ≤ k)
    (l : Lay) (b : Nat) (hlb : l.bi = b) (hb : b < k) (hout : b < st ∨ st + sz ≤ b) (hroom : (lk m b).isSome = true ∨ m.length < 24) (hn0 : n0 ≤ 1000000)
    (g c : Nat) (bs : List Int) (tl : List Value) (hg : w.heap[g]? = some (bt bs tl)) (hn : bs.length = 512) (hc : 512 ≤ c) (hy : ∀ x ∈ bs, 0 ≤ x ∧ x ≤ 255) (hgG : ¬ G g) (hgj : g ≠ jb) (hgt : g ≠ tb) (hgm : g ≠ wm) (i : Nat) (hi : i < 4096) :
    Calls Tryz.prog 44 #[bmV (some ⟨tb, 0, none⟩) l (some ⟨g, 0, none⟩) 512 c, .int .i64 i] w fun e w' => ∃ g', e = .returned (.int .i64 0) ∧ w.heap.size ≤ g' ∧ w'.heap[g']? = some (bl (flipB bs i)) ∧ Mp w' wm (n0 + 1) (mput m b g') ∧ Dev w' d 0 S k N G ∧ Turns (fun i => G i ∨ i = wm ∨ i = g) w w' := by
  obtain ⟨q, hq⟩ : ∃ q, i / 8 = q := ⟨_, rfl⟩
  obtain ⟨r, hr⟩ : ∃ r, i % 8 = r := ⟨_, rfl⟩
  have hr8 : r < 8 := by omega
  have hq5 : q < 512 := by omega
  have hx := bt_cell hg q (by omega)
  have hxm : bs.getD q 0 ∈ bs := by
    rw [List.getD_eq_getElem?_getD, List.getElem?_eq_getElem (by omega)]
    exact List.getElem_mem _
  obtain ⟨y, hy1, hy2⟩ : ∃ y : Nat, bs.getD q 0 = y ∧ y < 256 := ⟨(bs.getD q 0).toNat, by have := hy _ hxm; omega, by have := hy _ hxm; omega⟩
  have hA := xor_bit ⟨y, hy2⟩ ⟨r, hr8⟩
  simp only at hA
  obtain ⟨z, hz⟩ : ∃ z, y ^^^ 2 ^ r = z := ⟨_, rfl⟩
  rw [hz] at hA
  have HE : Hid (flipB bs i = bs.set q (z : Int)) := by show _ = _; unfold flipB; rw [hq, hr, hy1, ← hz]; simp
  have hqi : (i : Int) / 8 = q := by omega
  have hri : (i : Int) % 8 = r := by omega
  have hqz : (q : Int) / 512 = 0 := by omega
  rw [hy1] at hx
  obtain ⟨W, hW⟩ : ∃ W, w.alloc (.cells (bmA (some ⟨tb, 0, none⟩) l (some ⟨g, 0, none⟩) 512 c) 96) = W := ⟨_, rfl⟩
  have hbW : Below w.heap.size w W := by rw [← hW]; exact (Below.refl _ w).alloc (Nat.le_refl _) _
  have cT : W.cell? ⟨w.heap.size, 0, none⟩ = some (.pointer (some ⟨tb, 0, none⟩)) := by rw [← hW]; simp
  have cI : W.cell? ⟨w.heap.size, 6, none⟩ = some (.int .i64 (b : Int)) := by rw [← hW, ← hlb]; simp
  have cB : W.cell? ⟨w.heap.size, 21, none⟩ = some (.slice (some ⟨g, 0, none⟩) 512 c) := by rw [← hW]; simp
  have cX : W.cell? ⟨g, q, none⟩ = some (.int .u8 (y : Int)) := (hbW.cell (World.block_lt_of_cell? w _ hx)).trans hx
  have gW : W.heap[g]? = some (bt bs tl) := (hbW.block g (heap_lt hg)).trans hg
  have fX : W.frozen? ⟨g, q, none⟩ = false := by simp [World.frozen?, gW]
  have hqn : (q : Int) < 512 := by omega
  have hgl := heap_lt hg
  have hgw : g ≠ w.heap.size := by omega
  have hW' : w.alloc (.cells #[.pointer (some ⟨tb, 0, none⟩), .int .i64 l.bo, .int .i64 l.jr, .int .i64 l.jl, .int .i64 l.le, .int .i64 l.ll, .int .i64 l.bi, .int .i64 l.bl, .int .i64 l.ta, .int .i64 l.tl, .int .i64 l.dt, .int .i64 l.dl, .int .i64 l.to, .int .i64 l.sh.cl, .int .i64 l.sh.wi, .int .i64 l.sh.pl, .int .i64 l.sh.ca, .int .i64 l.sh.ino, .int .i64 l.sh.qu, .int .i64 l.sh.da, .int .i64 l.sh.jo, .slice (some ⟨g, 0, none⟩) 512 c] 96) = W := hW
  have u0 : Turns (fun i => i = g) W (W.setCell ⟨g, q, none⟩ (.int .u8 (z : Int))) := Turns.cell W g q _
  have g0 : (W.setCell ⟨g, q, none⟩ (.int .u8 (z : Int))).heap[g]? = some (bt (bs.set q (z : Int)) tl) := bt_set gW q (by omega) _
  have v0 : (W.setCell ⟨g, q, none⟩ (.int .u8 (z : Int))).cell? ⟨w.heap.size, 0, none⟩ = some (.pointer (some ⟨tb, 0, none⟩)) := by rw [World.cell?_setCell_far _ _ _ _ hgw]; exact cT
  have v6 : (W.setCell ⟨g, q, none⟩ (.int .u8 (z : Int))).cell? ⟨w.heap.size, 6, none⟩ = some (.int .i64 (b : Int)) := by rw [World.cell?_setCell_far _ _ _ _ hgw]; exact cI
  have v21 : (W.setCell ⟨g, q, none⟩ (.int .u8 (z : Int))).cell? ⟨w.heap.size, 21, none⟩ = some (.slice (some ⟨g, 0, none⟩) 512 c) := by rw [World.cell?_setCell_far _ _ _ _ hgw]; exact cB
  obtain ⟨V, hV⟩ : ∃ V, (W.setCell ⟨g, q, none⟩ (.int .u8 (z : Int))).drew = V := ⟨_, rfl⟩
  have gV : V.drew.heap[g]? = some (bt (bs.set q (z : Int)) tl) := by rw [← hV]; exact g0
  have uV : Turns (fun i => i = g) W V := by rw [← hV]; exact u0.trans (Turns.drewN _ _ 1) (fun _ _ h => h)
  have vT : V.cell? ⟨w.heap.size, 0, none⟩ = some (.pointer (some ⟨tb, 0, none⟩)) := by rw [← hV]; exact v0
  have vI : V.cell? ⟨w.heap.size, 6, none⟩ = some (.int .i64 (b : Int)) := by rw [← hV]; exact v6
  have vB : V.cell? ⟨w.heap.size, 21, none⟩ = some (.slice (some ⟨g, 0, none⟩) 512 c) := by rw [← hV]; exact v21
  clear u0 g0 v0 v6 v21
  have UV : Turns (fun i => i = g) w V := (Below.turns hbW (fun i => i = g)).trans uV (fun _ _ h => h)
  have UD : Turns (fun i => i = g) w V.drew := UV.trans (Turns.drewN _ V 1) (fun _ _ h => h)
  have DV := hD.turns UD (fun i hi e => hgG (e ▸ hi))
  have JV : Jb V.drew jb d st sz seq place free bm (some tb) := (UD.block jb (heap_lt hJ) (fun e => hgj e.symm)).trans hJ
  have TV : Tb V.drew tb jb wm sv last := (UD.block tb (heap_lt hT) (fun e => hgt e.symm)).trans hT
  have MV := hM.turns UD (fun e => hgm e.symm)
  have LV := Lies.bt gV (n := 512) (c := c) (by simp [hn]) hc
  have sV := UD.size
  have hFl := hD.lt
  have hml := hM.lt
  have sW : W.heap.size = w.heap.size + 1 := by rw [← hW]; simp
  have sVW := uV.size
  have HW : Hid (Calls Tryz.prog 104 #[.pointer (some ⟨tb, 0, none⟩), .int .i64 b, .slice (some ⟨g, 0, none⟩) 512 c] V.drew fun e w' => ∃ g', (e = .returned (.int .i64 0) ∧ V.drew.heap.size ≤ g' ∧ w'.heap[g']? = some (bl (bs.set q (z : Int))) ∧ Mp w' wm (n0 + 1) (mput m b g') ∧ Dev w' d 0 S k N G ∧ Turns (fun i => G i ∨ i = wm) V.drew w') ∧ w'.cell? ⟨w.heap.size, 0, none⟩ = some (.pointer (some ⟨tb, 0, none⟩)) ∧ w'.cell? ⟨w.heap.size, 6, none⟩ = some (.int .i64 (b : Int)) ∧ w'.cell? ⟨w.heap.size, 21, none⟩ = some (.slice (some ⟨g, 0, none⟩) 512 c)) := by
    refine (txWrite_ok DV JV TV MV hjG htG hmG htm ho hst b hb hout (some ⟨g, 0, none⟩) c (bs.set q (z : Int)) LV (fun ad e => by obtain rfl := Option.some.inj e; exact hgG) hroom hn0).mono ?_
    rintro e w' ⟨g', h1, h2, h3, h4, h5, h6⟩
    have hx : ¬ (G w.heap.size ∨ w.heap.size = wm) := fun h => h.elim (fun h => by have := hFl _ h; omega) (fun h => by omega)
    have hlt : w.heap.size < V.drew.heap.size := by show w.heap.size < V.heap.size; omega
    have hbl : w'.heap[w.heap.size]? = V.heap[w.heap.size]? := h6.block _ hlt hx
    have hce : ∀ o, w'.cell? ⟨w.heap.size, o, none⟩ = V.cell? ⟨w.heap.size, o, none⟩ := fun o => by simp only [World.cell?, hbl]
    exact ⟨g', ⟨h1, h2, h3, h4, h5, h6⟩, (hce _).trans vT, (hce _).trans vI, (hce _).trans vB⟩
  have vT1 : V.drew.cell? ⟨w.heap.size, 0, none⟩ = some (.pointer (some ⟨tb, 0, none⟩)) := vT
  have vI1 : V.drew.cell? ⟨w.heap.size, 6, none⟩ = some (.int .i64 (b : Int)) := vI
  have vB1 : V.drew.cell? ⟨w.heap.size, 21, none⟩ = some (.slice (some ⟨g, 0, none⟩) 512 c) := vB
  have hci : (512 : Int) ≤ (c : Int) := by omega
  have hcn : ¬ (c : Int) < 512 := by omega
  have hc0 : ¬ c = 0 := by omega
  have wr0 : IntKind.i64.wrap 0 = 0 := Go.IntWalk.i64_in _ ⟨by omega, by omega⟩
  have wr1 : IntKind.i64.wrap 1 = 1 := Go.IntWalk.i64_in _ ⟨by omega, by omega⟩
  have wr5 : IntKind.i64.wrap 512 = 512 := Go.IntWalk.i64_in _ ⟨by omega, by omega⟩
  have hwr : IntKind.i64.wrap (b : Int) = b := Go.IntWalk.i64_in _ ⟨by have := hD.good.top; omega, by have := hD.good.top; omega⟩
  have hk := hD.good.top
  have hbk : b < 4096 := by omega
  clear hW hx hg hy hxm hy1 hq hr hi hz hy2 gW DV JV TV MV LV hD hJ hT hM hroom hout hst cT cI
  rcases (show r = 0 ∨ r = 1 ∨ r = 2 ∨ r = 3 ∨ r = 4 ∨ r = 5 ∨ r = 6 ∨ r = 7 by omega) with rfl | rfl | rfl | rfl | rfl | rfl | rfl | rfl
  · have hA' : bits BinOp.xor IntKind.u8 (y : Int) 1 = (z : Int) := hA
    clear hA
    go_enter Tryz.func44, Tryz.ntmps44
    go_wp2_with fail
    try rw [hW']
    go_region
    try rw [hV]
    go_wp2_with fail
    go_region_held3 (fun w' => w'.cell? ⟨w.heap.size, 0, none⟩ = some (.pointer (some ⟨tb, 0, none⟩)) ∧ w'.cell? ⟨w.heap.size, 6, none⟩ = some (.int .i64 (b : Int)) ∧ w'.cell? ⟨w.heap.size, 21, none⟩ = some (.slice (some ⟨g, 0, none⟩) 512 c))
      (first | exact ⟨vT, vI, vB⟩ | exact ⟨vT1, vI1, vB1⟩ | exact cs2)
      (first
        | (go_at_call 104; refine HW.out.mono ?_; rintro e w2 ⟨g', ⟨rfl, l2, h2, M2, D2, t2⟩, cs2⟩))
    clear HW
    go_wp2
    go_ret
    exact ⟨g', rfl, by omega, by rw [HE.out]; exact h2, M2, D2, (UD.mono (fun _ _ h => Or.inr (Or.inr h))).trans t2 (fun _ _ h => h.elim Or.inl (fun h => Or.inr (Or.inl h)))⟩
  · have hA' : bits BinOp.xor IntKind.u8 (y : Int) 2 = (z : Int) := hA
    clear hA
    go_enter Tryz.func44, Tryz.ntmps44
    go_wp2_with fail
    try rw [hW']
    go_region
    try rw [hV]
    go_wp2_with fail
    go_region_held3 (fun w' => w'.cell? ⟨w.heap.size, 0, none⟩ = some (.pointer (some ⟨tb, 0, none⟩)) ∧ w'.cell? ⟨w.heap.size, 6, none⟩ = some (.int .i64 (b : Int)) ∧ w'.cell? ⟨w.heap.size, 21, none⟩ = some (.slice (some ⟨g, 0, none⟩) 512 c))
      (first | exact ⟨vT, vI, vB⟩ | exact ⟨vT1, vI1, vB1⟩ | exact cs2)
      (first
        | (go_at_call 104; refine HW.out.mono ?_; rintro e w2 ⟨g', ⟨rfl, l2, h2, M2, D2, t2⟩, cs2⟩))
    clear HW
    go_wp2
    go_ret
    exact ⟨g', rfl, by omega, by rw [HE.out]; exact h2, M2, D2, (UD.mono (fun _ _ h => Or.inr (Or.inr h))).trans t2 (fun _ _ h => h.elim Or.inl (fun h => Or.inr (Or.inl h)))⟩
  · have hA' : bits BinOp.xor IntKind.u8 (y : Int) 4 = (z : Int) := hA
    clear hA
    go_enter Tryz.func44, Tryz.ntmps44
    go_wp2_with fail
    try rw [hW']
    go_region
    try rw [hV]
    go_wp2_with fail
    go_region_held3 (fun w' => w'.cell? ⟨w.heap.size, 0, none⟩ = some (.pointer (some ⟨tb, 0, none⟩)) ∧ w'.cell? ⟨w.heap.size, 6, none⟩ = some (.int .i64 (b : Int)) ∧ w'.cell? ⟨w.heap.size, 21, none⟩ = some (.slice (some ⟨g, 0, none⟩) 512 c))
      (first | exact ⟨vT, vI, vB⟩ | exact ⟨vT1, vI1, vB1⟩ | exact cs2)
      (first
        | (go_at_call 104; refine HW.out.mono ?_; rintro e w2 ⟨g', ⟨rfl, l2, h2, M2, D2, t2⟩, cs2⟩))
    clear HW
    go_wp2
    go_ret
    exact ⟨g', rfl, by omega, by rw [HE.out]; exact h2, M2, D2, (UD.mono (fun _ _ h => Or.inr (Or.inr h))).trans t2 (fun _ _ h => h.elim Or.inl (fun h => Or.inr (Or.inl h)))⟩
  · have hA' : bits BinOp.xor IntKind.u8 (y : Int) 8 = (z : Int) := hA
    clear hA
    go_enter Tryz.func44, Tryz.ntmps44
    go_wp2_with fail
    try rw [hW']
    go_region
    try rw [hV]
    go_wp2_with fail
    go_region_held3 (fun w' => w'.cell? ⟨w.heap.size, 0, none⟩ = some (.pointer (some ⟨tb, 0, none⟩)) ∧ w'.cell? ⟨w.heap.size, 6, none⟩ = some (.int .i64 (b : Int)) ∧ w'.cell? ⟨w.heap.size, 21, none⟩ = some (.slice (some ⟨g, 0, none⟩) 512 c))
      (first | exact ⟨vT, vI, vB⟩ | exact ⟨vT1, vI1, vB1⟩ | exact cs2)
      (first
        | (go_at_call 104; refine HW.out.mono ?_; rintro e w2 ⟨g', ⟨rfl, l2, h2, M2, D2, t2⟩, cs2⟩))
    clear HW
    go_wp2
    go_ret
    exact ⟨g', rfl, by omega, by rw [HE.out]; exact h2, M2, D2, (UD.mono (fun _ _ h => Or.inr (Or.inr h))).trans t2 (fun _ _ h => h.elim Or.inl (fun h => Or.inr (Or.inl h)))⟩
  · have hA' : bits BinOp.xor IntKind.u8 (y : Int) 16 = (z : Int) := hA
    clear hA
    go_enter Tryz.func44, Tryz.ntmps44
    go_wp2_with fail
    try rw [hW']
    go_region
    try rw [hV]
    go_wp2_with fail
    go_region_held3 (fun w' => w'.cell? ⟨w.heap.size, 0, none⟩ = some (.pointer (some ⟨tb, 0, none⟩)) ∧ w'.cell? ⟨w.heap.size, 6, none⟩ = some (.int .i64 (b : Int)) ∧ w'.cell? ⟨w.heap.size, 21, none⟩ = some (.slice (some ⟨g, 0, none⟩) 512 c))
      (first | exact ⟨vT, vI, vB⟩ | exact ⟨vT1, vI1, vB1⟩ | exact cs2)
      (first
        | (go_at_call 104; refine HW.out.mono ?_; rintro e w2 ⟨g', ⟨rfl, l2, h2, M2, D2, t2⟩, cs2⟩))
    clear HW
    go_wp2
    go_ret
    exact ⟨g', rfl, by omega, by rw [HE.out]; exact h2, M2, D2, (UD.mono (fun _ _ h => Or.inr (Or.inr h))).trans t2 (fun _ _ h => h.elim Or.inl (fun h => Or.inr (Or.inl h)))⟩
  · have hA' : bits BinOp.xor IntKind.u8 (y : Int) 32 = (z : Int) := hA
    clear hA
    go_enter Tryz.func44, Tryz.ntmps44
    go_wp2_with fail
    try rw [hW']
    go_region
    try rw [hV]
    go_wp2_with fail
    go_region_held3 (fun w' => w'.cell? ⟨w.heap.size, 0, none⟩ = some (.pointer (some ⟨tb, 0, none⟩)) ∧ w'.cell? ⟨w.heap.size, 6, none⟩ = some (.int .i64 (b : Int)) ∧ w'.cell? ⟨w.heap.size, 21, none⟩ = some (.slice (some ⟨g, 0, none⟩) 512 c))
      (first | exact ⟨vT, vI, vB⟩ | exact ⟨vT1, vI1, vB1⟩ | exact cs2)
      (first
        | (go_at_call 104; refine HW.out.mono ?_; rintro e w2 ⟨g', ⟨rfl, l2, h2, M2, D2, t2⟩, cs2⟩))
    clear HW
    go_wp2
    go_ret
    exact ⟨g', rfl, by omega, by rw [HE.out]; exact h2, M2, D2, (UD.mono (fun _ _ h => Or.inr (Or.inr h))).trans t2 (fun _ _ h => h.elim Or.inl (fun h => Or.inr (Or.inl h)))⟩
  · have hA' : bits BinOp.xor IntKind.u8 (y : Int) 64 = (z : Int) := hA
    clear hA
    go_enter Tryz.func44, Tryz.ntmps44
    go_wp2_with fail
    try rw [hW']
    go_region
    try rw [hV]
    go_wp2_with fail
    go_region_held3 (fun w' => w'.cell? ⟨w.heap.size, 0, none⟩ = some (.pointer (some ⟨tb, 0, none⟩)) ∧ w'.cell? ⟨w.heap.size, 6, none⟩ = some (.int .i64 (b : Int)) ∧ w'.cell? ⟨w.heap.size, 21, none⟩ = some (.slice (some ⟨g, 0, none⟩) 512 c))
      (first | exact ⟨vT, vI, vB⟩ | exact ⟨vT1, vI1, vB1⟩ | exact cs2)
      (first
        | (go_at_call 104; refine HW.out.mono ?_; rintro e w2 ⟨g', ⟨rfl, l2, h2, M2, D2, t2⟩, cs2⟩))
    clear HW
    go_wp2
    go_ret
    exact ⟨g', rfl, by omega, by rw [HE.out]; exact h2, M2, D2, (UD.mono (fun _ _ h => Or.inr (Or.inr h))).trans t2 (fun _ _ h => h.elim Or.inl (fun h => Or.inr (Or.inl h)))⟩
  · have hA' : bits BinOp.xor IntKind.u8 (y : Int) 128 = (z : Int) := hA
    clear hA
    go_enter Tryz.func44, Tryz.ntmps44
    go_wp2_with fail
    try rw [hW']
    go_region
    try rw [hV]
    go_wp2_with fail
    go_region_held3 (fun w' => w'.cell? ⟨w.heap.size, 0, none⟩ = some (.pointer (some ⟨tb, 0, none⟩)) ∧ w'.cell? ⟨w.heap.size, 6, none⟩ = some (.int .i64 (b : Int)) ∧ w'.cell? ⟨w.heap.size, 21, none⟩ = some (.slice (some ⟨g, 0, none⟩) 512 c))
      (first | exact ⟨vT, vI, vB⟩ | exact ⟨vT1, vI1, vB1⟩ | exact cs2)
      (first
        | (go_at_call 104; refine HW.out.mono ?_; rintro e w2 ⟨g', ⟨rfl, l2, h2, M2, D2, t2⟩, cs2⟩))
    clear HW
    go_wp2
    go_ret
    exact ⟨g', rfl, by omega, by rw [HE.out]; exact h2, M2, D2, (UD.mono (fun _ _ h => Or.inr (Or.inr h))).trans t2 (fun _ _ h => h.elim Or.inl (fun h => Or.inr (Or.inl h)))⟩
end Go.Proofs.YtfmcbjlagdanjaaGreatDoor

/- A transaction with at most the bitmap's block written; seen by its contract. -/
namespace Go.Proofs.YtfmcbjlagdanjaaGreatDoor
open Go.RowKit Go.Maps
set_option maxRecDepth 100000

theorem mp_not {w : World} {bm n b : Nat} {m : List (Nat × Nat)} {bs : List Int} (h : Mp w bm n m) (hc : w.heap[b]? = some (bl bs)) : b ≠ bm := by
  rintro rfl
  obtain ⟨es, ck, h1, _⟩ := h.own
  rw [hc] at h1
  cases h1
/-- Where a transaction lies, its journal, its device; the bitmap's block. -/
structure Tc where
  d : Nat
  S : DevS
  k : Nat
  N : Nat
  G : Nat → Prop
  jb : Nat
  st : Nat
  sz : Nat
  tb : Nat
  wm : Nat
  bm : Nat
  b : Nat
  seq : Int
  place : Int
  free : Int
  last : Int
  sv : Value
  nd : Nat
  a : List (Nat × Nat)
  fa : Nat → List Int
/-- An open transaction that has written nothing but, perhaps, the bitmap's block; what it sees of it. -/
structure Ts (w : World) (c : Tc) (n : Nat) (m : List (Nat × Nat)) (bs : List Int) : Prop where
  dev : Dev w c.d 0 c.S c.k c.N c.G
  jour : Jb w c.jb c.d c.st c.sz c.seq c.place c.free c.bm (some c.tb)
  tx : Tb w c.tb c.jb c.wm c.sv c.last
  mp : Mp w c.wm n m
  am : Mp w c.bm c.nd c.a
  va : ∀ p ∈ c.a, w.heap[p.2]? = some (bl (c.fa p.1)) ∧ (c.fa p.1).length = 512 ∧ ∀ x ∈ c.fa p.1, 0 ≤ x ∧ x ≤ 255
  vG : ∀ p ∈ c.a, ¬ c.G p.2
  jG : ¬ c.G c.jb
  tG : ¬ c.G c.tb
  mG : ¬ c.G c.wm
  aG : ¬ c.G c.bm
  tm : c.tb ≠ c.wm
  tj : c.tb ≠ c.jb
  jm : c.jb ≠ c.wm
  bw : c.bm ≠ c.wm
  off : c.S.off = false
  reg : c.st + c.sz ≤ c.k
  bk : c.b < c.k
  out : c.b < c.st ∨ c.st + c.sz ≤ c.b
  one : m = [] ∨ ∃ g, m = [(c.b, g)] ∧ ¬ c.G g ∧ g ≠ c.wm
  see : Sees w c.S m c.a c.b bs
  len : bs.length = 512
  byt : ∀ x ∈ bs, 0 ≤ x ∧ x ≤ 255
theorem Ts.free {w : World} {c : Tc} {n : Nat} {m : List (Nat × Nat)} {bs : List Int} (h : Ts w c n m bs) : ∀ g, lk m c.b = some g → ¬ c.G g := by
  intro g hg
  rcases h.one with rfl | ⟨g0, rfl, h1, _⟩
  · simp [lk] at hg
  · simp [lk] at hg; exact hg ▸ h1
/-- Where the device's own blocks may have turned. -/
theorem Ts.turns {w w' : World} {c : Tc} {n : Nat} {m : List (Nat × Nat)} {bs : List Int} (h : Ts w c n m bs) (t : Turns c.G w w') (hD : Dev w' c.d 0 c.S c.k c.N c.G) : Ts w' c n m bs :=
  { h with dev := hD, jour := (t.block _ (heap_lt h.jour) h.jG).trans h.jour, tx := (t.block _ (heap_lt h.tx) h.tG).trans h.tx, mp := h.mp.turns t h.mG, am := h.am.turns t h.aG, va := fun p hp => ⟨(t.block _ (heap_lt (h.va p hp).1) (h.vG p hp)).trans (h.va p hp).1, (h.va p hp).2⟩, see := h.see.turns t h.free (fun _ hg => h.vG _ (mem_lk hg)) }
theorem Ts.below {w w' : World} {c : Tc} {n : Nat} {m : List (Nat × Nat)} {bs : List Int} (h : Ts w c n m bs) (b : Below w.heap.size w w') : Ts w' c n m bs := h.turns (Below.turns b _) (h.dev.below b)

theorem Turns.row (w : World) (g : Nat) (cs : Array Value) : Turns (fun i => i = g) w (w.setRow g cs) :=
  ⟨rfl, rfl, rfl, by simp [World.setRow], fun i _ hn => setRow_other w g i cs hn⟩

attribute [local go_sem ↓ 100000] ly_store ly_load bm_store bm_load
attribute [local go_sem] LyStore.new LyStore.drew LyLoad.new LyLoad.drew BmStore.new
set_option maxHeartbeats 4000000 in
theorem seen_ok {w : World} {c : Tc} {n0 : Nat} {m : List (Nat × Nat)} {bs : List Int} (h : Ts w c n0 m bs) (l : Lay) (hlb : l.bi = c.b) (hl1 : l.bl = 1) :
    Calls Tryz.prog 101 #[.pointer (some ⟨c.tb, 0, none⟩), lyV l] w fun e w' => ∃ g cp tl, e = .returned (.tuple #[bmV (some ⟨c.tb, 0, none⟩) l (some ⟨g, 0, none⟩) 512 cp, .int .i64 0]) ∧ 512 ≤ cp ∧ w.heap.size ≤ g ∧ w'.heap[g]? = some (bt bs tl) ∧ Ts w' c n0 m bs ∧ Turns c.G w w' := by
  have HB : Hid (l.bi = c.b) := hlb
  have H1 : Hid (l.bl = 1) := hl1
  clear hlb hl1
  obtain ⟨W1, hW1⟩ : ∃ W, w.alloc (.cells #[.int .i64 l.bo, .int .i64 l.jr, .int .i64 l.jl, .int .i64 l.le, .int .i64 l.ll, .int .i64 l.bi, .int .i64 l.bl, .int .i64 l.ta, .int .i64 l.tl, .int .i64 l.dt, .int .i64 l.dl, .int .i64 l.to, .int .i64 l.sh.cl, .int .i64 l.sh.wi, .int .i64 l.sh.pl, .int .i64 l.sh.ca, .int .i64 l.sh.ino, .int .i64 l.sh.qu, .int .i64 l.sh.da, .int .i64 l.sh.jo] 29) = W := ⟨_, rfl⟩
  obtain ⟨W2, hW2⟩ : ∃ W, W1.alloc (.cells #[.pointer none, .int .i64 0, .int .i64 0, .int .i64 0, .int .i64 0, .int .i64 0, .int .i64 0, .int .i64 0, .int .i64 0, .int .i64 0, .int .i64 0, .int .i64 0, .int .i64 0, .int .i64 0, .int .i64 0, .int .i64 0, .int .i64 0, .int .i64 0, .int .i64 0, .int .i64 0, .int .i64 0, .slice none 0 0] 96) = W := ⟨_, rfl⟩
  have s1 : W1.heap.size = w.heap.size + 1 := by rw [← hW1]; simp
  have s2 : W2.heap.size = w.heap.size + 2 := by rw [← hW2]; simp [s1]
  have b1 : Below w.heap.size w W1 := by rw [← hW1]; exact (Below.refl _ w).alloc (Nat.le_refl _) _
  have b2 : Below W1.heap.size W1 W2 := by rw [← hW2]; exact (Below.refl _ W1).alloc (Nat.le_refl _) _
  have L1 : W1.heap[w.heap.size]? = some (.cells #[.int .i64 l.bo, .int .i64 l.jr, .int .i64 l.jl, .int .i64 l.le, .int .i64 l.ll, .int .i64 l.bi, .int .i64 l.bl, .int .i64 l.ta, .int .i64 l.tl, .int .i64 l.dt, .int .i64 l.dl, .int .i64 l.to, .int .i64 l.sh.cl, .int .i64 l.sh.wi, .int .i64 l.sh.pl, .int .i64 l.sh.ca, .int .i64 l.sh.ino, .int .i64 l.sh.qu, .int .i64 l.sh.da, .int .i64 l.sh.jo] 29 (0, 0)) := by rw [← hW1]; exact heap_alloc_last w _
  have L2 := (b2.block _ (heap_lt L1)).trans L1
  have R2 : W2.heap[w.heap.size + 1]? = some (.cells #[.pointer none, .int .i64 0, .int .i64 0, .int .i64 0, .int .i64 0, .int .i64 0, .int .i64 0, .int .i64 0, .int .i64 0, .int .i64 0, .int .i64 0, .int .i64 0, .int .i64 0, .int .i64 0, .int .i64 0, .int .i64 0, .int .i64 0, .int .i64 0, .int .i64 0, .int .i64 0, .int .i64 0, .slice none 0 0] 96 (0, 0)) := by rw [← hW2, ← s1]; exact heap_alloc_last W1 _
  have hld := LyLoad.row L2 rfl
  have hn4 := BmStore.new (some ⟨c.tb, 0, none⟩) l.bo l.jr l.jl l.le l.ll l.bi l.bl l.ta l.tl l.dt l.dl l.to l.sh.cl l.sh.wi l.sh.pl l.sh.ca l.sh.ino l.sh.qu l.sh.da l.sh.jo none 0 0
  obtain ⟨W3, hW3⟩ : ∃ W, W2.alloc (.cells #[.pointer none, .int .i64 0, .int .i64 0, .int .i64 0, .int .i64 0, .int .i64 0, .int .i64 0, .int .i64 0, .int .i64 0, .int .i64 0, .int .i64 0, .int .i64 0, .int .i64 0, .int .i64 0, .int .i64 0, .int .i64 0, .int .i64 0, .int .i64 0, .int .i64 0, .int .i64 0, .int .i64 0, .slice none 0 0] 96) = W := ⟨_, rfl⟩
  obtain ⟨W4, hW4⟩ : ∃ W, W2.alloc (.cells #[.pointer (some ⟨c.tb, 0, none⟩), .int .i64 l.bo, .int .i64 l.jr, .int .i64 l.jl, .int .i64 l.le, .int .i64 l.ll, .int .i64 l.bi, .int .i64 l.bl, .int .i64 l.ta, .int .i64 l.tl, .int .i64 l.dt, .int .i64 l.dl, .int .i64 l.to, .int .i64 l.sh.cl, .int .i64 l.sh.wi, .int .i64 l.sh.pl, .int .i64 l.sh.ca, .int .i64 l.sh.ino, .int .i64 l.sh.qu, .int .i64 l.sh.da, .int .i64 l.sh.jo, .slice none 0 0] 96) = W := ⟨_, rfl⟩
  have hst := fun o a next Q => hn4 o a W2 next Q
  rw [hW3, hW4, s2] at hst
  clear hn4
  have b4 : Below W2.heap.size W2 W4 := by rw [← hW4]; exact (Below.refl _ W2).alloc (Nat.le_refl _) _
  have s4 : W4.heap.size = w.heap.size + 3 := by rw [← hW4]; simp [s2]
  have L4 := (b4.block _ (heap_lt L2)).trans L2
  have R4 := (b4.block _ (heap_lt R2)).trans R2
  have M4 : W4.heap[w.heap.size + 2]? = some (.cells #[.pointer (some ⟨c.tb, 0, none⟩), .int .i64 l.bo, .int .i64 l.jr, .int .i64 l.jl, .int .i64 l.le, .int .i64 l.ll, .int .i64 l.bi, .int .i64 l.bl, .int .i64 l.ta, .int .i64 l.tl, .int .i64 l.dt, .int .i64 l.dl, .int .i64 l.to, .int .i64 l.sh.cl, .int .i64 l.sh.wi, .int .i64 l.sh.pl, .int .i64 l.sh.ca, .int .i64 l.sh.ino, .int .i64 l.sh.qu, .int .i64 l.sh.da, .int .i64 l.sh.jo, .slice none 0 0] 96 (0, 0)) := by rw [← hW4, ← s2]; exact heap_alloc_last W2 _
  have b04 : Below w.heap.size w W4 := (b1.trans (b2.mono b1.size)).trans (b4.mono (by omega))
  have h4 := h.below b04
  have hb5 : W4.cell? ⟨w.heap.size, 5, none⟩ = some (.int .i64 (c.b : Int)) := by rw [← HB.out]; simp [World.cell?, L4]
  have hb6 : W4.cell? ⟨w.heap.size, 6, none⟩ = some (.int .i64 1) := by rw [← H1.out]; simp [World.cell?, L4]
  have hm21 : W4.cell? ⟨w.heap.size + 2, 21, none⟩ = some (.slice none 0 0) := by simp [World.cell?, M4]
  obtain ⟨i0, hi, hz0, hz1, hz2⟩ := info_parts Tryz.info5
  have hFl := h.dev.lt
  have hF0 := h.dev.lt
  have hbi : (c.b : Int) < 4096 := by have := h.bk; have := h.dev.good.top; omega
  clear b1 b2 b4 L1 L2 R2
  go_enter Tryz.func101, Tryz.ntmps101
  go_wp2_with fail
  try rw [hW1, hW2]
  go_wp2_with fail
  try rw [hW3]
  go_wp2_with fail
  clear hW1 hW2 hW3 hW4 hst hld s1 s2 L4
  go_loopw [18] (fun i wr => (i = .int .i64 0 ∧ wr = W4) ∨ (i = .int .i64 1 ∧ ∃ g cp tl, 512 ≤ cp ∧ w.heap.size ≤ g ∧ wr.heap[g]? = some (bt bs tl) ∧ Ts wr c n0 m bs ∧ Turns c.G w wr ∧ wr.heap[w.heap.size + 2]? = some (.cells #[.pointer (some ⟨c.tb, 0, none⟩), .int .i64 l.bo, .int .i64 l.jr, .int .i64 l.jl, .int .i64 l.le, .int .i64 l.ll, .int .i64 l.bi, .int .i64 l.bl, .int .i64 l.ta, .int .i64 l.tl, .int .i64 l.dt, .int .i64 l.dl, .int .i64 l.to, .int .i64 l.sh.cl, .int .i64 l.sh.wi, .int .i64 l.sh.pl, .int .i64 l.sh.ca, .int .i64 l.sh.ino, .int .i64 l.sh.qu, .int .i64 l.sh.da, .int .i64 l.sh.jo, .slice (some ⟨g, 0, none⟩) 512 cp] 96 (0, 0)) ∧ wr.heap[w.heap.size + 1]? = some (.cells #[.pointer none, .int .i64 0, .int .i64 0, .int .i64 0, .int .i64 0, .int .i64 0, .int .i64 0, .int .i64 0, .int .i64 0, .int .i64 0, .int .i64 0, .int .i64 0, .int .i64 0, .int .i64 0, .int .i64 0, .int .i64 0, .int .i64 0, .int .i64 0, .int .i64 0, .int .i64 0, .int .i64 0, .slice none 0 0] 96 (0, 0)) ∧ g ≠ w.heap.size + 1)) (fun i _ => 1 - (intOf i).toNat)
  case atStart => exact Or.inl ⟨rfl, rfl⟩
  case round =>
    rcases hrel with ⟨rfl, rfl⟩ | ⟨rfl, g, cp, tl, hcp, hgw, hg, hTs, hTu, hM, hR, hgR⟩
    · go_wp2_with fail
      refine (txRead_ok h4.dev h4.jour h4.tx h4.mp h4.am h4.jG h4.tG h4.mG h4.aG c.b h4.free (fun g hg => h4.vG _ (mem_lk hg)) h4.off h4.reg h4.bk h4.out bs h4.see h4.len).mono ?_
      rintro e w5 ⟨g5, rfl, l5, k5, d5, t5⟩
      have T5 := h4.turns t5 d5
      have n2 : ¬ c.G (w.heap.size + 2) := fun h => by have := hFl _ h; omega
      have n1 : ¬ c.G (w.heap.size + 1) := fun h => by have := hFl _ h; omega
      have M5 := (t5.block _ (heap_lt M4) n2).trans M4
      have R5 := (t5.block _ (heap_lt R4) n1).trans R4
      have s5 := t5.size
      have t05 : Turns c.G w w5 := (Below.turns b04 c.G).trans t5 (fun _ _ h => h)
      have x21 : w5.cell? ⟨w.heap.size + 2, 21, none⟩ = some (.slice none 0 0) := by simp [World.cell?, M5]
      have hbl := h.len
      have hnews : ∀ j u, (bs.map (Value.int .u8))[j]? = some u → w5.cell? ((⟨g5, 0, none⟩ : Addr).add j) = some u := (Lies.full k5 hbl).hcells _ rfl
      clear hb5 hb6 hm21 hFl
      go_wp2_with (at_builtin; refine wpList_append_lies _ rfl (.tmp 35) (.tmp 36) 66 rfl w5.heap.size 5 i0 (.int .u8 0) 1 1 Tryz.underlying66 hi hz0 hz1 hz2 rfl (by decide) (.slice none 0 0) 0 [] rfl (World.ownsRow_nil _ _ _ _) ⟨g5, 0, none⟩ 512 512 (bs.map (Value.int .u8)) rfl (by simp [hbl]) hnews (ints_oneCell _ _) (by decide) (by unfold maxLen; omega) (by omega) (Nat.le_refl _) _ rfl ?_; intro g6 c6 w6 ho6 hg6 ha6 hl6; rw [List.nil_append, Nat.zero_add] at ho6; have t6 : Turns (fun _ => False) w5 w6 := Turns.grown hg6 (fun b hb => by cases hb); have M6 := (t6.block _ (heap_lt M5) id).trans M5; have y21 : w6.cell? ⟨w.heap.size + 2, 21, none⟩ = some (.slice none 0 0) := by { simp [World.cell?, M6] }; have z21 : w6.frozen? ⟨w.heap.size + 2, 21, none⟩ = false := by { simp [World.frozen?, M6] })
      obtain ⟨g, tl, hv, hgb, hgh⟩ := own_bt ho6 (by decide)
      obtain ⟨e1, e2⟩ : g6 = g ∧ c6 = 512 + tl.length := by
        injection hv with h1 h2 h3
        injection h1 with h1
        injection h1 with h1
        exact ⟨h1, h3⟩
      subst e1
      subst e2
      have tV := Turns.cell w6 (w.heap.size + 2) 21 (.slice (some ⟨g6, 0, none⟩) 512 (512 + tl.length))
      have R6 := (t6.block _ (heap_lt R5) id).trans R5
      have tG : Turns c.G w (w6.setCell ⟨w.heap.size + 2, 21, none⟩ (.slice (some ⟨g6, 0, none⟩) 512 (512 + tl.length))) := (t05.trans t6 (fun _ _ h => h.elim)).trans tV (fun i hi e => by omega)
      have dV := (d5.turns t6 (fun _ _ => id)).turns tV (fun i hi e => n2 (e ▸ hi))
      exact ⟨Or.inr ⟨rfl, g6, _, tl, by omega, by omega, (tV.block g6 (heap_lt hgh) (by omega)).trans hgh, h.turns tG dV, tG, heap_setCell_same _ _ _ _ _ _ M6, (tV.block _ (heap_lt R6) (by omega)).trans R6, by omega⟩, by simp [intOf]⟩
    · have hld := BmLoad.row hM rfl
      have hst := BmStore.row hR rfl
      clear hb5 hb6 hm21 hFl R4 M4 h4
      have hle := heap_lt hR
      have tV := Turns.row wr (w.heap.size + 1) (bmA (some ⟨c.tb, 0, none⟩) l (some ⟨g, 0, none⟩) 512 cp)
      have tG : Turns c.G w (wr.setRow (w.heap.size + 1) (bmA (some ⟨c.tb, 0, none⟩) l (some ⟨g, 0, none⟩) 512 cp)) := hTu.trans tV (fun i hi e => by omega)
      have dV := hTs.dev.turns tV (fun i hi e => by have := hF0 _ hi; omega)
      go_wp2_with fail
      refine bodyPost_ret (res2 rfl _ _ (w.heap.size + 1) 96 _ (0, 0) _ rfl (setRow_heap _ _ _ _ _ _ hR) Tryz.underlying96 rfl bm_size) rfl ?_
      exact ⟨g, cp, tl, rfl, hcp, hgw, (tV.block g (heap_lt hg) hgR).trans hg, h.turns tG dV, tG⟩
end Go.Proofs.YtfmcbjlagdanjaaGreatDoor
