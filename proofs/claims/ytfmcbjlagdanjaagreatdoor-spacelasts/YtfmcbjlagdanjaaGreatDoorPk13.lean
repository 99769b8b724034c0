/- annexlaw8.stood by its contract. -/
import Derived.Test.YtfmcbjlagdanjaaGreatDoorPk12
import Derived.Deep.MidRow
import Derived.BigQuiet
namespace Go.Proofs.YtfmcbjlagdanjaaGreatDoor
open Go.RowKit Go.Maps
set_option maxRecDepth 100000

/-- The layout's cells. -/
def LsAt (D K lb : Nat) (w : World) : Prop := w.rangeAt lb 0 [.int .i64 1, .int .i64 2, .int .i64 27, .int .i64 29, .int .i64 4, .int .i64 33, .int .i64 1, .int .i64 34, .int .i64 1, .int .i64 35, .int .i64 D, .int .i64 K, .int .i64 1, .int .i64 1, .int .i64 1, .int .i64 1, .int .i64 2, .int .i64 0, .int .i64 D, .int .i64 27]
theorem LsAt.of {w : World} {b D K : Nat} (h : w.heap[b]? = some (.cells #[.int .i64 1, .int .i64 2, .int .i64 27, .int .i64 29, .int .i64 4, .int .i64 33, .int .i64 1, .int .i64 34, .int .i64 1, .int .i64 35, .int .i64 D, .int .i64 K, .int .i64 1, .int .i64 1, .int .i64 1, .int .i64 1, .int .i64 2, .int .i64 0, .int .i64 D, .int .i64 27] 29 (0, 0))) : LsAt D K b w := by
  intro j v hv
  rw [Nat.zero_add]
  unfold World.cell?
  rw [h]
  show (Array.mk _)[j]? = _
  rw [← Array.getElem?_toList]
  exact hv
theorem LsAt.ld {w : World} {b D K : Nat} (h : LsAt D K b w) : (Instr.loadAt 29 (.pointer (some ⟨b, 0, none⟩))).run Tryz.prog w = .ok (.agg #[.int .i64 1, .int .i64 2, .int .i64 27, .int .i64 29, .int .i64 4, .int .i64 33, .int .i64 1, .int .i64 34, .int .i64 1, .int .i64 35, .int .i64 D, .int .i64 K, .int .i64 1, .int .i64 1, .int .i64 1, .int .i64 1, .int .i64 2, .int .i64 0, .int .i64 D, .int .i64 27]) w :=
  run_loadAt_mid w b 0 29 _ _ h Tryz.underlying29 rfl ly_size
attribute [local go_sem ↓ 100000] ly_store ly_load
attribute [local go_sem] LyStore.new LyStore.drew LyLoad.new LyLoad.drew
set_option maxHeartbeats 8000000 in
theorem stood_ok {D : Nat} (h1 : 8 ≤ D) (h2 : D ≤ 500) (w : World) (hB : Bds w) {er : Nat → Addr} (hE : Errs w er) :
    Calls Tryz.prog 11 #[.int .i64 D, .slice none 0 0] w fun e w' => ∃ wb c, e = .returned (.pointer (some ⟨wb, 0, none⟩)) ∧ Wd w w' wb c D ∧ Ts w' c 0 [] zB ∧ Below w.heap.size w w' ∧ ∃ S0, Good S0 (35 + D) ∧ S0.off = false ∧ S0.fuse = 0 ∧ Nw8 c (fmtS S0 2 27) (35 + D) 27 26 w.heap.size := by
  obtain ⟨K, hK⟩ : ∃ K, 35 + D = K := ⟨_, rfl⟩
  obtain ⟨M, hM⟩ : ∃ M, 512 * K = M := ⟨_, rfl⟩
  have hMi : 512 * (K : Int) = M := by omega
  have hKi : ¬ (K : Int) < 1 := by omega
  have hK9 : (K : Int) ≤ 535 := by omega
  obtain ⟨i0, hi, hz0, hz1, hz2⟩ := info_parts Tryz.info5
  have HK : Hid (35 + D = K ∧ 512 * K = M) := ⟨hK, hM⟩
  have hMb : M ≤ 273920 := by omega
  clear hK hM
  go_enter Tryz.func11, Tryz.ntmps11
  go_wp2_with fail
  refine (shape8_any D w).mono ?_
  rintro e w1 ⟨rfl, b1⟩
  go_wp2_with fail
  refine (plan8_ok h1 h2 HK.out.1 w1 (hB.later b1 (Nat.le_refl _))).mono ?_
  rintro e w2 ⟨rfl, b2⟩
  have b02 := b1.trans (b2.mono b1.size)
  obtain ⟨W3, hW3⟩ : ∃ W, w2.alloc (.cells #[.int .i64 1, .int .i64 2, .int .i64 27, .int .i64 29, .int .i64 4, .int .i64 33, .int .i64 1, .int .i64 34, .int .i64 1, .int .i64 35, .int .i64 D, .int .i64 K, .int .i64 1, .int .i64 1, .int .i64 1, .int .i64 1, .int .i64 2, .int .i64 0, .int .i64 D, .int .i64 27] 29) = W := ⟨_, rfl⟩
  have b3 : Below w2.heap.size w2 W3 := by rw [← hW3]; exact (Below.refl _ w2).alloc (Nat.le_refl _) _
  have L3 : W3.heap[w2.heap.size]? = some (.cells #[.int .i64 1, .int .i64 2, .int .i64 27, .int .i64 29, .int .i64 4, .int .i64 33, .int .i64 1, .int .i64 34, .int .i64 1, .int .i64 35, .int .i64 D, .int .i64 K, .int .i64 1, .int .i64 1, .int .i64 1, .int .i64 1, .int .i64 2, .int .i64 0, .int .i64 D, .int .i64 27] 29 (0, 0)) := by rw [← hW3]; exact heap_alloc_last w2 _
  have b03 := b02.trans (b3.mono b02.size)
  go_wp2_with fail
  try rw [hW3]
  obtain ⟨lb, hlb⟩ : ∃ lb, w2.heap.size = lb := ⟨_, rfl⟩
  rw [hlb] at L3
  have q11 : W3.cell? ⟨lb, 11, none⟩ = some (.int .i64 (K : Int)) := by simp [World.cell?, L3]
  refine (num8_any _ _).mono ?_
  rintro e w4 ⟨rfl, hw4⟩
  subst w4
  clear hW3
  obtain ⟨W5, hW5⟩ : ∃ W, W3.alloc (.cells (madeCells #[.int .u8 0] M) 5) = W := ⟨_, rfl⟩
  have b5 : Below W3.heap.size W3 W5 := by rw [← hW5]; exact (Below.refl _ W3).alloc (Nat.le_refl _) _
  have Z5 := zeros_bl W3 M
  rw [hW5] at Z5
  have L5 := (b5.block _ (heap_lt L3)).trans L3
  obtain ⟨zb, hzb⟩ : ∃ zb, W3.heap.size = zb := ⟨_, rfl⟩
  rw [hzb] at Z5
  have b05 := b03.trans (b5.mono b03.size)
  go_wp2_with (at_make; refine wpList_make_row _ rfl _ _ 66 rfl 5 i0 (.int .u8 0) Tryz.underlying66 hi hz0 hz1 rfl _ _ M rfl rfl (by rw [hz2]; omega) (by omega) ?_; rw [hW5])
  go_loopw [8] (fun i wr => i = .int .i64 0 ∧ wr = W5) (fun _ _ => 0)
  case atStart => exact ⟨rfl, rfl⟩
  case round =>
    obtain ⟨rfl, hwr⟩ := hrel
    subst wr
    go_wp2_with fail
    have hz : ∀ x ∈ List.replicate M (0 : Int), 0 ≤ x ∧ x ≤ 255 := fun x hx => by have := List.eq_of_mem_replicate hx; omega
    have hI := image_good (some ⟨zb, 0, none⟩) K M (List.replicate M 0) W5 (by have := HK.out; omega) (by have := HK.out; omega) (by rw [HK.out.2]; exact Lies.full Z5 (by simp)) hz
    rw [HK.out.2] at hI
    refine hI.mono ?_
    rintro e w6 ⟨db, rfl, D6, b6⟩
    have s6 := b6.size
    have L6 := (b6.block _ (heap_lt L5)).trans L5
    have b06 := b05.trans (b6.mono b05.size)
    have F6 : ∀ i, grow (fun _ => False) W5 w6 i → w.heap.size ≤ i := fun i h => h.elim False.elim (fun h => by have := b05.size; omega)
    have nl6 : ¬ grow (fun _ => False) W5 w6 lb := fun h => h.elim id (fun h => by have := heap_lt L5; omega)
    have q1 : w6.cell? ⟨lb, 1, none⟩ = some (.int .i64 2) := by simp [World.cell?, L6]
    have q2 : w6.cell? ⟨lb, 2, none⟩ = some (.int .i64 27) := by simp [World.cell?, L6]
    clear hI
    go_wp2_with fail
    refine (num8_any _ _).mono ?_
    rintro e w7 ⟨rfl, hw7⟩
    subst w7
    go_wp2_with fail
    have HS := fmt8 (K := K) (M := M) (by have := HK.out; omega) HK.out.2 D6.good
    refine (format_ok D6 2 27 (by omega) (by have := HK.out; omega) ⟨rfl, Or.inl rfl⟩ (by omega)).mono ?_
    rintro e w8 ⟨rfl, D8, t8⟩
    have s8 := t8.size
    have L8 := (t8.block _ (heap_lt L6) nl6).trans L6
    have b68 : Below w.heap.size w6 w8 := t8.below F6 b06.size
    have b08 := b06.trans b68
    have F8 : ∀ i, grow (grow (fun _ => False) W5 w6) w6 w8 i → w.heap.size ≤ i := fun i h => h.elim (F6 i) (fun h => by have := b06.size; omega)
    have nl8 : ¬ grow (grow (fun _ => False) W5 w6) w6 w8 lb := fun h => h.elim nl6 (fun h => by have := heap_lt L6; omega)
    have x1 : w8.cell? ⟨lb, 1, none⟩ = some (.int .i64 2) := by simp [World.cell?, L8]
    have x2 : w8.cell? ⟨lb, 2, none⟩ = some (.int .i64 27) := by simp [World.cell?, L8]
    obtain ⟨S, hS, hoff, hsee, hr2, hr3⟩ := HS
    rw [hS] at D8
    have HN : Hid (∃ S0, Good S0 (35 + D) ∧ S0.off = false ∧ S0.fuse = 0 ∧ fmtS S0 2 27 = S) := ⟨_, by rw [HK.out.1]; exact D6.good, rfl, rfl, hS⟩
    clear hS
    have HX : Hid (zB = rdB S 33 ∧ rdB S 2 = jheadB 1 0 ∧ rdB S (2 + 1 + 0 % (27 - 1)) = zB) := ⟨hsee, hr2, hr3⟩
    clear hsee hr2 hr3
    have HO : Hid (Calls Tryz.prog 29 #[.pointer (some ⟨db, 0, none⟩), .int .i64 (2 : Nat), .int .i64 (27 : Nat)] w8 fun e w' => ∃ jb bm, e = .returned (.tuple #[.pointer (some ⟨jb, 0, none⟩), .int .i64 0, .int .i64 0]) ∧ w8.heap.size ≤ jb ∧ w8.heap.size ≤ bm ∧ Jb w' jb db 2 27 (1 : Nat) (0 : Nat) ((27 : Nat) - 1) bm none ∧ Mp w' bm 0 [] ∧ (∃ G, Dev w' db 0 S K (0 + 27) G ∧ (∀ i, G i → grow (grow (fun _ => False) W5 w6) w6 w8 i ∨ w8.heap.size ≤ i) ∧ ¬ G jb ∧ ¬ G bm) ∧ Turns (grow (grow (fun _ => False) W5 w6) w6 w8) w8 w') := by
      have hr2 := HX.out.2.1
      have hr3 := HX.out.2.2
      have hh := head_back 1 0 ((27 : Nat) - 1) (by omega) (by omega) (by omega) (by omega)
      refine open_empty D8 2 27 (by omega) (by have := HK.out; omega) hoff (fun w' t => hE.below (b08.trans (t.below F8 b08.size)) (Nat.le_refl _)) 1 0 ?_ ?_ (by omega) (by omega) ?_ (fun b hb => D8.good.reads b hb)
      · rw [hr2]; exact ⟨hh.1, hh.2.1⟩
      · rw [hr2]; exact hh.2.2
      · rw [hr3]; exact zB_begs
    clear q1 q2
    go_wp2_with fail
    refine HO.out.mono ?_
    rintro e w9 ⟨jb, bm, rfl, ljb, lbm, J9, M9, ⟨G, D9, hG9, njG, nbG⟩, t9⟩
    have s9 := t9.size
    have L9 := (t9.block _ (heap_lt L8) nl8).trans L8
    have b89 : Below w.heap.size w8 w9 := t9.below F8 b08.size
    have b09 := b08.trans b89
    have F9 : ∀ i, G i → w.heap.size ≤ i := fun i h => (hG9 i h).elim (F8 i) (fun h => by have := b08.size; omega)
    clear HO x1 x2
    go_wp2_with fail
    refine (num8_any _ _).mono ?_
    rintro e wa ⟨rfl, hwa⟩
    subst wa
    go_wp2_with fail
    refine (num8_any _ _).mono ?_
    rintro e wa ⟨rfl, hwa⟩
    subst wa
    have hld := LsAt.of (D := D) (K := K) L9
    have hld1 := LsAt.of (D := D) (K := K) (w := w9.drew) L9
    have hm : ∀ w', LsAt D K lb w' → (Instr.loadAt 29 (.pointer (some ⟨lb, 0, none⟩))).run Tryz.prog w' = .ok (.agg #[.int .i64 1, .int .i64 2, .int .i64 27, .int .i64 29, .int .i64 4, .int .i64 33, .int .i64 1, .int .i64 34, .int .i64 1, .int .i64 35, .int .i64 D, .int .i64 K, .int .i64 1, .int .i64 1, .int .i64 1, .int .i64 1, .int .i64 2, .int .i64 0, .int .i64 D, .int .i64 27]) w' := fun _ h => h.ld
    have nlG : ¬ G lb := fun h => (hG9 lb h).elim nl8 (fun h => by have := heap_lt L8; omega)
    have nlj : lb ≠ jb := fun e => by have := heap_lt L8; omega
    go_wp2_with fail
    refine wp_region_held_drew (S := LsAt D K lb) (by kernel_rfl) hld1 (fun hHeld => ?_)
    refine wpAnyH_take (i := 0) (oi := ⟨some 94, .load 29 (.tmp 5), 29, "world.go:53", #[], none⟩) (v := .agg #[.int .i64 1, .int .i64 2, .int .i64 27, .int .i64 29, .int .i64 4, .int .i64 33, .int .i64 1, .int .i64 34, .int .i64 1, .int .i64 35, .int .i64 D, .int .i64 K, .int .i64 1, .int .i64 1, .int .i64 1, .int .i64 1, .int .i64 2, .int .i64 0, .int .i64 D, .int .i64 27]) rfl (by kernel_rfl) (by kernel_rfl) (by kernel_rfl) (fun _ _ _ h => h) (yieldsIf_load_mid (by rfl) _ _ rfl _ _ rfl [.int .i64 1, .int .i64 2, .int .i64 27, .int .i64 29, .int .i64 4, .int .i64 33, .int .i64 1, .int .i64 34, .int .i64 1, .int .i64 35, .int .i64 D, .int .i64 K, .int .i64 1, .int .i64 1, .int .i64 1, .int .i64 1, .int .i64 2, .int .i64 0, .int .i64 D, .int .i64 27] _ (fun _ h => h) Tryz.underlying29 rfl ly_size) hHeld ?_
    simp only [Act.put, List.setIfInBounds_toArray, List.set_cons_zero, List.set_cons_succ]
    refine wpAnyH_take (i := 1) (oi := ⟨some 95, .move (.tmp 9), 30, "world.go:53", #[], none⟩) (v := .pointer (some ⟨db, 0, none⟩)) rfl (by kernel_rfl) (by kernel_rfl) (by kernel_rfl) (fun _ _ _ h => h) (Or.inl ⟨by rfl, fun _ _ => rfl⟩) hHeld ?_
    simp only [Act.put, List.setIfInBounds_toArray, List.set_cons_zero, List.set_cons_succ]
    refine wpAnyH_take (i := 2) (oi := ⟨some 96, .move (.tmp 12), 31, "world.go:53", #[], none⟩) (v := .pointer (some ⟨jb, 0, none⟩)) rfl (by kernel_rfl) (by kernel_rfl) (by kernel_rfl) (fun _ _ _ h => h) (Or.inl ⟨by rfl, fun _ _ => rfl⟩) hHeld ?_
    simp only [Act.put, List.setIfInBounds_toArray, List.set_cons_zero, List.set_cons_succ]
    refine wpAnyH_take (i := 3) (oi := ⟨some 97, .move (.tmp 12), 31, "world.go:53", #[], none⟩) (v := .pointer (some ⟨jb, 0, none⟩)) rfl (by kernel_rfl) (by kernel_rfl) (by kernel_rfl) (fun _ _ _ h => h) (Or.inl ⟨by rfl, fun _ _ => rfl⟩) hHeld ?_
    simp only [Act.put, List.setIfInBounds_toArray, List.set_cons_zero, List.set_cons_succ]
    refine wpAnyH_ready (rs := [4]) (by kernel_rfl) (by simp) ?_
    refine AllReadyH.cons (o := ⟨some 98, .call ⟨.value (.func 30), #[.tmp 97], #[31]⟩, 32, "world.go:53", #[⟨3, .data⟩], none⟩) rfl (fun KK hK => ?_) AllReadyH.nil
    go_simp
    refine (begin_ok (w := w9.drew) D9.drew J9 njG hoff).mono ?_
    rintro e wa ⟨tb, wm, rfl, ltb, lwm, Ja, Ta, Ma, Da, ta⟩
    have ta : Turns (fun i => G i ∨ i = jb) w9 wa := ta.fromDrew
    have La := (ta.block lb (heap_lt L9) (fun h => h.elim nlG nlj)).trans L9
    have hld2 := LsAt.of (D := D) (K := K) La
    go_wp2_with fail
    refine hK.out _ _ hld2 (fun hHeld => ?_)
    clear hK KK
    try simp only [Act.put, List.setIfInBounds_toArray, List.set_cons_zero, List.set_cons_succ]
    refine wpAnyH_ready (rs := [5]) (by kernel_rfl) (by simp) ?_
    refine AllReadyH.cons (o := ⟨some 99, .build 35 #[(0, .tmp 94), (1, .tmp 95), (2, .tmp 96), (3, .tmp 98)], 35, "world.go:53", #[⟨0, .data⟩, ⟨1, .data⟩, ⟨2, .data⟩, ⟨4, .data⟩], none⟩) rfl (fun KK hK => ?_) AllReadyH.nil
    go_simp
    refine hK.out _ _ hld2 (fun hHeld => ?_)
    clear hK KK
    try simp only [Act.put, List.setIfInBounds_toArray, List.set_cons_zero, List.set_cons_succ]
    refine wpAnyH_ready (rs := [6]) (by kernel_rfl) (by simp) ?_
    refine AllReadyH.cons (o := ⟨some 100, .box 35 (.tmp 99), 24, "world.go:53", #[⟨5, .data⟩], none⟩) rfl (fun KK hK => ?_) AllReadyH.nil
    go_simp
    refine hK.out _ _ (LsAt.of ((((Below.refl _ wa).alloc (Nat.le_refl _) _).block lb (heap_lt La)).trans La)) (fun hHeld => ?_)
    clear hK KK
    try simp only [Act.put, List.setIfInBounds_toArray, List.set_cons_zero, List.set_cons_succ]
    refine wpAnyH_ready (rs := [7]) (by kernel_rfl) (by simp) ?_
    refine AllReadyH.cons (o := ⟨some 4, .assign (.tmp 100), 24, "world.go:53", #[⟨6, .data⟩, ⟨4, .chain⟩, ⟨0, .phase⟩, ⟨1, .phase⟩, ⟨2, .phase⟩, ⟨3, .phase⟩, ⟨4, .phase⟩, ⟨5, .phase⟩, ⟨6, .phase⟩], none⟩) rfl (fun KK hK => ?_) AllReadyH.nil
    go_simp
    refine hK.out _ _ hHeld (fun hHeld => ?_)
    clear hK KK
    try simp only [Act.put, List.setIfInBounds_toArray, List.set_cons_zero, List.set_cons_succ]
    refine wpAnyH_done (by kernel_rfl) ?_ _
    clear hHeld
    have hbj : jb ≠ bm := M9.ne J9
    have Aa := M9.turns ta (fun h => h.elim nbG (fun e => hbj e.symm))
    have hFl := D9.lt
    have hjl := heap_lt J9
    have hbl := M9.lt
    have ltb' : w9.heap.size ≤ tb := ltb
    have lwm' : w9.heap.size ≤ wm := lwm
    have b9a : Below w.heap.size w9 wa := ta.below (fun i h => h.elim (F9 i) (fun e => by have := b08.size; omega)) b09.size
    have b0a := b09.trans b9a
    have s0 := b08.size
    have HE := stood_end (w := w) HK.out.1 h1 h2 hoff HX.out.1 Ja Ta Ma Aa Da njG (fun h => by have := hFl _ h; omega) (fun h => by have := hFl _ h; omega) nbG (by omega) (by omega) (by omega) F9 (by omega) (by omega) (by omega) b0a (by omega)
    clear hld hld1 hld2 Ja Ta Ma Aa Da HX
    go_wp2_with fail
    go_ret
    obtain ⟨wb, c, hw, HA, HT, HL, HW⟩ := HE
    refine ⟨wb, c, ?_, ?_, ?_, ?_, ?_⟩
    · exact hw
    · with_reducible exact HA
    · with_reducible exact HT
    · with_reducible exact HL
    · obtain ⟨S0, g1, g2, g3, g4⟩ := HN.out
      refine ⟨S0, g1, g2, g3, ?_⟩
      rw [g4, HK.out.1]
      exact HW
end Go.Proofs.YtfmcbjlagdanjaaGreatDoor

/- What is read of a world's block; which bits are told. -/
namespace Go.Proofs.YtfmcbjlagdanjaaGreatDoor
open Go.RowKit Go.Maps
set_option maxRecDepth 100000

theorem Wd.later {w0 w w' : World} {wb : Nat} {c : Tc} {D : Nat} (h : Wd w0 w wb c D) (t : Turns (fun i => c.G i ∨ i = c.wm) w w') : Wd w0 w' wb c D :=
  { h with box := (t.block wb (heap_lt h.box) (fun q => q.elim h.nG h.nm)).trans h.box }
theorem Wd.ended {w0 w w' : World} {wb : Nat} {c : Tc} {D : Nat} (h : Wd w0 w wb c D) (t : Turns (fun i => c.G i ∨ i = c.tb ∨ i = c.jb) w w') : Wd w0 w' wb c D :=
  { h with box := (t.block wb (heap_lt h.box) (fun q => q.elim h.nG (fun q => q.elim h.nt h.nj))).trans h.box }
theorem Wd.below {w0 w w' : World} {wb : Nat} {c : Tc} {D : Nat} (h : Wd w0 w wb c D) (b : Below w.heap.size w w') : Wd w0 w' wb c D :=
  { h with box := (b.block wb (heap_lt h.box)).trans h.box }
theorem Wd.t {w0 w : World} {wb : Nat} {c : Tc} {D : Nat} (h : Wd w0 w wb c D) : w.cell? ⟨wb, 22, none⟩ = some (.pointer (some ⟨c.tb, 0, none⟩)) := by simp [World.cell?, h.box]
theorem Wd.bi {w0 w : World} {wb : Nat} {c : Tc} {D : Nat} (h : Wd w0 w wb c D) : w.cell? ⟨wb, 5, none⟩ = some (.int .i64 33) := by simp [World.cell?, h.box]
theorem Wd.bl {w0 w : World} {wb : Nat} {c : Tc} {D : Nat} (h : Wd w0 w wb c D) : w.cell? ⟨wb, 6, none⟩ = some (.int .i64 1) := by simp [World.cell?, h.box]
theorem Wd.dt {w0 w : World} {wb : Nat} {c : Tc} {D : Nat} (h : Wd w0 w wb c D) : w.cell? ⟨wb, 9, none⟩ = some (.int .i64 35) := by simp [World.cell?, h.box]
theorem Wd.dl {w0 w : World} {wb : Nat} {c : Tc} {D : Nat} (h : Wd w0 w wb c D) : w.cell? ⟨wb, 10, none⟩ = some (.int .i64 (D : Int)) := by simp [World.cell?, h.box]
theorem ld_wd {w0 w : World} {wb : Nat} {c : Tc} {D : Nat} (h : Wd w0 w wb c D) : (Instr.loadAt 29 (.pointer (some ⟨wb, 0, none⟩))).run Tryz.prog w = .ok (lyV (lay8 D)) w := by
  have hc : w.rangeAt wb 0 [.int .i64 1, .int .i64 2, .int .i64 27, .int .i64 29, .int .i64 4, .int .i64 33, .int .i64 1, .int .i64 34, .int .i64 1, .int .i64 35, .int .i64 D, .int .i64 (35 + D : Nat), .int .i64 1, .int .i64 1, .int .i64 1, .int .i64 1, .int .i64 2, .int .i64 0, .int .i64 D, .int .i64 27] := by
    intro j v hv
    have hj : j < 20 := (List.getElem?_eq_some_iff.1 hv).1
    rw [Nat.zero_add]
    unfold World.cell?
    rw [h.box]
    show (Array.mk _)[j]? = _
    rw [← Array.getElem?_toList]
    exact (List.getElem?_append_left (l₁ := ([.int .i64 1, .int .i64 2, .int .i64 27, .int .i64 29, .int .i64 4, .int .i64 33, .int .i64 1, .int .i64 34, .int .i64 1, .int .i64 35, .int .i64 D, .int .i64 (35 + D : Nat), .int .i64 1, .int .i64 1, .int .i64 1, .int .i64 1, .int .i64 2, .int .i64 0, .int .i64 D, .int .i64 27] : List Value)) (l₂ := ([.pointer (some ⟨c.d, 0, none⟩), .pointer (some ⟨c.jb, 0, none⟩), .pointer (some ⟨c.tb, 0, none⟩), .slice none 0 0] : List Value)) hj).trans hv
  exact run_loadAt_mid w wb 0 29 _ _ hc Tryz.underlying29 rfl ly_size
theorem Wd.ld {w0 w : World} {wb : Nat} {c : Tc} {D : Nat} (h : Wd w0 w wb c D) (o : Oper) (a : Act) (next : Act → World → Prop) (Q : Exit → Act → World → Prop) :
    LyLoad (.pointer (some ⟨wb, 0, none⟩)) o a w next Q = next (a.put o.dst (lyV (lay8 D))) w := by
  unfold LyLoad Oper.wp execOp
  simp only [Act.eval, Sem.run_bind, ld_wd h, Result.andThen_ok, Sem.run_pure]
  rfl
/-- A layout's load as the regions meet it. -/
def LyEx (p : Value) : Sem Next := do pure (.value (← Instr.loadAt 29 p))
theorem ex_load (ev : Operand → Value) (d : Option Tmp) (x : Operand) (t : TypeId) (p : String) (f : Array Edge) (g : Option (Nat × Bool)) : execOp ev ⟨d, .load 29 x, t, p, f, g⟩ = LyEx (ev x) := rfl
theorem Wd.s {w0 w : World} {wb : Nat} {c : Tc} {D : Nat} (h : Wd w0 w wb c D) : w.cell? ⟨wb, 22, none⟩ = some (.pointer (some ⟨c.tb, 0, none⟩)) ∧ (LyEx (.pointer (some ⟨wb, 0, none⟩))).run Tryz.prog w = .ok (.value (lyV (lay8 D))) w := ⟨h.t, by
  unfold LyEx
  simp only [Sem.run_bind, ld_wd h, Result.andThen_ok, Sem.run_pure]⟩
theorem Wd.s2 {w0 w : World} {wb : Nat} {c : Tc} {D : Nat} (h : Wd w0 w wb c D) : w.cell? ⟨wb, 9, none⟩ = some (.int .i64 35) ∧ w.cell? ⟨wb, 10, none⟩ = some (.int .i64 (D : Int)) := ⟨h.dt, h.dl⟩
theorem Wd.drew {w0 w : World} {wb : Nat} {c : Tc} {D : Nat} (h : Wd w0 w wb c D) : Wd w0 w.drew wb c D := { h with box := h.box }
theorem Ts.drew {w : World} {c : Tc} {n : Nat} {m : List (Nat × Nat)} {bs : List Int} (h : Ts w c n m bs) : Ts w.drew c n m bs := h.turns (Turns.drewN c.G w 1) h.dev.drew
theorem Bds.drew {w : World} (h : Bds w) : Bds w.drew := ⟨h.c0, h.c1, h.c2, h.c3, h.c4, h.c5, h.c6, h.c7, h.c8, h.c9, h.c10, h.c11, h.c12, h.c13, h.c14, h.c15⟩
theorem Wd.turned {w0 w w' : World} {wb : Nat} {c : Tc} {D : Nat} (h : Wd w0 w wb c D) (t : Turns (fun i => c.G i ∨ i = c.wm) w w') (hs : w0.heap.size ≤ w.heap.size) : Below w0.heap.size w w' :=
  t.below (fun _ q => q.elim (h.gnew _) (fun e => e ▸ h.mnew)) hs
theorem Wd.turnedE {w0 w w' : World} {wb : Nat} {c : Tc} {D : Nat} (h : Wd w0 w wb c D) (t : Turns (fun i => c.G i ∨ i = c.tb ∨ i = c.jb) w w') (hs : w0.heap.size ≤ w.heap.size) : Below w0.heap.size w w' :=
  t.below (fun _ q => q.elim (h.gnew _) (fun q => q.elim (fun e => e ▸ h.tnew) (fun e => e ▸ h.jnew))) hs
theorem cntB_all {bs : List Int} : ∀ {n : Nat}, (∀ j, j < n → bitB bs j = true) → cntB bs n = n
  | 0, _ => rfl
  | n + 1, h => by
    unfold cntB
    rw [cntB_all (fun j hj => h j (by omega)), h n (by omega)]
    rfl
theorem low_k0 : lowZ zB 20 = (0 : Nat) := by decide +kernel
theorem low_k1 : lowZ (flipB zB 0) 20 = (1 : Nat) := by decide +kernel
theorem bit_k2 : bitB (flipB (flipB zB 0) 1) 0 = true := by decide +kernel
theorem low_k3 : lowZ (flipB (flipB (flipB zB 0) 1) 0) 20 = (0 : Nat) := by decide +kernel
theorem cnt_k4 : cntB (flipB (flipB (flipB (flipB zB 0) 1) 0) 0) 20 = 2 := by decide +kernel
end Go.Proofs.YtfmcbjlagdanjaaGreatDoor

/- A plain list of what is in use; count and lowest by their contracts. -/
namespace Go.Proofs.YtfmcbjlagdanjaaGreatDoor
open Go.RowKit Go.Maps
set_option maxRecDepth 100000
variable {zs : List Value} {cp : Nat}

/-- A row of truths in memory. -/
abbrev bb (zs : List Value) (us : List Bool) : Obj := .cells (us.map Value.bool ++ zs).toArray 4
theorem bb_cell {w : World} {g : Nat} {us : List Bool} (h : w.heap[g]? = some (bb zs us)) (j : Nat) (hj : j < us.length) : w.cell? ⟨g, j, none⟩ = some (.bool (us.getD j false)) := by
  simp only [World.cell?, h]
  simp [hj, List.getElem?_append_left]
theorem bb_set {w : World} {g : Nat} {us : List Bool} (h : w.heap[g]? = some (bb zs us)) (j : Nat) (hj : j < us.length) (x : Bool) : (w.setCell ⟨g, j, none⟩ (.bool x)).heap[g]? = some (bb zs (us.set j x)) := by
  rw [heap_setCell_same _ _ _ _ _ _ h]
  simp [bb, List.map_set, hj]
theorem bb_made (w : World) (n : Nat) : (w.alloc (.cells (madeCells #[.bool false] n) 4)).heap[w.heap.size]? = some (bb [] (List.replicate n false)) := by
  have e : madeCells #[Value.bool false] n = (List.replicate n (Value.bool false)).toArray := by
    rw [← toList_madeCells_one]
  rw [e, heap_alloc_last]
  simp
/-- The bits are as the list says. -/
def Tells (bs : List Int) (us : List Bool) : Prop := ∀ i, i < us.length → bitB bs i = us.getD i false
/-- The first that is not in use. -/
def lowU (us : List Bool) : Int := (us.findIdx? (fun b => !b)).elim (-1) (fun i => (i : Int))
theorem lowU_some {us : List Bool} {i : Nat} (hi : i < us.length) (hb : us.getD i false = false) (hl : ∀ j, j < i → us.getD j false = true) : lowU us = i := by
  have e : us.findIdx? (fun b => !b) = some i := by
    rw [List.findIdx?_eq_some_iff_getElem]
    refine ⟨hi, ?_, fun j hj => ?_⟩
    · rw [List.getD_eq_getElem?_getD, List.getElem?_eq_getElem hi] at hb
      simpa using hb
    · have := hl j hj
      rw [List.getD_eq_getElem?_getD, List.getElem?_eq_getElem (by omega)] at this
      simpa using this
  unfold lowU
  rw [e]; rfl
theorem lowU_none {us : List Bool} (hl : ∀ j, j < us.length → us.getD j false = true) : lowU us = -1 := by
  have e : us.findIdx? (fun b => !b) = none := by
    rw [List.findIdx?_eq_none_iff]
    intro x hx
    obtain ⟨j, hj, rfl⟩ := List.getElem_of_mem hx
    have := hl j hj
    rw [List.getD_eq_getElem?_getD, List.getElem?_eq_getElem hj] at this
    simpa using this
  unfold lowU
  rw [e]; rfl
theorem lowU_cases (us : List Bool) : (∃ i, i < us.length ∧ us.getD i false = false ∧ (∀ j, j < i → us.getD j false = true) ∧ lowU us = (i : Nat)) ∨ ((∀ j, j < us.length → us.getD j false = true) ∧ lowU us = -1) := by
  cases e : us.findIdx? (fun b => !b) with
  | some i =>
    left
    obtain ⟨hi, hb, hl⟩ := List.findIdx?_eq_some_iff_getElem.1 e
    refine ⟨i, hi, ?_, fun j hj => ?_, by unfold lowU; rw [e]; rfl⟩
    · rw [List.getD_eq_getElem?_getD, List.getElem?_eq_getElem hi]
      simpa using hb
    · rw [List.getD_eq_getElem?_getD, List.getElem?_eq_getElem (by omega)]
      simpa using hl j hj
  | none =>
    right
    refine ⟨fun j hj => ?_, by unfold lowU; rw [e]; rfl⟩
    rw [List.getD_eq_getElem?_getD, List.getElem?_eq_getElem hj]
    have := List.findIdx?_eq_none_iff.1 e us[j] (List.getElem_mem hj)
    simpa using this
theorem Tells.cnt {bs : List Int} {us : List Bool} (h : Tells bs us) : ∀ n, n ≤ us.length → cntB bs n = (us.take n).count true
  | 0, _ => by simp [cntB]
  | n + 1, hn => by
    unfold cntB
    rw [h.cnt n (by omega), h n (by omega), List.take_succ_eq_append_getElem (by omega), List.count_append, List.getD_eq_getElem?_getD, List.getElem?_eq_getElem (by omega)]
    cases us[n] <;> simp
theorem Tells.set {bs : List Int} {us : List Bool} (h : Tells bs us) (hl : bs.length = 512) (hu : us.length ≤ 500) (i : Nat) (hi : i < us.length) (x : Bool) (hx : us.getD i false = !x) : Tells (flipB bs i) (us.set i x) := by
  intro j hj
  rw [List.length_set] at hj
  rw [bitB_flip bs i j (by omega)]
  by_cases e : j = i
  · subst e
    rw [if_pos rfl, h j hj, hx]
    simp [List.getD_eq_getElem?_getD, hj]
  · rw [if_neg e, h j hj]
    simp [List.getD_eq_getElem?_getD, List.getElem?_set_ne (Ne.symm e)]
set_option maxHeartbeats 1000000 in
theorem count_any (g n : Nat) (us : List Bool) (w : World) (h : w.heap[g]? = some (bb zs us)) (hn : us.length = n) (hm : n ≤ 500) :
    Calls Tryz.prog 48 #[.slice (some ⟨g, 0, none⟩) n cp] w fun e w' => e = .returned (.int .i64 ((us.count true : Nat) : Int)) ∧ w' = w := by
  have HN : Hid (us.length = n) := hn
  have hni : (n : Int) ≤ 500 := by omega
  clear hn
  go_enter Tryz.func48, Tryz.ntmps48
  go_wp2_with fail
  go_loopw [3, 4] (fun f i wr => ∃ a : Nat, a ≤ n ∧ f = .int .i64 (((us.take a).count true : Nat) : Int) ∧ i = .int .i64 a ∧ wr = w) (fun _ i _ => n - (intOf i).toNat)
  case atStart => exact ⟨0, Nat.zero_le _, by simp, rfl, rfl⟩
  case round =>
    obtain ⟨a, ha, rfl, rfl, hwr⟩ := hrel
    subst wr
    by_cases hlt : a < n
    · have hai : (a : Int) < n := by omega
      have hc := bb_cell h a (by rw [HN.out]; exact hlt)
      have hle : (us.take a).count true ≤ a := Nat.le_trans List.count_le_length (by simp; omega)
      have HS : Hid ((us.take (a + 1)).count true = (us.take a).count true + if us.getD a false then 1 else 0) := by
        have hl : a < us.length := by rw [HN.out]; exact hlt
        show _ = _
        rw [List.take_succ_eq_append_getElem hl, List.count_append, List.getD_eq_getElem?_getD, List.getElem?_eq_getElem hl]
        cases us[a] <;> simp
      obtain ⟨C, hC⟩ : ∃ C, (us.take a).count true = C := ⟨_, rfl⟩
      rw [hC] at HS hle ⊢
      have hCi : (C : Int) ≤ 1000 := by omega
      obtain ⟨b, hb⟩ : ∃ b, us.getD a false = b := ⟨_, rfl⟩
      rw [hb] at HS hc
      clear hC hb
      cases b with
      | true =>
        go_wp2_with fail
        exact ⟨⟨a + 1, by omega, by rw [HS.out]; rfl, by go_num, trivial⟩, by simp [intOf]; omega⟩
      | false =>
        go_wp2_with fail
        exact ⟨⟨a + 1, by omega, by rw [HS.out]; rfl, by go_num, trivial⟩, by simp [intOf]; omega⟩
    · obtain rfl : a = n := by omega
      go_wp2_with fail
      go_ret
      exact ⟨by rw [← HN.out, List.take_length]; rfl, rfl⟩
set_option maxHeartbeats 1000000 in
theorem lowestU_any (g n : Nat) (us : List Bool) (w : World) (h : w.heap[g]? = some (bb zs us)) (hn : us.length = n) (hm : n ≤ 500) :
    Calls Tryz.prog 49 #[.int .i64 n, .slice (some ⟨g, 0, none⟩) n cp] w fun e w' => e = .returned (.int .i64 (lowU us)) ∧ w' = w := by
  have HN : Hid (us.length = n) := hn
  have hni : (n : Int) ≤ 500 := by omega
  clear hn
  go_enter Tryz.func49, Tryz.ntmps49
  go_wp2_with fail
  go_loopw [5] (fun i wr => ∃ a : Nat, a ≤ n ∧ i = .int .i64 a ∧ Hid (∀ j, j < a → us.getD j false = true) ∧ wr = w) (fun i _ => n - (intOf i).toNat)
  case atStart => exact ⟨0, Nat.zero_le _, rfl, (fun j hj => by omega), rfl⟩
  case round =>
    obtain ⟨a, ha, rfl, HA, hwr⟩ := hrel
    subst wr
    by_cases hlt : a < n
    · have hai : (a : Int) < n := by omega
      have hc := bb_cell h a (by rw [HN.out]; exact hlt)
      by_cases hb : us.getD a false = true
      · rw [hb] at hc
        have HS : Hid (∀ j, j < a + 1 → us.getD j false = true) := fun j hj => by
          by_cases e : j = a
          · rw [e]; exact hb
          · exact HA.out j (by omega)
        clear hb
        go_wp2_with fail
        exact ⟨⟨a + 1, by omega, by go_num, HS, trivial⟩, by simp [intOf]; omega⟩
      · have hb : us.getD a false = false := by simpa using hb
        have HL : Hid (lowU us = (a : Nat)) := lowU_some (by rw [HN.out]; exact hlt) hb HA.out
        rw [hb] at hc
        clear hb
        go_wp2_with fail
        try rw [Exit.noGoto_ret]
        go_ret
        exact ⟨by rw [HL.out]; rfl, rfl⟩
    · obtain rfl : a = n := by omega
      have HL : Hid (lowU us = -1) := lowU_none (by rw [HN.out]; exact HA.out)
      go_wp2_with fail
      try rw [Exit.noGoto_ret]
      go_ret
      exact ⟨by rw [HL.out]; rfl, rfl⟩
end Go.Proofs.YtfmcbjlagdanjaaGreatDoor

/- annexlaw8.does by its contract: a block is taken. -/
namespace Go.Proofs.YtfmcbjlagdanjaaGreatDoor
open Go.RowKit Go.Maps
set_option maxRecDepth 100000
variable {zs : List Value} {cp : Nat}

/-- Where a row of truths alone has turned. -/
theorem Ts.apart {w w' : World} {c : Tc} {n u : Nat} {m : List (Nat × Nat)} {bs : List Int} {us : List Bool} (h : Ts w c n m bs) (t : Turns (fun i => i = u) w w') (hu : w.heap[u]? = some (bb zs us)) (hG : ¬ c.G u) : Ts w' c n m bs := by
  have nj : c.jb ≠ u := fun e => by
    have := h.jour
    unfold Jb at this
    rw [e, hu] at this
    exact absurd (Obj.cells.inj (Option.some.inj this)).2.1 (by decide)
  have nt : c.tb ≠ u := fun e => by
    have := h.tx
    unfold Tb at this
    rw [e, hu] at this
    exact absurd (Obj.cells.inj (Option.some.inj this)).2.1 (by decide)
  have nm : c.wm ≠ u := (h.mp.ne hu).symm
  have na : c.bm ≠ u := (h.am.ne hu).symm
  have nva : ∀ p ∈ c.a, ¬ p.2 = u := fun p hp e => by
    have h9 := (h.va p hp).1
    rw [e, hu] at h9
    exact absurd (Obj.cells.inj (Option.some.inj h9)).2.1 (by decide)
  have ng : ∀ g, lk m c.b = some g → ¬ g = u := fun g hg e => by
    rcases h.see with ⟨g', h1, h2⟩ | ⟨h1, _⟩
    · rw [hg] at h1
      cases h1
      rw [e, hu] at h2
      exact absurd (Obj.cells.inj (Option.some.inj h2)).2.1 (by decide)
    · rw [hg] at h1
      cases h1
  exact { h with dev := h.dev.turns t (fun i hi e => hG (e ▸ hi)), jour := (t.block _ (heap_lt h.jour) nj).trans h.jour, tx := (t.block _ (heap_lt h.tx) nt).trans h.tx, mp := h.mp.turns t nm, am := h.am.turns t na, va := fun p hp => ⟨(t.block _ (heap_lt (h.va p hp).1) (nva p hp)).trans (h.va p hp).1, (h.va p hp).2⟩, see := h.see.turns t ng (fun g hg => nva _ (mem_lk hg)) }
theorem Wd.apart {w0 w w' : World} {wb u : Nat} {c : Tc} {D : Nat} {us : List Bool} (h : Wd w0 w wb c D) (t : Turns (fun i => i = u) w w') (hu : w.heap[u]? = some (bb zs us)) : Wd w0 w' wb c D :=
  { h with box := (t.block wb (heap_lt h.box) (fun e => by have := h.box; rw [e, hu] at this; exact absurd (Obj.cells.inj (Option.some.inj this)).2.1 (by decide))).trans h.box }
theorem Wd.s3 {w0 w : World} {wb : Nat} {c : Tc} {D : Nat} (h : Wd w0 w wb c D) : w.cell? ⟨wb, 22, none⟩ = some (.pointer (some ⟨c.tb, 0, none⟩)) ∧ (LyEx (.pointer (some ⟨wb, 0, none⟩))).run Tryz.prog w = .ok (.value (lyV (lay8 D))) w ∧ w.cell? ⟨wb, 9, none⟩ = some (.int .i64 35) := ⟨h.s.1, h.s.2, h.dt⟩
attribute [local go_sem ↓ 100000] ly_store ly_load ex_load
set_option maxHeartbeats 4000000 in
theorem does_full {w0 w : World} {wb ub n D : Nat} {c : Tc} {m : List (Nat × Nat)} {bs : List Int} {us : List Bool} (A0 : Wd w0 w wb c D) (T0 : Ts w c n m bs) (hu : w.heap[ub]? = some (bb zs us)) (hG : ¬ c.G ub) (hlu : us.length = D) (h2 : D ≤ 500) (hT : Tells bs us) (hb0 : Below w0.heap.size w0 w) (hB : Bds w0) (K : Int) (hall : ∀ j, j < us.length → us.getD j false = true) (hlow : lowU us = -1) :
    Calls Tryz.prog 16 #[.pointer (some ⟨wb, 0, none⟩), .slice (some ⟨ub, 0, none⟩) D cp, .agg #[.bool false, .int .i64 K]] w fun e w' => ∃ n' m' bs' us', e = .returned (.bool true) ∧ n' ≤ n + 2 ∧ Wd w0 w' wb c D ∧ Ts w' c n' m' bs' ∧ w'.heap[ub]? = some (bb zs us') ∧ us'.length = D ∧ Tells bs' us' ∧ Below w0.heap.size w w' ∧ Turns (fun i => c.G i ∨ i = c.wm ∨ i = ub) w w' := by
  have HL : Hid (lowU us = -1) := hlow
  have HZ : Hid (lowZ bs D = -1) := lowZ_none (fun j hj => by rw [hT j (by omega)]; exact hall j (by omega))
  have HT : Hid (Tells bs us) := hT
  clear hlow hT
  have hs := hb0.size
  obtain ⟨W1, hW1⟩ : ∃ W, w.alloc (.cells #[.bool false, .int .i64 K] 46) = W := ⟨_, rfl⟩
  have p1 : Below w.heap.size w W1 := by rw [← hW1]; exact (Below.refl _ w).alloc (Nat.le_refl _) _
  have d1 : W1.heap[w.heap.size]? = some (.cells #[.bool false, .int .i64 K] 46 (0, 0)) := by rw [← hW1]; exact heap_alloc_last w _
  have df : W1.cell? ⟨w.heap.size, 0, none⟩ = some (.bool false) := by simp [World.cell?, d1]
  have dk : W1.cell? ⟨w.heap.size, 1, none⟩ = some (.int .i64 K) := by simp [World.cell?, d1]
  have A1 := A0.below p1
  have T1 := T0.below p1
  have u1 := (p1.block ub (heap_lt hu)).trans hu
  have b1 : Below w0.heap.size w W1 := p1.mono hs
  have r1 : Turns (fun i => c.G i ∨ i = c.wm ∨ i = ub) w W1 := Below.turns p1 _
  have B0 := hB.later (hb0.trans b1) (Nat.le_refl _)
  have s1 : w0.heap.size ≤ W1.heap.size := Nat.le_trans hs p1.size
  have hbl := T0.len
  have hD5 : (D : Int) ≤ 500 := by omega
  go_enter Tryz.func16, Tryz.ntmps16
  go_wp2_with fail
  try rw [hW1]
  clear hW1
  go_wp2_with fail
  have L1 := lowestU_any (cp := cp) ub D us W1 u1 hlu h2
  rw [HL.out] at L1
  refine L1.mono ?_
  rintro e wz ⟨rfl, hwz⟩
  subst wz
  have x1 := A1.t
  have q1 := A1.drew.s
  clear L1
  obtain ⟨w1, hw1⟩ : ∃ W, W1 = W := ⟨_, rfl⟩
  subst W1
  go_wp2_with fail
  have B1 : Bds w1.drew := B0.drew
  go_region_held3 (fun w' => w'.cell? ⟨wb, 22, none⟩ = some (.pointer (some ⟨c.tb, 0, none⟩)) ∧ (LyEx (.pointer (some ⟨wb, 0, none⟩))).run Tryz.prog w' = .ok (.value (lyV (lay8 D))) w')
    (first | with_reducible exact q1 | with_reducible exact q2)
    (first
      | (go_at_call 12; refine (alloc_full T1.drew A1.fit B1 HZ.out).mono ?_; rintro e w2 ⟨rfl, T2, t2⟩; have t2 := (t2.fromDrew).mono (G := fun i => c.G i ∨ i = c.wm) (fun _ _ => Or.inl); have A2 := A1.later t2; have q2 := A2.s))
  have b2 := b1.trans (A1.turned t2 s1)
  have r2 := r1.trans t2 (fun i _ r => r.elim Or.inl (fun e => Or.inr (Or.inl e)))
  have u2 := (t2.block ub (heap_lt u1) (fun h => h.elim hG (T1.mp.ne u1))).trans u1
  have y2 := A2.dt
  clear x1 q1 A1 T1 b1 t2 B1 s1 u1
  go_wp2_with fail
  refine (num8_any _ _).mono ?_
  rintro e wz ⟨rfl, hwz⟩
  subst wz
  go_wp2_with fail
  go_ret
  exact ⟨_, _, _, _, rfl, by omega, A2, T2, u2, hlu, HT.out, b2, r2⟩
set_option maxHeartbeats 4000000 in
theorem does_take {w0 w : World} {wb ub n D : Nat} {c : Tc} {m : List (Nat × Nat)} {bs : List Int} {us : List Bool} (A0 : Wd w0 w wb c D) (T0 : Ts w c n m bs) (hu : w.heap[ub]? = some (bb zs us)) (hG : ¬ c.G ub) (hlu : us.length = D) (h2 : D ≤ 500) (hT : Tells bs us) (hn : n ≤ 2100) (hsu : w0.heap.size ≤ ub) (hb0 : Below w0.heap.size w0 w) (hB : Bds w0) (K : Int) (i : Nat) (hi : i < us.length) (hi0 : us.getD i false = false) (hil : ∀ j, j < i → us.getD j false = true) (hlow : lowU us = (i : Nat)) :
    Calls Tryz.prog 16 #[.pointer (some ⟨wb, 0, none⟩), .slice (some ⟨ub, 0, none⟩) D cp, .agg #[.bool false, .int .i64 K]] w fun e w' => ∃ n' m' bs' us', e = .returned (.bool true) ∧ n' ≤ n + 2 ∧ Wd w0 w' wb c D ∧ Ts w' c n' m' bs' ∧ w'.heap[ub]? = some (bb zs us') ∧ us'.length = D ∧ Tells bs' us' ∧ Below w0.heap.size w w' ∧ Turns (fun i => c.G i ∨ i = c.wm ∨ i = ub) w w' := by
  have HL : Hid (lowU us = (i : Nat)) := hlow
  have hiD : i < D := by omega
  have hii : (i : Int) < D := by omega
  have HZ : Hid (lowZ bs D = (i : Int)) := lowZ_some hiD (by rw [hT i hi]; exact hi0) (fun j hj => by rw [hT j (by omega)]; exact hil j hj)
  have HT2 : Hid (Tells (flipB bs i) (us.set i true)) := hT.set T0.len (by omega) i hi true (by rw [hi0]; rfl)
  have hwr : IntKind.i64.wrap (35 + (i : Int)) = 35 + i := Go.IntWalk.i64_in _ ⟨by omega, by omega⟩
  have HT : Hid (Tells bs us) := hT
  clear hlow hT hil
  have hs := hb0.size
  obtain ⟨W1, hW1⟩ : ∃ W, w.alloc (.cells #[.bool false, .int .i64 K] 46) = W := ⟨_, rfl⟩
  have p1 : Below w.heap.size w W1 := by rw [← hW1]; exact (Below.refl _ w).alloc (Nat.le_refl _) _
  have d1 : W1.heap[w.heap.size]? = some (.cells #[.bool false, .int .i64 K] 46 (0, 0)) := by rw [← hW1]; exact heap_alloc_last w _
  have df : W1.cell? ⟨w.heap.size, 0, none⟩ = some (.bool false) := by simp [World.cell?, d1]
  have dk : W1.cell? ⟨w.heap.size, 1, none⟩ = some (.int .i64 K) := by simp [World.cell?, d1]
  have A1 := A0.below p1
  have T1 := T0.below p1
  have u1 := (p1.block ub (heap_lt hu)).trans hu
  have b1 : Below w0.heap.size w W1 := p1.mono hs
  have r1 : Turns (fun i => c.G i ∨ i = c.wm ∨ i = ub) w W1 := Below.turns p1 _
  have B0 := hB.later (hb0.trans b1) (Nat.le_refl _)
  have s1 : w0.heap.size ≤ W1.heap.size := Nat.le_trans hs p1.size
  have hbl := T0.len
  have hD5 : (D : Int) ≤ 500 := by omega
  go_enter Tryz.func16, Tryz.ntmps16
  go_wp2_with fail
  try rw [hW1]
  clear hW1
  go_wp2_with fail
  have L1 := lowestU_any (cp := cp) ub D us W1 u1 hlu h2
  rw [HL.out] at L1
  refine L1.mono ?_
  rintro e wz ⟨rfl, hwz⟩
  subst wz
  have x1 := A1.t
  have q1 := A1.drew.s
  clear L1
  obtain ⟨w1, hw1⟩ : ∃ W, W1 = W := ⟨_, rfl⟩
  subst W1
  go_wp2_with fail
  have B1 : Bds w1.drew := B0.drew
  go_region_held3 (fun w' => w'.cell? ⟨wb, 22, none⟩ = some (.pointer (some ⟨c.tb, 0, none⟩)) ∧ (LyEx (.pointer (some ⟨wb, 0, none⟩))).run Tryz.prog w' = .ok (.value (lyV (lay8 D))) w')
    (first | with_reducible exact q1 | with_reducible exact q2)
    (first
      | (go_at_call 12; refine (alloc_ok T1.drew A1.fit B1 i hiD HZ.out (by omega)).mono ?_; rintro e w2 ⟨g2, rfl, T2, t2⟩; have t2 := t2.fromDrew; have A2 := A1.later t2; have q2 := A2.s))
  have b2 := b1.trans (A1.turned t2 s1)
  have r2 := r1.trans t2 (fun i _ r => r.elim Or.inl (fun e => Or.inr (Or.inl e)))
  have u2 := (t2.block ub (heap_lt u1) (fun h => h.elim hG (T1.mp.ne u1))).trans u1
  have y2 := A2.dt
  have z2 := bb_cell u2 i hi
  have f2 : w2.frozen? ⟨ub, i, none⟩ = false := by simp [World.frozen?, u2]
  have tv := Turns.cell w2 ub i (.bool true)
  have u3 := bb_set u2 i hi true
  have A3 := A2.apart tv u2
  have T3 := T2.apart tv u2 hG
  have b3 := b2.trans (tv.below (fun _ e => e ▸ hsu) (Nat.le_trans hs b2.size))
  have r3 := r2.trans tv (fun _ _ e => Or.inr (Or.inr e))
  have y3 := A3.dt
  clear x1 q1 A1 T1 b1 t2 B1 s1 u1
  go_wp2_with fail
  refine (num8_any _ _).mono ?_
  rintro e wz ⟨rfl, hwz⟩
  subst wz
  go_wp2_with fail
  go_ret
  exact ⟨_, _, _, _, rfl, by omega, A3, T3, u3, by rw [List.length_set]; exact hlu, HT2.out, b3, r3⟩
end Go.Proofs.YtfmcbjlagdanjaaGreatDoor

/- annexlaw8.agrees by its contract. -/
namespace Go.Proofs.YtfmcbjlagdanjaaGreatDoor
open Go.RowKit Go.Maps
set_option maxRecDepth 100000
variable {zs : List Value} {cp : Nat}

attribute [local go_sem ↓ 100000] ly_store ly_load ex_load
set_option maxHeartbeats 4000000 in
theorem agrees_ok {w0 w : World} {wb ub n D : Nat} {c : Tc} {m : List (Nat × Nat)} {bs : List Int} {us : List Bool} (A0 : Wd w0 w wb c D) (T0 : Ts w c n m bs) (hu : w.heap[ub]? = some (bb zs us)) (hG : ¬ c.G ub) (hlu : us.length = D) (h2 : D ≤ 500) (hT : Tells bs us) (hb0 : Below w0.heap.size w0 w) (hB : Bds w0) :
    Calls Tryz.prog 18 #[.pointer (some ⟨wb, 0, none⟩), .slice (some ⟨ub, 0, none⟩) D cp] w fun e w' => e = .returned (.bool true) ∧ Wd w0 w' wb c D ∧ Ts w' c n m bs ∧ w'.heap[ub]? = some (bb zs us) ∧ Below w0.heap.size w w' ∧ Turns (fun i => c.G i ∨ i = c.wm ∨ i = ub) w w' := by
  have HC : Hid (cntB bs D = us.count true) := by
    have := hT.cnt us.length (Nat.le_refl _)
    rw [List.take_length, hlu] at this
    exact this
  have HT : Hid (Tells bs us) := hT
  have hs := hb0.size
  have hD5 : (D : Int) ≤ 500 := by omega
  have hwD : IntKind.i64.wrap (35 + (D : Int)) = 35 + D := Go.IntWalk.i64_in _ ⟨by omega, by omega⟩
  have hcl : us.count true ≤ 500 := Nat.le_trans List.count_le_length (by omega)
  obtain ⟨C, hCe⟩ : ∃ C, us.count true = C := ⟨_, rfl⟩
  have HC2 : Hid (us.count true = C) := hCe
  have b0 : Below w0.heap.size w w := Below.refl _ w
  have u0 := hu
  obtain ⟨w1, hw1⟩ : ∃ W, w = W := ⟨_, rfl⟩
  have A1 := A0
  have T1 := T0
  have b1 := b0
  have r1 : Turns (fun i => c.G i ∨ i = c.wm ∨ i = ub) w w1 := by rw [← hw1]; exact Turns.refl _ _
  have u1 := u0
  have x1 := A1.t
  rw [hw1] at A1 T1 u1 x1
  rw [show Below w0.heap.size w w = Below w0.heap.size w w1 by rw [hw1]] at b1
  have U1 := used_ok T1.drew A1.fit (hB.later (hb0.trans b1) (Nat.le_refl _)).drew
  rw [HC.out, hCe] at U1
  clear hT hCe A0 T0 hu b0 u0
  go_enter Tryz.func18, Tryz.ntmps18
  rw [hw1]
  go_wp2_with fail
  have B1 : Bds w1.drew := (hB.later (hb0.trans b1) (Nat.le_refl _)).drew
  have q1 := A1.drew.s3
  go_region_held3 (fun w' => w'.cell? ⟨wb, 22, none⟩ = some (.pointer (some ⟨c.tb, 0, none⟩)) ∧ (LyEx (.pointer (some ⟨wb, 0, none⟩))).run Tryz.prog w' = .ok (.value (lyV (lay8 D))) w' ∧ w'.cell? ⟨wb, 9, none⟩ = some (.int .i64 35))
    (first | with_reducible exact q1 | with_reducible exact q2)
    (first
      | (go_at_call 15; refine (U1).mono ?_; rintro e w2 ⟨rfl, T2, t2⟩; have t2 := (t2.fromDrew).mono (G := fun i => c.G i ∨ i = c.wm) (fun _ _ => Or.inl); have A2 := A1.later t2; have q2 := A2.s3))
  have b2 := b1.trans (A1.turned t2 (Nat.le_trans hs b1.size))
  have r2 := r1.trans t2 (fun i _ r => r.elim Or.inl (fun e => Or.inr (Or.inl e)))
  have u2 := (t2.block ub (heap_lt u1) (fun h => h.elim hG (T1.mp.ne u1))).trans u1
  clear q1 A1 T1 b1 t2 B1 u1
  clear U1 x1
  have L2 := count_any (cp := cp) ub D us w2 u2 hlu h2
  rw [HC2.out] at L2
  go_wp2_with fail
  refine (num8_any _ _).mono ?_
  rintro e wz ⟨rfl, hwz⟩
  subst wz
  go_wp2_with fail
  refine L2.mono ?_
  rintro e wz ⟨rfl, hwz⟩
  subst wz
  clear L2
  go_wp2_with fail
  go_loopw [7] (fun i wr => ∃ a : Nat, a ≤ D ∧ i = .int .i64 a ∧ Wd w0 wr wb c D ∧ Ts wr c n m bs ∧ wr.heap[ub]? = some (bb zs us) ∧ Below w0.heap.size w wr ∧ Turns (fun i => c.G i ∨ i = c.wm ∨ i = ub) w wr) (fun i _ => D - (intOf i).toNat)
  case atStart => exact ⟨0, Nat.zero_le _, rfl, A2, T2, u2, b2, r2⟩
  case round =>
    obtain ⟨a, ha, rfl, A3, T3, u3, b3, r3⟩ := hrel
    obtain ⟨w3, hw3⟩ : ∃ W, wr = W := ⟨_, rfl⟩
    subst wr
    have x3 := A3.t
    clear A2 T2 u2 b2
    by_cases hlt : a < D
    · have hai : (a : Int) < D := by omega
      have hau : a < us.length := by omega
      have hwr : IntKind.i64.wrap (35 + (a : Int)) = 35 + a := Go.IntWalk.i64_in _ ⟨by omega, by omega⟩
      have V3 := has_ok T3.drew A3.fit (hB.later (hb0.trans b3) (Nat.le_refl _)).drew a hlt
      rw [HT.out a hau] at V3
      have z3 := bb_cell u3 a hau
      obtain ⟨y, hy⟩ : ∃ y, us.getD a false = y := ⟨_, rfl⟩
      rw [hy] at V3 z3
      go_wp2_with fail
      have B3 : Bds w3.drew := (hB.later (hb0.trans b3) (Nat.le_refl _)).drew
      have q3 := A3.drew.s3
      go_region_held3 (fun w' => w'.cell? ⟨wb, 22, none⟩ = some (.pointer (some ⟨c.tb, 0, none⟩)) ∧ (LyEx (.pointer (some ⟨wb, 0, none⟩))).run Tryz.prog w' = .ok (.value (lyV (lay8 D))) w' ∧ w'.cell? ⟨wb, 9, none⟩ = some (.int .i64 35))
        (first | with_reducible exact q3 | with_reducible exact q4)
        (first
          | (go_at_call 21; refine (V3).mono ?_; rintro e w4 ⟨rfl, T4, t4⟩; have t4 := (t4.fromDrew).mono (G := fun i => c.G i ∨ i = c.wm) (fun _ _ => Or.inl); have A4 := A3.later t4; have q4 := A4.s3))
      have b4 := b3.trans (A3.turned t4 (Nat.le_trans hs b3.size))
      have r4 := r3.trans t4 (fun i _ r => r.elim Or.inl (fun e => Or.inr (Or.inl e)))
      have u4 := (t4.block ub (heap_lt u3) (fun h => h.elim hG (T3.mp.ne u3))).trans u3
      clear q3 A3 T3 b3 t4 B3 u3
      have z4 := bb_cell u4 a hau
      rw [hy] at z4
      clear V3 z3 x3 hy
      go_wp2_with fail
      refine (num8_any _ _).mono ?_
      rintro e wz ⟨rfl, hwz⟩
      subst wz
      go_wp2_with fail
      exact ⟨⟨a + 1, by omega, by go_num, A4, T4, u4, b4, r4⟩, by simp [intOf]; omega⟩
    · have e : D = a := by omega
      subst e
      go_wp2_with fail
      have B3 : Bds w3.drew := (hB.later (hb0.trans b3) (Nat.le_refl _)).drew
      have q3 := A3.drew.s3
      go_region_held3 (fun w' => w'.cell? ⟨wb, 22, none⟩ = some (.pointer (some ⟨c.tb, 0, none⟩)) ∧ (LyEx (.pointer (some ⟨wb, 0, none⟩))).run Tryz.prog w' = .ok (.value (lyV (lay8 D))) w' ∧ w'.cell? ⟨wb, 9, none⟩ = some (.int .i64 35))
        (first | with_reducible exact q3 | with_reducible exact q4)
        (first
          | (go_at_call 21; refine (has_no (tb := c.tb) A3.fit B3 34 (Or.inl (by omega))).mono ?_; rintro e w4 ⟨rfl, t4⟩; have z4 := t4; have t4 := Turns.mono (Below.turns (Below.fromDrew t4) c.G) (G := fun i => c.G i ∨ i = c.wm) (fun _ _ => Or.inl); have T4 := T3.turns (Below.turns (Below.fromDrew z4) c.G) (T3.dev.below (Below.fromDrew z4)); have A4 := A3.later t4; have q4 := A4.s3))
      have b4 := b3.trans (A3.turned t4 (Nat.le_trans hs b3.size))
      have r4 := r3.trans t4 (fun i _ r => r.elim Or.inl (fun e => Or.inr (Or.inl e)))
      have u4 := (t4.block ub (heap_lt u3) (fun h => h.elim hG (T3.mp.ne u3))).trans u3
      clear q3 A3 T3 b3 t4 B3 u3
      have x4 := A4.t
      clear x3
      go_wp2_with fail
      have B4 : Bds w4.drew := (hB.later (hb0.trans b4) (Nat.le_refl _)).drew
      have q4 := A4.drew.s3
      go_region_held3 (fun w' => w'.cell? ⟨wb, 22, none⟩ = some (.pointer (some ⟨c.tb, 0, none⟩)) ∧ (LyEx (.pointer (some ⟨wb, 0, none⟩))).run Tryz.prog w' = .ok (.value (lyV (lay8 D))) w' ∧ w'.cell? ⟨wb, 9, none⟩ = some (.int .i64 35))
        (first | with_reducible exact q4 | with_reducible exact q5)
        (first
          | (go_at_call 21; refine (has_no (tb := c.tb) A4.fit B4 (35 + D) (Or.inr (by omega))).mono ?_; rintro e w5 ⟨rfl, t5⟩; have z5 := t5; have t5 := Turns.mono (Below.turns (Below.fromDrew t5) c.G) (G := fun i => c.G i ∨ i = c.wm) (fun _ _ => Or.inl); have T5 := T4.turns (Below.turns (Below.fromDrew z5) c.G) (T4.dev.below (Below.fromDrew z5)); have A5 := A4.later t5; have q5 := A5.s3))
      have b5 := b4.trans (A4.turned t5 (Nat.le_trans hs b4.size))
      have r5 := r4.trans t5 (fun i _ r => r.elim Or.inl (fun e => Or.inr (Or.inl e)))
      have u5 := (t5.block ub (heap_lt u4) (fun h => h.elim hG (T4.mp.ne u4))).trans u4
      clear q4 A4 T4 b4 t5 B4 u4
      have x5 := A5.t
      clear x4
      go_wp2_with fail
      have B5 : Bds w5.drew := (hB.later (hb0.trans b5) (Nat.le_refl _)).drew
      have q5 := A5.drew.s3
      go_region_held3 (fun w' => w'.cell? ⟨wb, 22, none⟩ = some (.pointer (some ⟨c.tb, 0, none⟩)) ∧ (LyEx (.pointer (some ⟨wb, 0, none⟩))).run Tryz.prog w' = .ok (.value (lyV (lay8 D))) w' ∧ w'.cell? ⟨wb, 9, none⟩ = some (.int .i64 35))
        (first | with_reducible exact q5 | with_reducible exact q6)
        (first
          | (go_at_call 14; refine (free_no (tb := c.tb) A5.fit B5 (35 + D) (Or.inr (by omega))).mono ?_; rintro e w6 ⟨rfl, t6⟩; have z6 := t6; have t6 := Turns.mono (Below.turns (Below.fromDrew t6) c.G) (G := fun i => c.G i ∨ i = c.wm) (fun _ _ => Or.inl); have T6 := T5.turns (Below.turns (Below.fromDrew z6) c.G) (T5.dev.below (Below.fromDrew z6)); have A6 := A5.later t6; have q6 := A6.s3))
      have b6 := b5.trans (A5.turned t6 (Nat.le_trans hs b5.size))
      have r6 := r5.trans t6 (fun i _ r => r.elim Or.inl (fun e => Or.inr (Or.inl e)))
      have u6 := (t6.block ub (heap_lt u5) (fun h => h.elim hG (T5.mp.ne u5))).trans u5
      clear q5 A5 T5 b5 t6 B5 u5
      clear x5
      go_wp2_with fail
      refine (num8_any _ _).mono ?_
      rintro e wz ⟨rfl, hwz⟩
      subst wz
      go_wp2_with fail
      refine (num8_any _ _).mono ?_
      rintro e wz ⟨rfl, hwz⟩
      subst wz
      go_wp2_with fail
      refine (num8_any _ _).mono ?_
      rintro e wz ⟨rfl, hwz⟩
      subst wz
      go_wp2_with fail
      go_ret
      exact ⟨rfl, A6, T6, u6, by rw [← hw1]; exact b6, by rw [← hw1]; exact r6⟩
end Go.Proofs.YtfmcbjlagdanjaaGreatDoor
