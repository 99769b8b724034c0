/- holding, New, Image, pend by their contracts. -/
import Derived.Test.YtlcjkbhcbiggcaaGreatDoorPk02
import Derived.WalkArith
import Derived.Deep.RegionHeld3
namespace Go.Proofs.YtlcjkbhcbiggcaaGreatDoor
open Go.RowKit Go.Maps
open Go.MuLone
set_option maxRecDepth 100000

theorem law3 : Keyed Tryz.prog 3 := int_keyed Tryz.underlying3
theorem Tryz.info186 : (Tryz.prog.info? 186).map (fun i => (i.zero, i.size, i.bytes)) = some (some (.agg #[.int .i64 0, .slice none 0 0]), 2, 32) := by kernel_rfl

set_option maxHeartbeats 1000000 in
theorem holding_any (g k : Nat) (bs : List Int) (w : World) (hb : w.heap[g]? = some (bl bs)) (hG : Good (fresh bs) k) :
    Calls Tryz.prog 66 #[.slice (some ⟨g, 0, none⟩) (512 * k) (512 * k)] w fun e w' => ∃ db, e = .returned (.pointer (some ⟨db, 0, none⟩)) ∧ Dev w' db 0 (fresh bs) k 0 (grow (fun i => i = g) w w') ∧ Below w.heap.size w w' ∧ w.heap.size ≤ db := by
  have hglt := heap_lt hb
  have hM := World.ownsMap_made w Tryz.prog 3 RV
  have hb1 : Below w.heap.size w (w.alloc (.map #[] 0)) := (Below.refl _ w).alloc (Nat.le_refl _) _
  have hb2 : ∀ o, Below w.heap.size w ((w.alloc (.map #[] 0)).alloc o) := fun o => hb1.alloc hb1.size o
  have hh := fun o => (MapKept.heap_alloc (w.alloc (.map #[] 0)) o).1
  have hs1 : (w.alloc (.map #[] 0)).heap.size = w.heap.size + 1 := by simp
  have hmm := fun (w : World) => run_makeMap (P := Tryz.prog) 96 w
  go_enter Tryz.func66, Tryz.ntmps66
  go_wp2
  go_ret
  refine ⟨w.heap.size + 1, rfl, ⟨g, w.heap.size, 0, .slice none 0 0, [], .map [], ⟨hG, ?_, ?_, World.ownsRow_nil _ _ _ _, rfl, Nat.le_refl _, (fun i p g h => by simp [fresh] at h), ?_, ?_, by omega, by simp, by simp, by simp [Value.ownBlock], by simp [Value.ownBlock], by simp⟩, ⟨by simp [grow], by simp [grow], by simp [grow]; omega, (fun b h => by simp [Value.ownBlock] at h), by simp⟩, ?_⟩, hb2 _, by omega⟩
  · rw [← hs1, hh]; rfl
  · exact ((hb2 _).block g hglt).trans hb
  · exact hM.alloc _
  · intro b hb
    exact ⟨rfl, fun zd => rfl⟩
  · intro i hi
    rcases hi with rfl | h
    · simp; omega
    · exact h.2

theorem zeros_bl (w : World) (n : Nat) : (w.alloc (.cells (madeCells #[.int .u8 0] n) 5)).heap[w.heap.size]? = some (bl (List.replicate n 0)) := by
  rw [made_row]; simp

set_option maxHeartbeats 1000000 in
theorem new_good (k : Nat) (w : World) (h1 : 1 ≤ k) (h2 : k ≤ 4096) :
    Calls Tryz.prog 32 #[.int .i64 k] w fun e w' => ∃ db, e = .returned (.pointer (some ⟨db, 0, none⟩)) ∧ Dev w' db 0 (fresh (List.replicate (512 * k) 0)) k 0 (grow (fun _ => False) w w') ∧ Below w.heap.size w w' := by
  obtain ⟨i0, hi, hz0, hz1, hz2⟩ := info_parts Tryz.info5
  have h1i : (1 : Int) ≤ k := by omega
  have h2i : (k : Int) ≤ 4096 := by omega
  have hk := decide_eq_true (show (1 : Int) ≤ k ∧ (k : Int) ≤ 4096 from ⟨h1i, h2i⟩)
  have hG : Good (fresh (List.replicate (512 * k) 0)) k := Good.fresh (by simp) h1 h2 (fun x hx => by have := List.eq_of_mem_replicate hx; omega)
  have hz := zeros_bl w (512 * k)
  have hb1 : Below w.heap.size w (w.alloc (.cells (madeCells #[.int .u8 0] (512 * k)) 5)) := (Below.refl _ w).alloc (Nat.le_refl _) _
  go_enter Tryz.func32, Tryz.ntmps32
  go_wp2_with (first
    | (go_at_call 65; refine (canBe_any _ _).mono ?_; rintro e wn ⟨rfl, hwn⟩; subst wn; rw [hk])
    | (at_make; refine wpList_make_row _ rfl _ _ 39 rfl 5 i0 (.int .u8 0) Tryz.underlying39 hi hz0 hz1 rfl .i64 .i64 (512 * k) (by show Value.int .i64 ((k : Int) * 512) = _; congr 1; omega) (by show Value.int .i64 ((k : Int) * 512) = _; congr 1; omega) (by rw [hz2]; omega) (by omega) ?_))
  refine (holding_any w.heap.size k _ _ hz hG).mono ?_
  rintro e w2 ⟨db, rfl, hD, hb2, _⟩
  go_wp2
  go_ret
  have hs2 := hb2.size
  have hs1 := heap_lt hz
  refine ⟨db, rfl, hD.foot ?_ (fun i hi => (hi.elim False.elim id).2), hb1.trans (hb2.mono hb1.size)⟩
  rintro i (rfl | h)
  · exact Or.inr ⟨Nat.le_refl _, by omega⟩
  · exact Or.inr ⟨Nat.le_trans hb1.size h.1, h.2⟩

set_option maxHeartbeats 1000000 in
theorem new_bad (n : Int) (w : World) (h : ¬ (1 ≤ n ∧ n ≤ 4096)) :
    Calls Tryz.prog 32 #[.int .i64 n] w fun e w' => e = .returned (.pointer none) ∧ w' = w := by
  have hk := decide_eq_false h
  go_enter Tryz.func32, Tryz.ntmps32
  go_wp2_with (go_at_call 65; refine (canBe_any _ _).mono ?_; rintro e wn ⟨rfl, hwn⟩; subst wn; rw [hk])
  go_ret
  exact ⟨rfl, rfl⟩
end Go.Proofs.YtlcjkbhcbiggcaaGreatDoor

/- pend by its contract. -/
namespace Go.Proofs.YtlcjkbhcbiggcaaGreatDoor
open Go.RowKit Go.Maps
open Go.MuLone
set_option maxRecDepth 100000

theorem cell_two_new (w : World) (x y : Value) (t : TypeId) : ∀ j u, [x, y][j]? = some u → (w.alloc (.cells #[x, y] t)).cell? ((⟨w.heap.size, 0, none⟩ : Addr).add j) = some u := by
  intro j u hj
  match j, hj with
  | 0, hj => simp at hj; subst hj; simp [Addr.add]
  | 1, hj => simp at hj; subst hj; simp [Addr.add]
theorem row_slice {w : World} {base e size n : Nat} {v : Value} {xs : List Value} (h : w.ownsRow base e size v n xs) : ∃ ao c, v = .slice ao n c := by
  rcases h.2 with ⟨hv, rfl⟩ | ⟨g', cap', cur, hv, _⟩
  · exact ⟨none, 0, hv⟩
  · exact ⟨_, _, hv⟩
theorem put_at {ps : List (Nat × List Int)} {gs : List Nat} {D : DataW Value} (hl : gs.length = ps.length) (hm : IsMap D) (b : Nat) (d : List Int) (g : Nat)
    (h : ∀ b : Nat, b < 4096 → Maps.has D (.int .i64 b) = (newestG ps gs b).isSome ∧ ∀ zd, D.atKey (.int .i64 b) zd = ((newestG ps gs b).map (fun g => DataW.held (hv g))).getD zd) :
    ∀ x : Nat, x < 4096 → Maps.has (D.put (.int .i64 b) (.held (hv g))) (.int .i64 x) = (newestG (ps ++ [(b, d)]) (gs ++ [g]) x).isSome ∧ ∀ zd, (D.put (.int .i64 b) (.held (hv g))).atKey (.int .i64 x) zd = ((newestG (ps ++ [(b, d)]) (gs ++ [g]) x).map (fun g => DataW.held (hv g))).getD zd := fun x hx => by
  rw [newestG_snoc ps gs b d g x hl]
  by_cases e : b = x
  · subst e
    rw [if_pos rfl]
    exact ⟨has_put_same hm (by exact trivial) _, fun zd => atKey_put_same hm (by exact trivial) _ _⟩
  · have hne : (Lit.int .i64 (x : Int)) ≠ .int .i64 (b : Int) := fun q => e (by have := (Lit.int.injEq _ _ _ _).mp q; omega)
    rw [if_neg e, has_put_other hne]
    obtain ⟨h1, h2⟩ := h x hx
    exact ⟨h1, fun zd => by rw [atKey_put_other hne]; exact h2 zd⟩

/-- What pend leaves. -/
def PendR (w w' : World) (db : Nat) (st : Int) (S : DevS) (k N gl bm : Nat) (q : Int) (pv : Value) (gs : List Nat) : Prop :=
  ∃ pv' Dm', DevX w' db st S k N gl bm q pv' gs Dm' ∧ Turns (fun i => i = db ∨ i = bm ∨ pv.ownBlock = some i) w w' ∧ (pv'.ownBlock = pv.ownBlock ∨ ∃ i, pv'.ownBlock = some i ∧ w.heap.size ≤ i)
theorem DevX.pended {w w1 w3 : World} {db : Nat} {S : DevS} {k N gl bm : Nat} {q st : Int} {pv pv' : Value} {gs : List Nat} {Dm : DataW Value} (h : DevX w db st S k N gl bm q pv gs Dm) (b g : Nat) (d : List Int) (hb : b < k)
    (hg : w.heap[g]? = some (bl d)) (hd : d.length = 512) (hy : ∀ x ∈ d, 0 ≤ x ∧ x ≤ 255) (n1 : g ≠ db) (n2 : g ≠ gl) (n3 : pv.ownBlock ≠ some g)
    (hT1 : Turns (fun i => pv.ownBlock = some i) w w1) (ho1 : w1.ownsRow 0 186 2 pv' (S.pend.length + 1) (pc S.pend gs ++ [.int .i64 b, hv g])) (hat : pv'.ownBlock = pv.ownBlock ∨ ∃ i, pv'.ownBlock = some i ∧ w.heap.size ≤ i)
    (hg3 : (w1.setCell ⟨db, 3, none⟩ pv').grownBy w3 (some bm)) (hm3 : w3.ownsMap Tryz.prog 3 RV bm (N + 1) (Dm.put (.int .i64 b) (.held (hv g)))) : PendR w w3 db st (wrote S b d) k (N + 1) gl bm q pv (gs ++ [g]) := by
  have hT2 : Turns (fun i => i = db) w1 (w1.setCell ⟨db, 3, none⟩ pv') := Turns.cell w1 db 3 pv'
  have hT3 : Turns (fun i => i = bm) (w1.setCell ⟨db, 3, none⟩ pv') w3 := Turns.grown hg3 (fun b hb => (Option.some.inj hb).symm)
  have hT : Turns (fun i => i = db ∨ i = bm ∨ pv.ownBlock = some i) w w3 := ((hT1.mono (fun i _ h => Or.inr (Or.inr h))).trans hT2 (fun i _ h => Or.inl h)).trans hT3 (fun i _ h => Or.inr (Or.inl h))
  have hmg : bm ≠ g := fun e => by
    obtain ⟨es, cl, hx, _⟩ := h.map
    rw [e, hg] at hx; cases hx
  have hdlt := heap_lt h.blk
  have hllt := heap_lt h.lst
  have hglt := heap_lt hg
  have hpb : ∀ i, i < w.heap.size → pv.ownBlock ≠ some i → pv'.ownBlock ≠ some i := fun i hi hne e => by
    rcases hat with h1 | ⟨j, h1, h2⟩
    · exact hne (by rw [← h1]; exact e)
    · rw [h1] at e; cases e; omega
  have hgs : ∀ x ∈ gs, x < w.heap.size := fun x hx => by
    obtain ⟨i, hi⟩ := List.mem_iff_getElem?.1 hx
    have hlt : i < S.pend.length := by rw [← h.gsl]; exact (List.getElem?_eq_some_iff.1 hi).1
    exact heap_lt (h.dat i _ _ (List.getElem?_eq_getElem hlt) hi)
  have hdb1 : w1.heap[db]? = w.heap[db]? := hT1.block db hdlt h.a4
  have hblk1 := hdb1.trans h.blk
  refine ⟨pv', _, ⟨h.good.wrote hb hd hy, ?_, ?_, ?_, ?_, ?_, ?_, hm3, put_at h.gsl h.map.isMap b d g h.at_, h.a1, ?_, ?_, ?_, ?_, ?_⟩, hT, hat⟩
  · rw [hT3.block db (by have := hT1.size; simp [World.setCell]; omega) (fun e => h.mdb e.symm), heap_setCell_same _ _ _ _ _ _ hblk1]; rfl
  · exact (hT.block gl hllt (fun e => e.elim (fun e => h.a1 e.symm) (fun e => e.elim (fun e => h.mgl e.symm) (fun e => h.a5 e)))).trans h.lst
  · have e1 : (wrote S b d).pend.length = S.pend.length + 1 := by simp [wrote]
    have e2 : pc (wrote S b d).pend (gs ++ [g]) = pc S.pend gs ++ [.int .i64 b, hv g] := pc_snoc _ _ _ _ _ h.gsl
    rw [e1, e2]
    have o2 := own_turns ho1 hT2 (fun x hx e => by subst e; exact hpb x hdlt h.a4 hx)
    refine own_turns o2 hT3 (fun x hx e => ?_)
    subst e
    exact hpb x h.map.lt h.mpv hx
  · simp [wrote, h.gsl]
  · have := h.pn; simp [wrote]; omega
  · intro i p g' h1 h2
    have hold : ∀ x, x < w.heap.size → (x ∈ gs ∨ x = g) → w3.heap[x]? = w.heap[x]? := fun x hx hh => hT.block x hx (by
      rintro (e | e | e)
      · rcases hh with hh | hh
        · exact h.a2 (by rw [← e]; exact hh)
        · exact n1 (by rw [← hh, e])
      · rcases hh with hh | hh
        · exact h.mgs (by rw [← e]; exact hh)
        · exact hmg (by rw [← e, hh])
      · rcases hh with hh | hh
        · exact h.a6 x hh e
        · exact n3 (by rw [← hh]; exact e))
    simp only [wrote] at h1
    by_cases hi : i < S.pend.length
    · rw [List.getElem?_append_left hi] at h1
      rw [List.getElem?_append_left (by rw [h.gsl]; exact hi)] at h2
      have hx := h.dat i p g' h1 h2
      exact (hold g' (heap_lt hx) (Or.inl (List.mem_of_getElem? h2))).trans hx
    · rw [List.getElem?_append_right (by omega)] at h1
      rw [List.getElem?_append_right (by rw [h.gsl]; omega), h.gsl] at h2
      have hi0 : i - S.pend.length = 0 := by
        have := (List.getElem?_eq_some_iff.1 h1).1
        simp at this; omega
      rw [hi0] at h1 h2
      simp at h1 h2
      subst h1; subst h2
      exact (hold g hglt (Or.inr rfl)).trans hg
  · intro hx
    rcases List.mem_append.1 hx with hx | hx
    · exact h.a2 hx
    · exact n1 (List.mem_singleton.1 hx).symm
  · intro hx
    rcases List.mem_append.1 hx with hx | hx
    · exact h.a3 hx
    · exact n2 (List.mem_singleton.1 hx).symm
  · exact hpb db hdlt h.a4
  · exact hpb gl hllt h.a5
  · intro x hx
    rcases List.mem_append.1 hx with hx | hx
    · exact hpb x (hgs x hx) (h.a6 x hx)
    · obtain rfl := List.mem_singleton.1 hx
      exact hpb x hglt n3

set_option maxHeartbeats 2000000 in
theorem pend_any {w : World} {db : Nat} {S : DevS} {k N gl bm : Nat} {q st : Int} {pv : Value} {gs : List Nat} {Dm : DataW Value} (h : DevX w db st S k N gl bm q pv gs Dm) (b g : Nat) (d : List Int) (hb : b < k) (hN : N ≤ 1099511627776)
    (hg : w.heap[g]? = some (bl d)) (hd : d.length = 512) (hy : ∀ x ∈ d, 0 ≤ x ∧ x ≤ 255) (n1 : g ≠ db) (n2 : g ≠ gl) (n3 : pv.ownBlock ≠ some g) :
    Calls Tryz.prog 173 #[.pointer (some ⟨db, 0, none⟩), .int .i64 b, hv g] w fun e w' => e = .returned (.tuple #[]) ∧ PendR w w' db st (wrote S b d) k (N + 1) gl bm q pv (gs ++ [g]) := by
  obtain ⟨i0, hi, hz0, hz1, hz2⟩ := info_parts Tryz.info186
  obtain ⟨c0, c2, c3, c4, c5, c6, fz⟩ := h.cells
  have f3 := fz 3
  obtain ⟨pa, pcp, hpv⟩ := row_slice h.row
  have hpn := h.pn
  have htop := h.good.top
  have hkey := keyOf_int_mk (a := (b : Int)) Tryz.underlying3 (q := .i64) (WalkArith.wf_i64 ⟨by omega, by omega⟩)
  have hglt := heap_lt hg
  have hdlt := heap_lt h.blk
  have ha4 := h.a4
  have hmpv := h.mpv
  have hmdb := h.mdb
  have hrow := h.row
  have hmap := h.map
  have hblk := h.blk
  have HX : Hid (DevX w db st S k N gl bm q pv gs Dm) := h
  clear h c0 c2 c5 c6 fz
  generalize hLe : S.pend.length = L at *
  have HL : Hid (S.pend.length = L) := hLe
  clear hLe
  subst hpv
  go_enter Tryz.func173, Tryz.ntmps173
  go_wp2_with (first
    | (at_builtin; refine wpList_append_own_at _ rfl (.tmp 10) (.tmp 14) 128 rfl 0 186 i0 (.agg #[.int .i64 0, .slice none 0 0]) 2 32 Tryz.underlying128 hi hz0 hz1 hz2 rfl (by decide) _ L _ rfl (hrow.alloc _) ⟨w.heap.size, 0, none⟩ 1 1 [.int .i64 b, hv g] rfl rfl (cell_two_new _ _ _ _) (by intro u hu; simp at hu; rcases hu with rfl | rfl <;> rfl) (by unfold maxLen; omega) (by omega) (Nat.zero_le _) ?_; intro v' w1 hown1 hgrow1 hnil1 hat1
       obtain ⟨pa2, pc2, hv2⟩ := row_slice hown1
       subst hv2
       have hb1 : w1.heap[db]? = w.heap[db]? := (hgrow1.block db (by simp; omega) (fun e => ha4 e.symm)).trans (((Below.refl _ w).alloc (Nat.le_refl _) _).block db hdlt)
       have c3' : w1.cell? ⟨db, 3, none⟩ = some (.slice pa L pcp) := (World.cell?_of_block hb1).trans c3
       have c4' : w1.cell? ⟨db, 4, none⟩ = some (.map (some bm)) := (World.cell?_of_block hb1).trans c4
       have f3' : w1.frozen? ⟨db, 3, none⟩ = false := (World.frozen?_of_block hb1).trans f3
       have hm1 : (w1.setCell ⟨db, 3, none⟩ (.slice pa2 (L + 1) pc2)).ownsMap Tryz.prog 3 RV bm N Dm := ((hmap.alloc _).kept hgrow1 (fun e => hmpv e.symm)).setCell hmdb _)
    | (at_mapUpdate; refine wpList_mapUpdate_own _ rfl _ _ _ 96 rfl 3 39 law3 Tryz.underlying96 RV bm N Dm rfl hm1 (by unfold maxLen; omega) _ _ (.int .i64 b) rfl rfl hkey (.held (hv g)) [] rfl ?_; intro w3 hown3 hgrow3))
  first | go_end0 | refine bodyPost_ret (results_none rfl _ _ _) rfl ?_
  refine ⟨rfl, HX.out.pended b g d hb hg hd hy n1 n2 n3 ((Turns.alloc _ w _).trans (Turns.grown (F := fun i => (Value.slice pa L pcp).ownBlock = some i) hgrow1 (fun b hb => hb)) (fun _ _ h => h)) (HL.out ▸ hown1) ?_ hgrow3 hown3⟩
  rcases hat1 with e | e
  · exact Or.inl e
  · exact Or.inr ⟨_, e, by simp⟩
end Go.Proofs.YtlcjkbhcbiggcaaGreatDoor

/- last by its contract. -/
namespace Go.Proofs.YtlcjkbhcbiggcaaGreatDoor
open Go.RowKit Go.Maps
open Go.MuLone
set_option maxRecDepth 100000

theorem DevX.laid {w w' : World} {db : Nat} {S : DevS} {k N gl bm : Nat} {q st : Int} {pv : Value} {gs : List Nat} {Dm : DataW Value} (h : DevX w db st S k N gl bm q pv gs Dm) (b : Nat) (d : List Int) (hb : b < k) (hd : d.length = 512) (hy : ∀ x ∈ d, 0 ≤ x ∧ x ≤ 255)
    (hT : Turns (fun i => i = gl) w w') (hw : w'.heap[gl]? = some (bl (layB S.last (b, d)))) : DevX w' db st { S with last := layB S.last (b, d) } k N gl bm q pv gs Dm := by
  refine ⟨⟨lay_len h.good.len hb hd, h.good.pos, h.good.top, fun x hx => ?_, h.good.pend, h.good.fuse⟩, ?_, hw, ?_, h.gsl, h.pn, ?_, ?_, h.at_, h.a1, h.a2, h.a3, h.a4, h.a5, h.a6⟩
  · rcases splice_mem hx with hx | hx
    · exact h.good.by_ x hx
    · exact hy x hx
  · exact (hT.block db (heap_lt h.blk) h.a1).trans h.blk
  · exact own_turns h.row hT (fun x hx e => h.a5 (by rw [hx, e]))
  · exact dat_turns h.dat hT (fun x hx e => h.a3 (by rw [← e]; exact hx))
  · exact map_turns h.map hT h.mgl
theorem lay_cells (l : List Int) (b : Nat) (d : List Int) (_hd : d.length = 512) : splice (l.map (Value.int .u8)) (512 * b) (d.map (Value.int .u8)) = (layB l (b, d)).map (Value.int .u8) := by
  simp [splice, layB, List.map_take, List.map_drop]

/-- copy, into a row that is known whole, as one step of a region that draws its order: only that row turns. -/
theorem step_copy_set {P : Program} {ops : Array Oper} {o : Oper} {a : Act} {w : World} {K : Act → World → Prop} {Q : Exit → Act → World → Prop} {E : Prop} (hgd : o.guard = none) (d s : Operand) (dT sT : TypeId)
    (ho : o.op = .call { callee := .builtin .copy, args := #[d, s], argTypes := #[dT, sT] }) (elem : TypeId) (hu : P.underlying dT = some (.slice elem)) (hsz : (P.info? elem).map (·.size) = some 1)
    (g off dLen dCap : Nat) (ad : Addr) (sLen sCap : Nat) (hd : a.eval d = .slice (some ⟨g, off, none⟩) dLen dCap) (hs : a.eval s = .slice (some ad) sLen sCap)
    (cur : List Value) (t : TypeId) (hg : w.heap[g]? = some (.cells cur.toArray t (0, 0))) (cs : List Value) (hn : cs.length = Nat.min sLen dLen)
    (hsrc : ∀ j v, cs[j]? = some v → w.cell? (ad.add j) = some v) (hfit : off + cs.length ≤ cur.length) (h1 : ∀ v ∈ cs, v.oneCell' = true)
    (h : ∀ w', Hid (w'.heap[g]? = some (.cells (splice cur off cs).toArray t (0, 0))) → w.grownBy w' (some g) → K (a.put o.dst (goInt cs.length)) w') :
    if Region.wanted o (yielded ops a.tmps) = true then Oper.wp P o a w K Q else E := by
  have hw : Region.wanted o (yielded ops a.tmps) = true := by simp [Region.wanted, hgd]
  rw [if_pos hw]
  have hrun := run_copy_row (P := P) w dT sT o.type elem g off dLen dCap ad sLen sCap cur.toArray t cs hu hsz hg hn hsrc (by simpa using hfit) h1
  unfold Oper.wp
  simp [execOp, ho, resolve, invoke, builtin, hd, hs, hrun, Result.andThen]
  exact h _ (show _ = _ by simpa [splice] using setRow_heap w g _ _ t _ hg) ⟨rfl, rfl, rfl, by simp [World.setRow], fun i _ hi => setRow_other w g i _ (fun e => hi (by rw [e]))⟩

set_option maxHeartbeats 4000000 in
theorem last_any {w : World} {db : Nat} {S : DevS} {k N gl bm : Nat} {q st : Int} {pv : Value} {gs : List Nat} {Dm : DataW Value} (h : DevX w db st S k N gl bm q pv gs Dm) (b g : Nat) (d : List Int) (hb : b < k)
    (hg : w.heap[g]? = some (bl d)) (hd : d.length = 512) (hy : ∀ x ∈ d, 0 ≤ x ∧ x ≤ 255) :
    Calls Tryz.prog 157 #[.pointer (some ⟨db, 0, none⟩), .agg #[.int .i64 b, hv g]] w fun e w' => e = .returned (.tuple #[]) ∧ DevX w' db st { S with last := layB S.last (b, d) } k N gl bm q pv gs Dm ∧ Turns (fun i => i = gl) w w' := by
  have hsz : (Tryz.prog.info? 5).map (·.size) = some 1 := by kernel_rfl
  obtain ⟨c0, c2, c3, c4, c5, c6, fz⟩ := h.cells
  have htop := h.good.top
  have hlen := h.good.len
  have hlst := h.lst
  have hllt := heap_lt hlst
  have hdlt := heap_lt h.blk
  have hglt := heap_lt hg
  have HX : Hid (DevX w db st S k N gl bm q pv gs Dm) := h
  clear h c0 c3 c4 c5 c6 fz
  obtain ⟨W, hW⟩ : ∃ W, w.alloc (.cells #[.int .i64 b, hv g] 186) = W := ⟨_, rfl⟩
  have hbW : Below w.heap.size w W := by rw [← hW]; exact (Below.refl _ w).alloc (Nat.le_refl _) _
  have k2 : W.cell? ⟨db, 2, none⟩ = some (.slice (some ⟨gl, 0, none⟩) (512 * k) (512 * k)) := (hbW.cell hdlt).trans c2
  have x0 : W.cell? ⟨w.heap.size, 0, none⟩ = some (.int .i64 b) := by rw [← hW]; simp
  have x1 : W.cell? ⟨w.heap.size, 1, none⟩ = some (hv g) := by rw [← hW]; simp
  have klst : W.heap[gl]? = some (.cells (S.last.map (Value.int .u8)).toArray 5 (0, 0)) := (hbW.block gl hllt).trans hlst
  have kg : Lies W (some ⟨g, 0, none⟩) 512 512 d := Lies.full ((hbW.block g hglt).trans hg) hd
  go_enter Tryz.func157, Tryz.ntmps157
  go_wp2_with fail
  try rw [hW]
  go_region_held3 (fun w' => w'.cell? ⟨w.heap.size, 0, none⟩ = some (.int .i64 b) ∧ w'.cell? ⟨w.heap.size, 1, none⟩ = some (hv g))
    (first | exact ⟨x0, x1⟩ | exact ⟨y0, y1⟩)
    (first
      | (go_at_call 214; refine (block_any db k gl b _ hb htop (by simpa using k2)).mono ?_; rintro e wn ⟨rfl, hwn⟩; subst wn)
      | (refine step_copy_set rfl (.tmp 7) (.tmp 9) 39 39 rfl 5 Tryz.underlying39 hsz gl (512 * b) 512 (512 * k - 512 * b) ⟨g, 0, none⟩ 512 512 rfl rfl (S.last.map (Value.int .u8)) 5 klst (d.map (Value.int .u8)) (by simp [hd]) (kg.hcells _ rfl) (by simp [hd]; omega) (ints_oneCell _ _) ?_; intro w2 HG2 hgr2; have y0 : w2.cell? ⟨w.heap.size, 0, none⟩ = some (.int .i64 b) := hgr2.cell x0 (by simp; omega); have y1 : w2.cell? ⟨w.heap.size, 1, none⟩ = some (hv g) := hgr2.cell x1 (by simp; omega)))
  have hT : Turns (fun i => i = gl) w w2 := ((Below.turns hbW _).trans (Turns.drewN (fun i => i = gl) W 1) (fun _ _ h => h)).trans (Turns.grown (F := fun i => i = gl) hgr2 (fun b hb => (Option.some.inj hb).symm)) (fun _ _ h => h)
  have hw := HG2.out
  rw [lay_cells S.last b d hd] at hw
  clear HG2
  have HE : Hid _ := HX.out.laid b d hb hd hy hT hw
  go_wp2
  first | go_end0 | refine bodyPost_ret (results_none rfl _ _ _) rfl ?_
  exact ⟨rfl, HE.out, hT⟩
end Go.Proofs.YtlcjkbhcbiggcaaGreatDoor

/- forget by its contract. -/
namespace Go.Proofs.YtlcjkbhcbiggcaaGreatDoor
open Go.RowKit Go.Maps
open Go.MuLone
set_option maxRecDepth 100000

/-- delete, as one step of a region that draws its order. -/
theorem step_delete_own {H : Type} {P : Program} {ops : Array Oper} {o : Oper} {a : Act} {w : World} {C : Act → World → Prop} {Q : Exit → Act → World → Prop} {E : Prop} (hgd : o.guard = none) (m x : Operand) (t k : TypeId) (hop : o.op = Op.call { callee := Callee.builtin Builtin.delete, args := #[m, x], argTypes := #[t, k] })
    (e : TypeId) (K : Keyed P k) (ht : P.underlying t = some (.map k e)) (R : Value → Option (DataW H × List MemPlace)) (b n : Nat) (D : DataW H)
    (hm : a.eval m = .map (some b)) (hown : w.ownsMap P k R b n D) (key : Value) (kl : Lit) (hx : a.eval x = key) (hkey : keyOf P k key = some kl)
    (hK : ∀ w', w'.ownsMap P k R b n (D.del kl) → w.mapTurned w' b → C (a.put o.dst (.tuple #[])) w') :
    if Region.wanted o (yielded ops a.tmps) = true then Oper.wp P o a w C Q else E := by
  have hw : Region.wanted o (yielded ops a.tmps) = true := by simp [Region.wanted, hgd]
  rw [if_pos hw]
  obtain ⟨w', hrun, r1, r2⟩ := hown.drop K ht hkey o.type
  unfold Oper.wp
  simp [execOp, hop, resolve, invoke, builtin, hm, hx, hrun, Result.andThen]
  exact hK w' r1 r2

/-- The keys of the first j writes are deleted. -/
def Deled (D D' : DataW Value) (ps : List (Nat × List Int)) (j : Nat) : Prop := ∀ b : Nat, b < 4096 → Maps.has D' (.int .i64 b) = (Maps.has D (.int .i64 b) && !((ps.take j).any (fun p => p.1 == b)))
theorem Deled.step {D D' : DataW Value} {ps : List (Nat × List Int)} {j : Nat} (h : Deled D D' ps j) {p : Nat × List Int} (hp : ps[j]? = some p) : Deled D (D'.del (.int .i64 p.1)) ps (j + 1) := fun b hb => by
  have hj := (List.getElem?_eq_some_iff.1 hp).1
  have e1 : ps.take (j + 1) = ps.take j ++ [p] := by
    rw [List.take_succ_eq_append_getElem hj, (List.getElem?_eq_some_iff.1 hp).2]
  rw [e1, List.any_append]
  by_cases e : p.1 = b
  · subst e
    rw [has_del_same]; simp
  · have hne : (Lit.int .i64 (b : Int)) ≠ .int .i64 (p.1 : Int) := fun q => e (by have := (Lit.int.injEq _ _ _ _).mp q; omega)
    rw [has_del_other hne, h b hb]
    have e2 : (p.1 == b) = false := by simpa using e
    simp [e2]
theorem newestG_some : ∀ (ps : List (Nat × List Int)) (gs : List Nat) (b : Nat), gs.length = ps.length → (newestG ps gs b).isSome = ps.any (fun p => p.1 == b) := fun ps gs b h => by
  unfold newestG
  rw [Option.isSome_map]
  rw [Bool.eq_iff_iff, List.find?_isSome, List.any_eq_true]
  constructor
  · rintro ⟨t, ht, hb⟩
    rw [List.mem_reverse] at ht
    exact ⟨t.1, (List.of_mem_zip ht).1, hb⟩
  · rintro ⟨p, hp, hb⟩
    obtain ⟨i, hi⟩ := List.mem_iff_getElem?.1 hp
    have hlt := (List.getElem?_eq_some_iff.1 hi).1
    have hg : gs[i]? = some (gs[i]'(by omega)) := List.getElem?_eq_getElem _
    refine ⟨(p, gs[i]'(by omega)), ?_, hb⟩
    rw [List.mem_reverse]
    refine List.mem_iff_getElem?.2 ⟨i, ?_⟩
    rw [List.getElem?_zip_eq_some]
    exact ⟨hi, hg⟩
/-- All is forgotten. -/
theorem DevX.forgot {w w' : World} {db : Nat} {S : DevS} {k N gl bm : Nat} {q st : Int} {pv : Value} {gs : List Nat} {Dm D' : DataW Value} (h : DevX w db st S k N gl bm q pv gs Dm) (hT : Turns (fun i => i = bm) w w') (hm : w'.ownsMap Tryz.prog 3 RV bm N D') (hd : Deled Dm D' S.pend S.pend.length) :
    DevX (w'.setCell ⟨db, 3, none⟩ (.slice none 0 0)) db st { S with pend := [] } k N gl bm q (.slice none 0 0) [] D' := by
  have hT2 : Turns (fun i => i = db) w' (w'.setCell ⟨db, 3, none⟩ (.slice none 0 0)) := Turns.cell w' db 3 _
  have hb1 := (hT.block db (heap_lt h.blk) (fun e => h.mdb e.symm)).trans h.blk
  refine ⟨⟨h.good.len, h.good.pos, h.good.top, h.good.by_, (fun p hp => by cases hp), h.good.fuse⟩, ?_, ?_, World.ownsRow_nil _ _ _ _, rfl, Nat.zero_le _, (fun i p g h => by simp at h), ?_, ?_, h.a1, by simp, by simp, by simp [Value.ownBlock], by simp [Value.ownBlock], by simp⟩
  · rw [heap_setCell_same _ _ _ _ _ _ hb1]; rfl
  · have hl := (hT.block gl (heap_lt h.lst) (fun e => h.mgl e.symm)).trans h.lst
    exact (hT2.block gl (heap_lt hl) (fun e => h.a1 e.symm)).trans hl
  · exact map_turns hm hT2 h.mdb
  · intro b hb
    have hf : Maps.has D' (.int .i64 b) = false := by
      rw [hd b hb, (h.at_ b hb).1, newestG_some _ _ _ h.gsl, List.take_length]
      simp
    exact ⟨hf, fun zd => atKey_of_not_has hf zd⟩

set_option maxHeartbeats 4000000 in
theorem forget_any {w : World} {db : Nat} {S : DevS} {k N gl bm : Nat} {q st : Int} {pv : Value} {gs : List Nat} {Dm : DataW Value} (h : DevX w db st S k N gl bm q pv gs Dm) (hN : N ≤ 1099511627776) :
    Calls Tryz.prog 158 #[.pointer (some ⟨db, 0, none⟩)] w fun e w' => e = .returned (.tuple #[]) ∧ (∃ D', DevX w' db st { S with pend := [] } k N gl bm q (.slice none 0 0) [] D') ∧ Turns (fun i => i = db ∨ i = bm) w w' := by
  obtain ⟨c0, c2, c3, c4, c5, c6, fz⟩ := h.cells
  have f3 := fz 3
  obtain ⟨pa, pcp, hpv⟩ := row_slice h.row
  have hpn := h.pn
  have hdlt := heap_lt h.blk
  have hmdb := h.mdb
  have HX : Hid (DevX w db st S k N gl bm q pv gs Dm) := h
  have hpl : (S.pend.length : Int) ≤ 1099511627776 := by omega
  have hcell : ∀ j p, S.pend[j]? = some p → ∃ pg g, pa = some ⟨pg, 0, none⟩ ∧ j < S.pend.length ∧ p.1 < 4096 ∧ w.cell? ⟨pg, j * 2, none⟩ = some (.int .i64 p.1) ∧ w.cell? ⟨pg, j * 2 + 1, none⟩ = some (hv g) ∧ pg ≠ bm ∧ pg < w.heap.size := fun j p hp => by
    have hj := (List.getElem?_eq_some_iff.1 hp).1
    have hpm := h.good.pend p (List.mem_of_getElem? hp)
    have htop := h.good.top
    have hgj : gs[j]? = some (gs[j]'(by rw [h.gsl]; exact hj)) := List.getElem?_eq_getElem _
    obtain ⟨e1, e2⟩ := pc_at _ _ j p _ hp hgj
    have hrow := h.row
    rw [hpv] at hrow
    rcases hrow.2 with ⟨_, h0⟩ | ⟨pg, cap, cur, hv', _, hb, _⟩
    · omega
    · cases hv'
      refine ⟨pg, gs[j]'(by rw [h.gsl]; exact hj), rfl, hj, by omega, ?_, ?_, fun e => ?_, heap_lt hb⟩
      · rw [hrow.cellAt (j * 2) (by omega)]; exact e1
      · rw [hrow.cellAt (j * 2 + 1) (by omega)]; exact e2
      · exact h.mpv (by rw [hpv, ← e]; rfl)
  have HC : Hid _ := hcell
  have hmap := h.map
  clear h c0 c2 c5 c6 fz hcell
  obtain ⟨L, hL⟩ : ∃ L, S.pend.length = L := ⟨_, rfl⟩
  have HL : Hid (S.pend.length = L) := hL
  rw [hL] at hpv hpn hpl
  clear hL
  subst hpv
  go_enter Tryz.func158, Tryz.ntmps158
  go_wp2
  go_loopw [9] (fun i wr => ∃ j : Nat, j ≤ L ∧ i = .int .i64 j ∧ Turns (fun i => i = bm) w wr ∧ ∃ D, wr.ownsMap Tryz.prog 3 RV bm N D ∧ Deled Dm D S.pend j) (fun i _ => L - (intOf i).toNat)
  case atStart => exact ⟨0, Nat.zero_le _, rfl, Turns.refl _ _, Dm, hmap, fun b hb => by simp⟩
  case round =>
    obtain ⟨j, hj, rfl, hT, D, hm, hD⟩ := hrel
    have hdb : wr.heap[db]? = w.heap[db]? := hT.block db hdlt (fun e => hmdb e.symm)
    have k3 : wr.cell? ⟨db, 3, none⟩ = some (.slice pa L pcp) := (World.cell?_of_block hdb).trans c3
    have k4 : wr.cell? ⟨db, 4, none⟩ = some (.map (some bm)) := (World.cell?_of_block hdb).trans c4
    have kf3 : wr.frozen? ⟨db, 3, none⟩ = false := (World.frozen?_of_block hdb).trans f3
    by_cases hlt : j < L
    · obtain ⟨p, hp⟩ : ∃ p, S.pend[j]? = some p := ⟨_, List.getElem?_eq_getElem (by rw [HL.out]; exact hlt)⟩
      obtain ⟨pg, g, rfl, _, hp4, e0, e1, hpg, hpgl⟩ := HC.out j p hp
      have hpb : wr.heap[pg]? = w.heap[pg]? := hT.block pg hpgl hpg
      have x0 : wr.cell? ⟨pg, j * 2, none⟩ = some (.int .i64 p.1) := (World.cell?_of_block hpb).trans e0
      have x1 : wr.cell? ⟨pg, j * 2 + 1, none⟩ = some (hv g) := (World.cell?_of_block hpb).trans e1
      have hD' := hD.step hp
      have HD : Hid (Deled Dm (D.del (.int .i64 p.1)) S.pend (j + 1)) := hD'
      have hkey := keyOf_int_mk (a := (p.1 : Int)) Tryz.underlying3 (q := .i64) (WalkArith.wf_i64 ⟨by omega, by omega⟩)
      clear hD hD' e0 e1 hp k3 kf3
      generalize p.1 = pb at *
      obtain ⟨W, hW⟩ : ∃ W, wr.alloc (.cells #[.int .i64 pb, .slice (some ⟨g, 0, none⟩) 512 512] 186) = W := ⟨_, rfl⟩
      have hbW : Below wr.heap.size wr W := by rw [← hW]; exact (Below.refl _ wr).alloc (Nat.le_refl _) _
      have hdr : db < wr.heap.size := Nat.lt_of_lt_of_le hdlt hT.size
      have y4 : W.cell? ⟨db, 4, none⟩ = some (.map (some bm)) := (hbW.cell hdr).trans k4
      have y0 : W.cell? ⟨wr.heap.size, 0, none⟩ = some (.int .i64 pb) := by rw [← hW]; simp
      have hmW : W.ownsMap Tryz.prog 3 RV bm N D := by rw [← hW]; exact hm.alloc _
      have hml := hm.lt
      go_wp2_with fail
      try rw [hW]
      go_region_held3 (fun w' => w'.cell? ⟨db, 4, none⟩ = some (.map (some bm)) ∧ w'.cell? ⟨wr.heap.size, 0, none⟩ = some (.int .i64 pb))
        (first | exact ⟨y4, y0⟩ | exact ⟨z4, z0⟩)
        (first
          | (refine step_delete_own rfl (.tmp 16) (.tmp 18) 96 3 rfl 39 law3 Tryz.underlying96 RV bm N D rfl hmW _ (.int .i64 pb) rfl hkey ?_; intro w3 hm3 htr3; have z4 : w3.cell? ⟨db, 4, none⟩ = some (.map (some bm)) := htr3.grown.cell y4 (by simpa using fun e => hmdb e.symm); have z0 : w3.cell? ⟨wr.heap.size, 0, none⟩ = some (.int .i64 pb) := htr3.grown.cell y0 (by simp; omega)))
      have hT3 : Turns (fun i => i = bm) w w3 := ((hT.trans (Below.turns hbW (fun i => i = bm)) (fun _ _ h => h)).trans (Turns.drewN (fun i => i = bm) W 1) (fun _ _ h => h)).trans (Turns.grown (F := fun i => i = bm) htr3.grown (fun b hb => (Option.some.inj hb).symm)) (fun _ _ h => h)
      go_wp2
      go_roundw
      case rel => exact ⟨j + 1, by omega, by go_num, hT3, _, hm3, HD.out⟩
      case measure => simp [intOf]; omega
    · obtain rfl : j = L := by omega
      have HD : Hid (Deled Dm D S.pend j) := hD
      clear hD
      go_wp2
      first | go_end0 | refine bodyPost_ret (results_none rfl _ _ _) rfl ?_
      refine ⟨rfl, ⟨D, HX.out.forgot hT hm (HL.out.symm ▸ HD.out)⟩, (hT.mono (fun _ _ h => Or.inr h)).trans (Turns.cell wr db 3 _) (fun _ _ h => Or.inl h)⟩
end Go.Proofs.YtlcjkbhcbiggcaaGreatDoor

/- The methods that hold the lock: Size, Power, Durable, Arm, Write, Read by their contracts. -/
namespace Go.Proofs.YtlcjkbhcbiggcaaGreatDoor
open Go.RowKit Go.Maps
open Go.MuLone
set_option maxRecDepth 100000

/-- A call that turns nothing of what the device holds. -/
def Same0 (w w' : World) (db : Nat) (S : DevS) (k N : Nat) (F : Nat → Prop) : Prop := Dev w' db 0 S k N F ∧ Turns F w w'
/-- A call that turns it. -/
def Went (w w' : World) (db : Nat) (S : DevS) (k N : Nat) (F : Nat → Prop) : Prop := Dev w' db 0 S k N (grow F w w') ∧ Turns F w w'
theorem Same0.of {w w' : World} {db : Nat} {S : DevS} {k N gl bm : Nat} {q : Int} {pv : Value} {gs : List Nat} {Dm : DataW Value} {F : Nat → Prop} (h : DevX w' db 0 S k N gl bm q pv gs Dm) (f : Foot F db gl bm pv gs) (hl : ∀ i, F i → i < w.heap.size) (ht : Turns (fun i => i = db) w w') : Same0 w w' db S k N F :=
  ⟨⟨gl, bm, q, pv, gs, Dm, h, f, fun i hi => Nat.lt_of_lt_of_le (hl i hi) ht.size⟩, ht.mono (fun i _ e => by subst e; exact f.f1)⟩

set_option maxHeartbeats 1000000 in
theorem size_any {w : World} {db : Nat} {S : DevS} {k N : Nat} {F : Nat → Prop} (h : Dev w db 0 S k N F) :
    Calls Tryz.prog 115 #[.pointer (some ⟨db, 0, none⟩)] w fun e w' => e = .returned (.int .i64 k) ∧ Same0 w w' db S k N F := by
  obtain ⟨gl, bm, q, pv, gs, Dm, h, f, hl⟩ := h
  have htop := h.good.top
  go_enter_defers Tryz.func115, Tryz.ntmps115
  go_wp2_with fail
  refine (lock_dev h).mono ?_
  rintro e w1 ⟨rfl, h1, t1⟩
  have c2 := h1.cells.2.1
  go_wp2_with (go_at_call 170; refine (blocks_any db k _ _ htop c2).mono ?_; rintro e wn ⟨rfl, hwn⟩; subst wn)
  refine leaves_cons (f := 98) (args := #[.pointer (some ⟨db, 0, none⟩)]) (by simp) (by simp [go_sem]) ?_
  refine (unlock_dev .returning h1).mono ?_
  rintro e u' w2 ⟨rfl, rfl, h2, t2⟩
  exact ⟨_, results_tmp rfl _ _ _, rfl, Same0.of h2 f hl (t1.trans t2 (fun _ _ h => h))⟩

set_option maxHeartbeats 1000000 in
theorem power_any {w : World} {db : Nat} {S : DevS} {k N : Nat} {F : Nat → Prop} (h : Dev w db 0 S k N F) :
    Calls Tryz.prog 116 #[.pointer (some ⟨db, 0, none⟩)] w fun e w' => e = .returned (.bool (!S.off)) ∧ Same0 w w' db S k N F := by
  obtain ⟨gl, bm, q, pv, gs, Dm, h, f, hl⟩ := h
  go_enter_defers Tryz.func116, Tryz.ntmps116
  go_wp2_with fail
  refine (lock_dev h).mono ?_
  rintro e w1 ⟨rfl, h1, t1⟩
  have c6 := h1.cells.2.2.2.2.2.1
  go_wp2
  refine leaves_cons (f := 98) (args := #[.pointer (some ⟨db, 0, none⟩)]) (by simp) (by simp [go_sem]) ?_
  refine (unlock_dev .returning h1).mono ?_
  rintro e u' w2 ⟨rfl, rfl, h2, t2⟩
  exact ⟨_, results_tmp rfl _ _ _, rfl, Same0.of h2 f hl (t1.trans t2 (fun _ _ h => h))⟩

/-- Arm's answer. -/
def armE (S : DevS) (x : Int) : Int := if x < 0 then 1 else if S.off then 3 else 0
def armed (S : DevS) (x : Int) : DevS := if x < 0 then S else if S.off then S else { S with fuse := x.toNat }
set_option maxHeartbeats 1000000 in
theorem arm_any {w : World} {db : Nat} {S : DevS} {k N : Nat} {F : Nat → Prop} (h : Dev w db 0 S k N F) (x : Int) (hx : x ≤ 9223372036854775807) :
    Calls Tryz.prog 45 #[.pointer (some ⟨db, 0, none⟩), .int .i64 x] w fun e w' => e = .returned (.int .i64 (armE S x)) ∧ Same0 w w' db (armed S x) k N F := by
  obtain ⟨gl, bm, q, pv, gs, Dm, h, f, hl⟩ := h
  by_cases hx0 : x < 0
  · have e1 : armE S x = 1 := by unfold armE; rw [if_pos hx0]
    have e2 : armed S x = S := by unfold armed; rw [if_pos hx0]
    rw [e1, e2]
    go_enter_defers Tryz.func45, Tryz.ntmps45
    go_wp2_with fail
    refine (lock_dev h).mono ?_
    rintro e w1 ⟨rfl, h1, t1⟩
    obtain ⟨c0, c2, c3, c4, c5, c6, fz⟩ := h1.cells
    have f5 := fz 5
    clear c0 c2 c3 c4 fz
    clear c5 c6 f5
    go_wp2
    refine leaves_cons (f := 98) (args := #[.pointer (some ⟨db, 0, none⟩)]) (by simp) (by simp [go_sem]) ?_
    refine (unlock_dev .returning h1).mono ?_
    rintro e u' w2 ⟨rfl, rfl, h2, t2⟩
    exact ⟨_, results_tmp rfl _ _ _, rfl, Same0.of h2 f hl (t1.trans t2 (fun _ _ h => h))⟩
  · by_cases ho : S.off = true
    · have e1 : armE S x = 3 := by unfold armE; rw [if_neg hx0, if_pos ho]
      have e2 : armed S x = S := by unfold armed; rw [if_neg hx0, if_pos ho]
      rw [e1, e2]
      go_enter_defers Tryz.func45, Tryz.ntmps45
      go_wp2_with fail
      refine (lock_dev h).mono ?_
      rintro e w1 ⟨rfl, h1, t1⟩
      obtain ⟨c0, c2, c3, c4, c5, c6, fz⟩ := h1.cells
      have f5 := fz 5
      clear c0 c2 c3 c4 fz
      rw [ho] at c6
      clear c5 f5
      go_wp2
      refine leaves_cons (f := 98) (args := #[.pointer (some ⟨db, 0, none⟩)]) (by simp) (by simp [go_sem]) ?_
      refine (unlock_dev .returning h1).mono ?_
      rintro e u' w2 ⟨rfl, rfl, h2, t2⟩
      exact ⟨_, results_tmp rfl _ _ _, rfl, Same0.of h2 f hl (t1.trans t2 (fun _ _ h => h))⟩
    · have e1 : armE S x = 0 := by unfold armE; rw [if_neg hx0, if_neg ho]
      have e2 : armed S x = { S with fuse := x.toNat } := by unfold armed; rw [if_neg hx0, if_neg ho]
      rw [e1, e2]
      have ho' : S.off = false := by simpa using ho
      have hxn : ((x.toNat : Nat) : Int) = x := by omega
      go_enter_defers Tryz.func45, Tryz.ntmps45
      go_wp2_with fail
      refine (lock_dev h).mono ?_
      rintro e w1 ⟨rfl, h1, t1⟩
      obtain ⟨c0, c2, c3, c4, c5, c6, fz⟩ := h1.cells
      have f5 := fz 5
      clear c0 c2 c3 c4 fz
      rw [ho'] at c6
      have h1' : DevX (w1.setCell ⟨db, 5, none⟩ (.int .i64 x)) db 1 { S with fuse := x.toNat } k N gl bm q pv gs Dm := h1.db 5 _ ⟨rfl, rfl, by simp; omega⟩ (by rw [hxn]; rfl)
      have t1' : Turns (fun i => i = db) w (w1.setCell ⟨db, 5, none⟩ (.int .i64 x)) := t1.trans (Turns.cell w1 db 5 _) (fun _ _ h => h)
      go_wp2
      refine leaves_cons (f := 98) (args := #[.pointer (some ⟨db, 0, none⟩)]) (by simp) (by simp [go_sem]) ?_
      refine (unlock_dev .returning h1').mono ?_
      rintro e u' w2 ⟨rfl, rfl, h2, t2⟩
      exact ⟨_, results_tmp rfl _ _ _, rfl, Same0.of h2 f hl (t1'.trans t2 (fun _ _ h => h))⟩
end Go.Proofs.YtlcjkbhcbiggcaaGreatDoor

/- Write, Read by their contracts. -/
namespace Go.Proofs.YtlcjkbhcbiggcaaGreatDoor
open Go.RowKit Go.Maps
open Go.MuLone
set_option maxRecDepth 100000

theorem Went.of {w w' : World} {db : Nat} {S : DevS} {k N gl bm bm0 : Nat} {q : Int} {pv pv0 : Value} {gs gs0 : List Nat} {Dm : DataW Value} {F : Nat → Prop} (h : DevX w' db 0 S k N gl bm q pv gs Dm) (f : Foot F db gl bm0 pv0 gs0) (hl : ∀ i, F i → i < w.heap.size) (ht : Turns F w w')
    (h3 : bm = bm0) (h4 : pv.ownBlock = none ∨ pv.ownBlock = pv0.ownBlock ∨ ∃ i, pv.ownBlock = some i ∧ w.heap.size ≤ i) (h5 : ∀ g ∈ gs, g ∈ gs0 ∨ w.heap.size ≤ g) : Went w w' db S k N F := by
  subst h3
  refine ⟨⟨gl, bm, q, pv, gs, Dm, h, ⟨Or.inl f.f1, Or.inl f.f2, Or.inl f.f3, fun b hb => ?_, fun g hg => ?_⟩, fun i hi => ?_⟩, ht⟩
  · rcases h4 with h4 | h4 | ⟨i, h4, h6⟩
    · rw [h4] at hb; cases hb
    · exact Or.inl (f.f4 b (by rw [← h4]; exact hb))
    · rw [h4] at hb; cases hb
      rcases h.row.2 with ⟨hv, _⟩ | ⟨g, cap, cur, hv, _, hgb, _⟩
      · rw [hv] at h4; cases h4
      · rw [hv] at h4
        obtain rfl : g = b := by simpa [Value.ownBlock] using h4
        exact Or.inr ⟨h6, heap_lt hgb⟩
  · rcases h5 g hg with h5 | h5
    · exact Or.inl (f.f5 g h5)
    · obtain ⟨i, hi⟩ := List.mem_iff_getElem?.1 hg
      have hlt : i < S.pend.length := by rw [← h.gsl]; exact (List.getElem?_eq_some_iff.1 hi).1
      exact Or.inr ⟨h5, heap_lt (h.dat i _ _ (List.getElem?_eq_getElem hlt) hi)⟩
  · rcases hi with hi | hi
    · exact Nat.lt_of_lt_of_le (hl i hi) ht.size
    · exact hi.2

/-- Write's answer, of a block's number and a length. -/
def wrE (S : DevS) (k : Nat) (b : Int) (n : Nat) : Int := if ¬ (0 ≤ b ∧ b < k) then 52 else if ¬ n = 512 then 53 else if (burnt S).off then 3 else 0
def wrS (S : DevS) (k : Nat) (b : Int) (d : List Int) : DevS := if ¬ (0 ≤ b ∧ b < k) then S else if ¬ d.length = 512 then S else if (burnt S).off then burnt S else wrote (burnt S) b.toNat d

set_option maxHeartbeats 4000000 in
theorem write_any {w : World} {db : Nat} {S : DevS} {k N : Nat} {F : Nat → Prop} (h : Dev w db 0 S k N F) (b : Int) (ao : Option Addr) (n c : Nat) (d : List Int) (hL : Lies w ao n c d) (hy : ∀ x ∈ d, 0 ≤ x ∧ x ≤ 255) (hF : ∀ ad, ao = some ad → ¬ F ad.block) (hN : N ≤ 1099511627776) :
    Calls Tryz.prog 118 #[.pointer (some ⟨db, 0, none⟩), .int .i64 b, .slice ao n c] w fun e w' => e = .returned (.int .i64 (wrE S k b n)) ∧ Went w w' db (wrS S k b d) k (N + 1) F := by
  obtain ⟨gl, bm, q, pv, gs, Dm, h, f, hl⟩ := h
  have htop := h.good.top
  have hlen := hL.hlen
  have hmono : ∀ {w' : World} {st : Int} {S : DevS} {pv : Value} {gs : List Nat} {Dm : DataW Value}, DevX w' db st S k N gl bm q pv gs Dm → DevX w' db st S k (N + 1) gl bm q pv gs Dm := fun h => { h with pn := Nat.le_succ_of_le h.pn, map := h.map.mono (Nat.le_succ N) }
  have same : ∀ {w' : World} {S' : DevS}, DevX w' db 0 S' k N gl bm q pv gs Dm → Turns (fun i => i = db) w w' → Went w w' db S' k (N + 1) F := fun h t => Went.of (hmono h) f hl (t.mono (fun i _ e => by subst e; exact f.f1)) rfl (Or.inr (Or.inl rfl)) (fun g hg => Or.inl hg)
  have HS : Hid (∀ {w' : World} {S' : DevS}, DevX w' db 0 S' k N gl bm q pv gs Dm → Turns (fun i => i = db) w w' → Went w w' db S' k (N + 1) F) := same
  clear same hmono
  by_cases hb : 0 ≤ b ∧ b < k
  case neg =>
    have e1 : wrE S k b n = 52 := by unfold wrE; rw [if_pos hb]
    have e2 : wrS S k b d = S := by unfold wrS; rw [if_pos hb]
    have hbd := decide_eq_false hb
    rw [e1, e2]
    go_enter_defers Tryz.func118, Tryz.ntmps118
    go_wp2_with fail
    refine (lock_dev h).mono ?_
    rintro e w1 ⟨rfl, h1, t1⟩
    have c2 := h1.cells.2.1
    go_wp2_with (go_at_call 171; refine (has_any db k _ _ _ htop c2).mono ?_; rintro e wn ⟨rfl, hwn⟩; subst wn; rw [hbd])
    refine leaves_cons (f := 98) (args := #[.pointer (some ⟨db, 0, none⟩)]) (by simp) (by simp [go_sem]) ?_
    refine (unlock_dev .returning h1).mono ?_
    rintro e u' w2 ⟨rfl, rfl, h2, t2⟩
    exact ⟨_, results_tmp rfl _ _ _, rfl, HS.out h2 (t1.trans t2 (fun _ _ h => h))⟩
  have hbd := decide_eq_true hb
  by_cases hn : n = 512
  case neg =>
    have e1 : wrE S k b n = 53 := by unfold wrE; rw [if_neg (fun q => q hb), if_pos hn]
    have e2 : wrS S k b d = S := by unfold wrS; rw [if_neg (fun q => q hb), hlen, if_pos hn]
    have hni : ((n : Int) != 512) = true := by simp; omega
    rw [e1, e2]
    go_enter_defers Tryz.func118, Tryz.ntmps118
    go_wp2_with fail
    refine (lock_dev h).mono ?_
    rintro e w1 ⟨rfl, h1, t1⟩
    have c2 := h1.cells.2.1
    go_wp2_with (go_at_call 171; refine (has_any db k _ _ _ htop c2).mono ?_; rintro e wn ⟨rfl, hwn⟩; subst wn; rw [hbd])
    refine leaves_cons (f := 98) (args := #[.pointer (some ⟨db, 0, none⟩)]) (by simp) (by simp [go_sem]) ?_
    refine (unlock_dev .returning h1).mono ?_
    rintro e u' w2 ⟨rfl, rfl, h2, t2⟩
    exact ⟨_, results_tmp rfl _ _ _, rfl, HS.out h2 (t1.trans t2 (fun _ _ h => h))⟩
  subst hn
  by_cases ho : (burnt S).off = true
  · have e1 : wrE S k b 512 = 3 := by unfold wrE; rw [if_neg (fun q => q hb), if_neg (fun q => q rfl), if_pos ho]
    have e2 : wrS S k b d = burnt S := by unfold wrS; rw [if_neg (fun q => q hb), if_neg (fun q => q hlen), if_pos ho]
    rw [e1, e2]
    go_enter_defers Tryz.func118, Tryz.ntmps118
    go_wp2_with fail
    refine (lock_dev h).mono ?_
    rintro e w1 ⟨rfl, h1, t1⟩
    have c2 := h1.cells.2.1
    go_wp2_with (go_at_call 171; refine (has_any db k _ _ _ htop c2).mono ?_; rintro e wn ⟨rfl, hwn⟩; subst wn; rw [hbd])
    refine (burn_any h1).mono ?_
    rintro e w2 ⟨rfl, h2, t2⟩
    have c6 := h2.cells.2.2.2.2.2.1
    rw [ho] at c6
    go_wp2_with fail
    refine leaves_cons (f := 98) (args := #[.pointer (some ⟨db, 0, none⟩)]) (by simp) (by simp [go_sem]) ?_
    refine (unlock_dev .returning h2).mono ?_
    rintro e u' w3 ⟨rfl, rfl, h3, t3⟩
    exact ⟨_, results_tmp rfl _ _ _, rfl, HS.out h3 ((t1.trans t2 (fun _ _ h => h)).trans t3 (fun _ _ h => h))⟩
  · have ho' : (burnt S).off = false := by simpa using ho
    have e1 : wrE S k b 512 = 0 := by unfold wrE; rw [if_neg (fun q => q hb), if_neg (fun q => q rfl), if_neg ho]
    have e2 : wrS S k b d = wrote (burnt S) b.toNat d := by unfold wrS; rw [if_neg (fun q => q hb), if_neg (fun q => q hlen), if_neg ho]
    rw [e1, e2]
    have hbn : (b.toNat : Int) = b := by omega
    have hbk : b.toNat < k := by omega
    obtain ⟨bn, hbn2⟩ : ∃ bn, b.toNat = bn := ⟨_, rfl⟩
    rw [hbn2] at hbn hbk ⊢
    subst hbn
    clear hbn2 HS
    go_enter_defers Tryz.func118, Tryz.ntmps118
    go_wp2_with fail
    refine (lock_dev h).mono ?_
    rintro e w1 ⟨rfl, h1, t1⟩
    have c2 := h1.cells.2.1
    go_wp2_with (go_at_call 171; refine (has_any db k _ _ _ htop c2).mono ?_; rintro e wn ⟨rfl, hwn⟩; subst wn; rw [hbd])
    refine (burn_any h1).mono ?_
    rintro e w2 ⟨rfl, h2, t2⟩
    have c6 := h2.cells.2.2.2.2.2.1
    rw [ho'] at c6
    go_wp2_with fail
    have t12 := t1.trans t2 (fun _ _ h => h)
    have hL2 := hL.turns t12 (fun ad had e => hF ad had (by rw [e]; exact f.f1))
    refine (copied_any ao 512 c d _ (by omega) hL2).mono ?_
    rintro e w3 ⟨g, rfl, hg, hgb, hb3⟩
    have h3 := h2.turns (Below.turns hb3 (fun _ => False)) id id id (fun _ _ => id) (fun _ _ => id)
    have t3 := t12.trans (Below.turns hb3 (fun i => i = db)) (fun _ _ h => h)
    go_wp2_with fail
    have hs2 := t12.size
    have hd2 := heap_lt h2.blk
    have hl2 := heap_lt h2.lst
    refine (pend_any h3 bn g d hbk hN hgb hlen hy (by omega) (by omega) ?_).mono ?_
    · intro e
      have := (h2.row.lt g e).2
      omega
    rintro e w4 ⟨rfl, hP⟩
    obtain ⟨pv', Dm', h4, t4, hat⟩ := hP
    go_wp2_with fail
    refine leaves_cons (f := 98) (args := #[.pointer (some ⟨db, 0, none⟩)]) (by simp) (by simp [go_sem]) ?_
    refine (unlock_dev .returning h4).mono ?_
    rintro e u' w5 ⟨rfl, rfl, h5, t5⟩
    have hs3 := hb3.size
    refine ⟨_, results_tmp rfl _ _ _, rfl, Went.of h5 f hl ?_ rfl (Or.inr (hat.imp id (fun ⟨i, h1, h2⟩ => ⟨i, h1, by omega⟩))) (fun x hx => ?_)⟩
    · refine ((t3.mono (fun i _ e => by subst e; exact f.f1)).trans t4 (fun i _ e => ?_)).trans t5 (fun i _ e => by subst e; exact f.f1)
      rcases e with e | e | e
      · subst e; exact f.f1
      · subst e; exact f.f3
      · exact f.f4 i e
    · rcases List.mem_append.1 hx with hx | hx
      · exact Or.inl hx
      · obtain rfl := List.mem_singleton.1 hx
        exact Or.inr (by omega)
end Go.Proofs.YtlcjkbhcbiggcaaGreatDoor

/- Read by its contract. -/
namespace Go.Proofs.YtlcjkbhcbiggcaaGreatDoor
open Go.RowKit Go.Maps
open Go.MuLone
set_option maxRecDepth 100000

/-- Read's answer. -/
def rdE (S : DevS) (k : Nat) (b : Int) : Int := if ¬ (0 ≤ b ∧ b < k) then 52 else if S.off then 3 else 0
/-- What Read hands out. -/
def ReadR (w w' : World) (S : DevS) (k : Nat) (b : Int) (e : Ending) : Prop :=
  (rdE S k b ≠ 0 ∧ e = .returned (.tuple #[.slice none 0 0, .int .i64 (rdE S k b)])) ∨
  (rdE S k b = 0 ∧ ∃ g, e = .returned (.tuple #[.slice (some ⟨g, 0, none⟩) 512 512, .int .i64 0]) ∧ w.heap.size ≤ g ∧ w'.heap[g]? = some (bl (rdB S b.toNat)))
theorem newest_both : ∀ (ps : List (Nat × List Int)) (gs : List Nat) (b : Nat), gs.length = ps.length → (newestG ps gs b = none ∧ newest ps b = none) ∨ ∃ (i g : Nat) (p : Nat × List Int), newestG ps gs b = some g ∧ newest ps b = some p.2 ∧ ps[i]? = some p ∧ gs[i]? = some g := fun ps gs b h => by
  have hz : newest ps b = ((ps.zip gs).reverse.find? (fun t => t.1.1 == b)).map (·.1.2) := by
    unfold newest
    have e : ps.reverse = (ps.zip gs).reverse.map (·.1) := by
      rw [List.map_reverse, List.map_fst_zip (by omega)]
    rw [e, List.find?_map, Option.map_map]
    rfl
  unfold newestG
  rw [hz]
  cases hf : (ps.zip gs).reverse.find? (fun t => t.1.1 == b) with
  | none => exact Or.inl ⟨rfl, rfl⟩
  | some t =>
    right
    have hm := List.mem_of_find?_eq_some hf
    rw [List.mem_reverse] at hm
    obtain ⟨i, hi⟩ := List.mem_iff_getElem?.1 hm
    rw [List.getElem?_zip_eq_some] at hi
    exact ⟨i, t.2, t.1, rfl, rfl, hi.1, hi.2⟩
theorem zeroB (w : World) : (zeroValue 39).run Tryz.prog w = .ok (.slice none 0 0) w := by kernel_rfl

set_option maxHeartbeats 4000000 in
theorem read_any {w : World} {db : Nat} {S : DevS} {k N : Nat} {F : Nat → Prop} (h : Dev w db 0 S k N F) (b : Int) :
    Calls Tryz.prog 215 #[.pointer (some ⟨db, 0, none⟩), .int .i64 b] w fun e w' => ReadR w w' S k b e ∧ Same0 w w' db S k N F := by
  obtain ⟨gl, bm, q, pv, gs, Dm, h, f, hl⟩ := h
  have htop := h.good.top
  by_cases hb : 0 ≤ b ∧ b < k
  case neg =>
    have e1 : rdE S k b = 52 := by unfold rdE; rw [if_pos hb]
    have hbd := decide_eq_false hb
    go_enter_defers Tryz.func215, Tryz.ntmps215
    go_wp2_with fail
    refine (lock_dev h).mono ?_
    rintro e w1 ⟨rfl, h1, t1⟩
    have c2 := h1.cells.2.1
    go_wp2_with (go_at_call 171; refine (has_any db k _ _ _ htop c2).mono ?_; rintro e wn ⟨rfl, hwn⟩; subst wn; rw [hbd])
    refine leaves_cons (f := 98) (args := #[.pointer (some ⟨db, 0, none⟩)]) (by simp) (by simp [go_sem]) ?_
    refine (unlock_dev .returning h1).mono ?_
    rintro e u' w2 ⟨rfl, rfl, h2, t2⟩
    exact ⟨_, results_tmp2 rfl _ _ _, Or.inl ⟨by rw [e1]; decide, by rw [e1]; rfl⟩, Same0.of h2 f hl (t1.trans t2 (fun _ _ h => h))⟩
  have hbd := decide_eq_true hb
  by_cases ho : S.off = true
  · have e1 : rdE S k b = 3 := by unfold rdE; rw [if_neg (fun q => q hb), if_pos ho]
    go_enter_defers Tryz.func215, Tryz.ntmps215
    go_wp2_with fail
    refine (lock_dev h).mono ?_
    rintro e w1 ⟨rfl, h1, t1⟩
    have c2 := h1.cells.2.1
    have c6 := h1.cells.2.2.2.2.2.1
    rw [ho] at c6
    go_wp2_with (go_at_call 171; refine (has_any db k _ _ _ htop c2).mono ?_; rintro e wn ⟨rfl, hwn⟩; subst wn; rw [hbd])
    refine leaves_cons (f := 98) (args := #[.pointer (some ⟨db, 0, none⟩)]) (by simp) (by simp [go_sem]) ?_
    refine (unlock_dev .returning h1).mono ?_
    rintro e u' w2 ⟨rfl, rfl, h2, t2⟩
    exact ⟨_, results_tmp2 rfl _ _ _, Or.inl ⟨by rw [e1]; decide, by rw [e1]; rfl⟩, Same0.of h2 f hl (t1.trans t2 (fun _ _ h => h))⟩
  have ho' : S.off = false := by simpa using ho
  have e1 : rdE S k b = 0 := by unfold rdE; rw [if_neg (fun q => q hb), if_neg ho]
  have hbn : (b.toNat : Int) = b := by omega
  have hbk : b.toNat < k := by omega
  obtain ⟨bn, hbn2⟩ : ∃ bn, b.toNat = bn := ⟨_, rfl⟩
  have HR : Hid (∀ w' g, w.heap.size ≤ g → w'.heap[g]? = some (bl (rdB S bn)) → ReadR w w' S k b (.returned (.tuple #[.slice (some ⟨g, 0, none⟩) 512 512, .int .i64 0]))) := fun w' g h1 h2 => Or.inr ⟨e1, g, rfl, h1, by rw [hbn2]; exact h2⟩
  rw [hbn2] at hbn hbk
  subst hbn
  clear hbn2 e1
  have hkey := keyOf_int_mk (a := (bn : Int)) Tryz.underlying3 (q := .i64) (WalkArith.wf_i64 ⟨by omega, by omega⟩)
  go_enter_defers Tryz.func215, Tryz.ntmps215
  go_wp2_with fail
  refine (lock_dev h).mono ?_
  rintro e w1 ⟨rfl, h1, t1⟩
  obtain ⟨c0, c2, c3, c4, c5, c6, fz⟩ := h1.cells
  rw [ho'] at c6
  have hs1 := t1.size
  obtain ⟨hhas, hatk⟩ := h1.at_ bn (by omega)
  have hmap := h1.map
  clear c0 c3 c5 fz
  rcases newest_both S.pend gs bn h1.gsl with ⟨n1, n2⟩ | ⟨i, g0, p, n1, n2, hi, hgi⟩
  · rw [n1] at hhas hatk
    have hrd : rdB S bn = (S.last.drop (512 * bn)).take 512 := by unfold rdB; rw [n2]; rfl
    have hlo : (Instr.lookup 96 (.map (some bm)) (.int .i64 bn) true).run Tryz.prog w1 = .ok (.tuple #[.slice none 0 0, .bool false]) w1 := by
      obtain ⟨v, ps, hrun, hv⟩ := hmap.look_ok law3 Tryz.underlying96 (zeroB w1) (zd := .held (.slice none 0 0)) (zp := []) rfl hkey
      rw [hatk] at hv
      obtain ⟨rfl, _⟩ : v = .slice none 0 0 ∧ ps = [] := by simpa using hv
      rw [hrun, hhas]; rfl
    have hLp : Lies w1 (some ⟨gl, 512 * bn, none⟩) 512 (512 * k - 512 * bn) (rdB S bn) := by
      rw [hrd]; exact Lies.piece h1.lst (by rw [h1.good.len]; omega) (by omega)
    clear hatk hhas hmap
    go_wp2_with (first
      | (go_at_call 171; refine (has_any db k _ _ _ htop c2).mono ?_; rintro e wn ⟨rfl, hwn⟩; subst wn; rw [hbd])
      | (go_at_call 214; refine (block_any db k gl bn _ hbk htop c2).mono ?_; rintro e wn ⟨rfl, hwn⟩; subst wn))
    refine (copied_any _ 512 _ _ _ (by omega) hLp).mono ?_
    rintro e w2 ⟨g, rfl, hg, hgb, hb2⟩
    have h2 := h1.turns (Below.turns hb2 (fun _ => False)) id id id (fun _ _ => id) (fun _ _ => id)
    have hd2 := heap_lt h1.blk
    go_wp2_with fail
    refine leaves_cons (f := 98) (args := #[.pointer (some ⟨db, 0, none⟩)]) (by simp) (by simp [go_sem]) ?_
    refine (unlock_dev .returning h2).mono ?_
    rintro e u' w3 ⟨rfl, rfl, h3, t3⟩
    have hR3 := HR.out w3 g (by omega) ((t3.block g (heap_lt hgb) (fun e => by omega)).trans hgb)
    refine ⟨_, results_tmp2 rfl _ _ _, ?_⟩
    exact ⟨hR3, Same0.of h3 f hl ((t1.trans (Below.turns hb2 (fun i => i = db)) (fun _ _ h => h)).trans t3 (fun _ _ h => h))⟩
  · rw [n1] at hhas hatk
    have hrd : rdB S bn = p.2 := by unfold rdB; rw [n2]; rfl
    have hlo : (Instr.lookup 96 (.map (some bm)) (.int .i64 bn) true).run Tryz.prog w1 = .ok (.tuple #[hv g0, .bool true]) w1 := by
      obtain ⟨v, ps, hrun, hv⟩ := hmap.look_ok law3 Tryz.underlying96 (zeroB w1) (zd := .held (.slice none 0 0)) (zp := []) rfl hkey
      rw [hatk] at hv
      obtain ⟨rfl, _⟩ : v = .slice (some ⟨g0, 0, none⟩) 512 512 ∧ ps = [] := by simpa using hv
      rw [hrun, hhas]; rfl
    have hpm := h1.good.pend p (List.mem_of_getElem? hi)
    have hLp : Lies w1 (some ⟨g0, 0, none⟩) 512 512 (rdB S bn) := by
      rw [hrd]; exact Lies.full (h1.dat i p g0 hi hgi) hpm.2.1
    clear hatk hhas hmap
    go_wp2_with (first
      | (go_at_call 171; refine (has_any db k _ _ _ htop c2).mono ?_; rintro e wn ⟨rfl, hwn⟩; subst wn; rw [hbd]))
    refine (copied_any _ 512 _ _ _ (by omega) hLp).mono ?_
    rintro e w2 ⟨g, rfl, hg, hgb, hb2⟩
    have h2 := h1.turns (Below.turns hb2 (fun _ => False)) id id id (fun _ _ => id) (fun _ _ => id)
    have hd2 := heap_lt h1.blk
    go_wp2_with fail
    refine leaves_cons (f := 98) (args := #[.pointer (some ⟨db, 0, none⟩)]) (by simp) (by simp [go_sem]) ?_
    refine (unlock_dev .returning h2).mono ?_
    rintro e u' w3 ⟨rfl, rfl, h3, t3⟩
    have hR3 := HR.out w3 g (by omega) ((t3.block g (heap_lt hgb) (fun e => by omega)).trans hgb)
    refine ⟨_, results_tmp2 rfl _ _ _, ?_⟩
    exact ⟨hR3, Same0.of h3 f hl ((t1.trans (Below.turns hb2 (fun i => i = db)) (fun _ _ h => h)).trans t3 (fun _ _ h => h))⟩
end Go.Proofs.YtlcjkbhcbiggcaaGreatDoor
