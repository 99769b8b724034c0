/- pend by its contract. -/
import Derived.Test.YtejfbjjhnhlagaaDB
import Derived.WalkArith
namespace Go.Proofs.Ytejfbjjhnhlagaa
open Go.RowKit Go.Maps
open Go.MuLone
set_option maxRecDepth 100000

theorem cell_two_new (w : World) (x y : Value) (t : TypeId) : ∀ j u, [x, y][j]? = some u → (w.alloc (.cells #[x, y] t)).cell? ((⟨w.heap.size, 0, none⟩ : Addr).add j) = some u := by
  intro j u hj
  match j, hj with
  | 0, hj => simp at hj; subst hj; simp [Addr.add]
  | 1, hj => simp at hj; subst hj; simp [Addr.add]
theorem row_slice {w : World} {base e size n : Nat} {v : Value} {xs : List Value} (h : w.ownsRow base e size v n xs) : ∃ ao c, v = .slice ao n c := by
  rcases h.2 with ⟨hv, rfl⟩ | ⟨g', cap', cur, hv, _⟩
  · exact ⟨none, 0, hv⟩
  · exact ⟨_, _, hv⟩
theorem put_at {ps : List (Nat × List Int)} {gs : List Nat} {D : DataW Value} (hl : gs.length = ps.length) (hm : IsMap D) (b : Nat) (d : List Int) (g : Nat)
    (h : ∀ b : Nat, b < 4096 → Maps.has D (.int .i64 b) = (newestG ps gs b).isSome ∧ ∀ zd, D.atKey (.int .i64 b) zd = ((newestG ps gs b).map (fun g => DataW.held (hv g))).getD zd) :
    ∀ x : Nat, x < 4096 → Maps.has (D.put (.int .i64 b) (.held (hv g))) (.int .i64 x) = (newestG (ps ++ [(b, d)]) (gs ++ [g]) x).isSome ∧ ∀ zd, (D.put (.int .i64 b) (.held (hv g))).atKey (.int .i64 x) zd = ((newestG (ps ++ [(b, d)]) (gs ++ [g]) x).map (fun g => DataW.held (hv g))).getD zd := fun x hx => by
  rw [newestG_snoc ps gs b d g x hl]
  by_cases e : b = x
  · subst e
    rw [if_pos rfl]
    exact ⟨has_put_same hm (by exact trivial) _, fun zd => atKey_put_same hm (by exact trivial) _ _⟩
  · have hne : (Lit.int .i64 (x : Int)) ≠ .int .i64 (b : Int) := fun q => e (by have := (Lit.int.injEq _ _ _ _).mp q; omega)
    rw [if_neg e, has_put_other hne]
    obtain ⟨h1, h2⟩ := h x hx
    exact ⟨h1, fun zd => by rw [atKey_put_other hne]; exact h2 zd⟩

/-- What pend leaves. -/
def PendR (w w' : World) (db : Nat) (st : Int) (S : DevS) (k N gl bm : Nat) (q : Int) (pv : Value) (gs : List Nat) : Prop :=
  ∃ pv' Dm', DevX w' db st S k N gl bm q pv' gs Dm' ∧ Turns (fun i => i = db ∨ i = bm ∨ pv.ownBlock = some i) w w' ∧ (pv'.ownBlock = pv.ownBlock ∨ ∃ i, pv'.ownBlock = some i ∧ w.heap.size ≤ i)
theorem DevX.pended {w w1 w3 : World} {db : Nat} {S : DevS} {k N gl bm : Nat} {q st : Int} {pv pv' : Value} {gs : List Nat} {Dm : DataW Value} (h : DevX w db st S k N gl bm q pv gs Dm) (b g : Nat) (d : List Int) (hb : b < k)
    (hg : w.heap[g]? = some (bl d)) (hd : d.length = 512) (hy : ∀ x ∈ d, 0 ≤ x ∧ x ≤ 255) (n1 : g ≠ db) (n2 : g ≠ gl) (n3 : pv.ownBlock ≠ some g)
    (hT1 : Turns (fun i => pv.ownBlock = some i) w w1) (ho1 : w1.ownsRow 0 69 2 pv' (S.pend.length + 1) (pc S.pend gs ++ [.int .i64 b, hv g])) (hat : pv'.ownBlock = pv.ownBlock ∨ ∃ i, pv'.ownBlock = some i ∧ w.heap.size ≤ i)
    (hg3 : (w1.setCell ⟨db, 3, none⟩ pv').grownBy w3 (some bm)) (hm3 : w3.ownsMap Try.prog 3 RV bm (N + 1) (Dm.put (.int .i64 b) (.held (hv g)))) : PendR w w3 db st (wrote S b d) k (N + 1) gl bm q pv (gs ++ [g]) := by
  have hT2 : Turns (fun i => i = db) w1 (w1.setCell ⟨db, 3, none⟩ pv') := Turns.cell w1 db 3 pv'
  have hT3 : Turns (fun i => i = bm) (w1.setCell ⟨db, 3, none⟩ pv') w3 := Turns.grown hg3 (fun b hb => (Option.some.inj hb).symm)
  have hT : Turns (fun i => i = db ∨ i = bm ∨ pv.ownBlock = some i) w w3 := ((hT1.mono (fun i _ h => Or.inr (Or.inr h))).trans hT2 (fun i _ h => Or.inl h)).trans hT3 (fun i _ h => Or.inr (Or.inl h))
  have hmg : bm ≠ g := fun e => by
    obtain ⟨es, cl, hx, _⟩ := h.map
    rw [e, hg] at hx; cases hx
  have hdlt := heap_lt h.blk
  have hllt := heap_lt h.lst
  have hglt := heap_lt hg
  have hpb : ∀ i, i < w.heap.size → pv.ownBlock ≠ some i → pv'.ownBlock ≠ some i := fun i hi hne e => by
    rcases hat with h1 | ⟨j, h1, h2⟩
    · exact hne (by rw [← h1]; exact e)
    · rw [h1] at e; cases e; omega
  have hgs : ∀ x ∈ gs, x < w.heap.size := fun x hx => by
    obtain ⟨i, hi⟩ := List.mem_iff_getElem?.1 hx
    have hlt : i < S.pend.length := by rw [← h.gsl]; exact (List.getElem?_eq_some_iff.1 hi).1
    exact heap_lt (h.dat i _ _ (List.getElem?_eq_getElem hlt) hi)
  have hdb1 : w1.heap[db]? = w.heap[db]? := hT1.block db hdlt h.a4
  have hblk1 := hdb1.trans h.blk
  refine ⟨pv', _, ⟨h.good.wrote hb hd hy, ?_, ?_, ?_, ?_, ?_, ?_, hm3, put_at h.gsl h.map.isMap b d g h.at_, h.a1, ?_, ?_, ?_, ?_, ?_⟩, hT, hat⟩
  · rw [hT3.block db (by have := hT1.size; simp [World.setCell]; omega) (fun e => h.mdb e.symm), heap_setCell_same _ _ _ _ _ _ hblk1]; rfl
  · exact (hT.block gl hllt (fun e => e.elim (fun e => h.a1 e.symm) (fun e => e.elim (fun e => h.mgl e.symm) (fun e => h.a5 e)))).trans h.lst
  · have e1 : (wrote S b d).pend.length = S.pend.length + 1 := by simp [wrote]
    have e2 : pc (wrote S b d).pend (gs ++ [g]) = pc S.pend gs ++ [.int .i64 b, hv g] := pc_snoc _ _ _ _ _ h.gsl
    rw [e1, e2]
    have o2 := own_turns ho1 hT2 (fun x hx e => by subst e; exact hpb x hdlt h.a4 hx)
    refine own_turns o2 hT3 (fun x hx e => ?_)
    subst e
    exact hpb x h.map.lt h.mpv hx
  · simp [wrote, h.gsl]
  · have := h.pn; simp [wrote]; omega
  · intro i p g' h1 h2
    have hold : ∀ x, x < w.heap.size → (x ∈ gs ∨ x = g) → w3.heap[x]? = w.heap[x]? := fun x hx hh => hT.block x hx (by
      rintro (e | e | e)
      · rcases hh with hh | hh
        · exact h.a2 (by rw [← e]; exact hh)
        · exact n1 (by rw [← hh, e])
      · rcases hh with hh | hh
        · exact h.mgs (by rw [← e]; exact hh)
        · exact hmg (by rw [← e, hh])
      · rcases hh with hh | hh
        · exact h.a6 x hh e
        · exact n3 (by rw [← hh]; exact e))
    simp only [wrote] at h1
    by_cases hi : i < S.pend.length
    · rw [List.getElem?_append_left hi] at h1
      rw [List.getElem?_append_left (by rw [h.gsl]; exact hi)] at h2
      have hx := h.dat i p g' h1 h2
      exact (hold g' (heap_lt hx) (Or.inl (List.mem_of_getElem? h2))).trans hx
    · rw [List.getElem?_append_right (by omega)] at h1
      rw [List.getElem?_append_right (by rw [h.gsl]; omega), h.gsl] at h2
      have hi0 : i - S.pend.length = 0 := by
        have := (List.getElem?_eq_some_iff.1 h1).1
        simp at this; omega
      rw [hi0] at h1 h2
      simp at h1 h2
      subst h1; subst h2
      exact (hold g hglt (Or.inr rfl)).trans hg
  · intro hx
    rcases List.mem_append.1 hx with hx | hx
    · exact h.a2 hx
    · exact n1 (List.mem_singleton.1 hx).symm
  · intro hx
    rcases List.mem_append.1 hx with hx | hx
    · exact h.a3 hx
    · exact n2 (List.mem_singleton.1 hx).symm
  · exact hpb db hdlt h.a4
  · exact hpb gl hllt h.a5
  · intro x hx
    rcases List.mem_append.1 hx with hx | hx
    · exact hpb x (hgs x hx) (h.a6 x hx)
    · obtain rfl := List.mem_singleton.1 hx
      exact hpb x hglt n3

set_option maxHeartbeats 2000000 in
theorem pend_any {w : World} {db : Nat} {S : DevS} {k N gl bm : Nat} {q st : Int} {pv : Value} {gs : List Nat} {Dm : DataW Value} (h : DevX w db st S k N gl bm q pv gs Dm) (b g : Nat) (d : List Int) (hb : b < k) (hN : N ≤ 1099511627776)
    (hg : w.heap[g]? = some (bl d)) (hd : d.length = 512) (hy : ∀ x ∈ d, 0 ≤ x ∧ x ≤ 255) (n1 : g ≠ db) (n2 : g ≠ gl) (n3 : pv.ownBlock ≠ some g) :
    Calls Try.prog 46 #[.pointer (some ⟨db, 0, none⟩), .int .i64 b, hv g] w fun e w' => e = .returned (.tuple #[]) ∧ PendR w w' db st (wrote S b d) k (N + 1) gl bm q pv (gs ++ [g]) := by
  obtain ⟨i0, hi, hz0, hz1, hz2⟩ := info_parts Try.info69
  obtain ⟨c0, c2, c3, c4, c5, c6, fz⟩ := h.cells
  have f3 := fz 3
  obtain ⟨pa, pcp, hpv⟩ := row_slice h.row
  have hpn := h.pn
  have htop := h.good.top
  have hkey := keyOf_int_mk (a := (b : Int)) Try.underlying3 (q := .i64) (WalkArith.wf_i64 ⟨by omega, by omega⟩)
  have hglt := heap_lt hg
  have hdlt := heap_lt h.blk
  have ha4 := h.a4
  have hmpv := h.mpv
  have hmdb := h.mdb
  have hrow := h.row
  have hmap := h.map
  have hblk := h.blk
  have HX : Hid (DevX w db st S k N gl bm q pv gs Dm) := h
  clear h c0 c2 c5 c6 fz
  generalize hLe : S.pend.length = L at *
  have HL : Hid (S.pend.length = L) := hLe
  clear hLe
  subst hpv
  go_enter Try.func46, Try.ntmps46
  go_wp2_with (first
    | (at_builtin; refine wpList_append_own_at _ rfl (.tmp 10) (.tmp 14) 64 rfl 0 69 i0 (.agg #[.int .i64 0, .slice none 0 0]) 2 32 Try.underlying64 hi hz0 hz1 hz2 rfl (by decide) _ L _ rfl (hrow.alloc _) ⟨w.heap.size, 0, none⟩ 1 1 [.int .i64 b, hv g] rfl rfl (cell_two_new _ _ _ _) (by intro u hu; simp at hu; rcases hu with rfl | rfl <;> rfl) (by unfold maxLen; omega) (by omega) (Nat.zero_le _) ?_; intro v' w1 hown1 hgrow1 hnil1 hat1
       obtain ⟨pa2, pc2, hv2⟩ := row_slice hown1
       subst hv2
       have hb1 : w1.heap[db]? = w.heap[db]? := (hgrow1.block db (by simp; omega) (fun e => ha4 e.symm)).trans (((Below.refl _ w).alloc (Nat.le_refl _) _).block db hdlt)
       have c3' : w1.cell? ⟨db, 3, none⟩ = some (.slice pa L pcp) := (World.cell?_of_block hb1).trans c3
       have c4' : w1.cell? ⟨db, 4, none⟩ = some (.map (some bm)) := (World.cell?_of_block hb1).trans c4
       have f3' : w1.frozen? ⟨db, 3, none⟩ = false := (World.frozen?_of_block hb1).trans f3
       have hm1 : (w1.setCell ⟨db, 3, none⟩ (.slice pa2 (L + 1) pc2)).ownsMap Try.prog 3 RV bm N Dm := ((hmap.alloc _).kept hgrow1 (fun e => hmpv e.symm)).setCell hmdb _)
    | (at_mapUpdate; refine wpList_mapUpdate_own _ rfl _ _ _ 84 rfl 3 33 law3 Try.underlying84 RV bm N Dm rfl hm1 (by unfold maxLen; omega) _ _ (.int .i64 b) rfl rfl hkey (.held (hv g)) [] rfl ?_; intro w3 hown3 hgrow3))
  first | go_end0 | refine bodyPost_ret (results_none rfl _ _ _) rfl ?_
  refine ⟨rfl, HX.out.pended b g d hb hg hd hy n1 n2 n3 ((Turns.alloc _ w _).trans (Turns.grown (F := fun i => (Value.slice pa L pcp).ownBlock = some i) hgrow1 (fun b hb => hb)) (fun _ _ h => h)) (HL.out ▸ hown1) ?_ hgrow3 hown3⟩
  rcases hat1 with e | e
  · exact Or.inl e
  · exact Or.inr ⟨_, e, by simp⟩
end Go.Proofs.Ytejfbjjhnhlagaa
