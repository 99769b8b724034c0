/- forget by its contract. -/
import Derived.Test.YtejfbjjhnhlagaaDD
namespace Go.Proofs.Ytejfbjjhnhlagaa
open Go.RowKit Go.Maps
open Go.MuLone
set_option maxRecDepth 100000

/-- delete, as one step of a region that draws its order. -/
theorem step_delete_own {H : Type} {P : Program} {ops : Array Oper} {o : Oper} {a : Act} {w : World} {C : Act → World → Prop} {Q : Exit → Act → World → Prop} {E : Prop} (hgd : o.guard = none) (m x : Operand) (t k : TypeId) (hop : o.op = Op.call { callee := Callee.builtin Builtin.delete, args := #[m, x], argTypes := #[t, k] })
    (e : TypeId) (K : Keyed P k) (ht : P.underlying t = some (.map k e)) (R : Value → Option (DataW H × List MemPlace)) (b n : Nat) (D : DataW H)
    (hm : a.eval m = .map (some b)) (hown : w.ownsMap P k R b n D) (key : Value) (kl : Lit) (hx : a.eval x = key) (hkey : keyOf P k key = some kl)
    (hK : ∀ w', w'.ownsMap P k R b n (D.del kl) → w.mapTurned w' b → C (a.put o.dst (.tuple #[])) w') :
    if Region.wanted o (yielded ops a.tmps) = true then Oper.wp P o a w C Q else E := by
  have hw : Region.wanted o (yielded ops a.tmps) = true := by simp [Region.wanted, hgd]
  rw [if_pos hw]
  obtain ⟨w', hrun, r1, r2⟩ := hown.drop K ht hkey o.type
  unfold Oper.wp
  simp [execOp, hop, resolve, invoke, builtin, hm, hx, hrun, Result.andThen]
  exact hK w' r1 r2

/-- The keys of the first j writes are deleted. -/
def Deled (D D' : DataW Value) (ps : List (Nat × List Int)) (j : Nat) : Prop := ∀ b : Nat, b < 4096 → Maps.has D' (.int .i64 b) = (Maps.has D (.int .i64 b) && !((ps.take j).any (fun p => p.1 == b)))
theorem Deled.step {D D' : DataW Value} {ps : List (Nat × List Int)} {j : Nat} (h : Deled D D' ps j) {p : Nat × List Int} (hp : ps[j]? = some p) : Deled D (D'.del (.int .i64 p.1)) ps (j + 1) := fun b hb => by
  have hj := (List.getElem?_eq_some_iff.1 hp).1
  have e1 : ps.take (j + 1) = ps.take j ++ [p] := by
    rw [List.take_succ_eq_append_getElem hj, (List.getElem?_eq_some_iff.1 hp).2]
  rw [e1, List.any_append]
  by_cases e : p.1 = b
  · subst e
    rw [has_del_same]; simp
  · have hne : (Lit.int .i64 (b : Int)) ≠ .int .i64 (p.1 : Int) := fun q => e (by have := (Lit.int.injEq _ _ _ _).mp q; omega)
    rw [has_del_other hne, h b hb]
    have e2 : (p.1 == b) = false := by simpa using e
    simp [e2]
theorem newestG_some : ∀ (ps : List (Nat × List Int)) (gs : List Nat) (b : Nat), gs.length = ps.length → (newestG ps gs b).isSome = ps.any (fun p => p.1 == b) := fun ps gs b h => by
  unfold newestG
  rw [Option.isSome_map]
  rw [Bool.eq_iff_iff, List.find?_isSome, List.any_eq_true]
  constructor
  · rintro ⟨t, ht, hb⟩
    rw [List.mem_reverse] at ht
    exact ⟨t.1, (List.of_mem_zip ht).1, hb⟩
  · rintro ⟨p, hp, hb⟩
    obtain ⟨i, hi⟩ := List.mem_iff_getElem?.1 hp
    have hlt := (List.getElem?_eq_some_iff.1 hi).1
    have hg : gs[i]? = some (gs[i]'(by omega)) := List.getElem?_eq_getElem _
    refine ⟨(p, gs[i]'(by omega)), ?_, hb⟩
    rw [List.mem_reverse]
    refine List.mem_iff_getElem?.2 ⟨i, ?_⟩
    rw [List.getElem?_zip_eq_some]
    exact ⟨hi, hg⟩
/-- All is forgotten. -/
theorem DevX.forgot {w w' : World} {db : Nat} {S : DevS} {k N gl bm : Nat} {q st : Int} {pv : Value} {gs : List Nat} {Dm D' : DataW Value} (h : DevX w db st S k N gl bm q pv gs Dm) (hT : Turns (fun i => i = bm) w w') (hm : w'.ownsMap Try.prog 3 RV bm N D') (hd : Deled Dm D' S.pend S.pend.length) :
    DevX (w'.setCell ⟨db, 3, none⟩ (.slice none 0 0)) db st { S with pend := [] } k N gl bm q (.slice none 0 0) [] D' := by
  have hT2 : Turns (fun i => i = db) w' (w'.setCell ⟨db, 3, none⟩ (.slice none 0 0)) := Turns.cell w' db 3 _
  have hb1 := (hT.block db (heap_lt h.blk) (fun e => h.mdb e.symm)).trans h.blk
  refine ⟨⟨h.good.len, h.good.pos, h.good.top, h.good.by_, (fun p hp => by cases hp), h.good.fuse⟩, ?_, ?_, World.ownsRow_nil _ _ _ _, rfl, Nat.zero_le _, (fun i p g h => by simp at h), ?_, ?_, h.a1, by simp, by simp, by simp [Value.ownBlock], by simp [Value.ownBlock], by simp⟩
  · rw [heap_setCell_same _ _ _ _ _ _ hb1]; rfl
  · have hl := (hT.block gl (heap_lt h.lst) (fun e => h.mgl e.symm)).trans h.lst
    exact (hT2.block gl (heap_lt hl) (fun e => h.a1 e.symm)).trans hl
  · exact map_turns hm hT2 h.mdb
  · intro b hb
    have hf : Maps.has D' (.int .i64 b) = false := by
      rw [hd b hb, (h.at_ b hb).1, newestG_some _ _ _ h.gsl, List.take_length]
      simp
    exact ⟨hf, fun zd => atKey_of_not_has hf zd⟩

set_option maxHeartbeats 4000000 in
theorem forget_any {w : World} {db : Nat} {S : DevS} {k N gl bm : Nat} {q st : Int} {pv : Value} {gs : List Nat} {Dm : DataW Value} (h : DevX w db st S k N gl bm q pv gs Dm) (hN : N ≤ 1099511627776) :
    Calls Try.prog 50 #[.pointer (some ⟨db, 0, none⟩)] w fun e w' => e = .returned (.tuple #[]) ∧ (∃ D', DevX w' db st { S with pend := [] } k N gl bm q (.slice none 0 0) [] D') ∧ Turns (fun i => i = db ∨ i = bm) w w' := by
  obtain ⟨c0, c2, c3, c4, c5, c6, fz⟩ := h.cells
  have f3 := fz 3
  obtain ⟨pa, pcp, hpv⟩ := row_slice h.row
  have hpn := h.pn
  have hdlt := heap_lt h.blk
  have hmdb := h.mdb
  have HX : Hid (DevX w db st S k N gl bm q pv gs Dm) := h
  have hpl : (S.pend.length : Int) ≤ 1099511627776 := by omega
  have hcell : ∀ j p, S.pend[j]? = some p → ∃ pg g, pa = some ⟨pg, 0, none⟩ ∧ j < S.pend.length ∧ p.1 < 4096 ∧ w.cell? ⟨pg, j * 2, none⟩ = some (.int .i64 p.1) ∧ w.cell? ⟨pg, j * 2 + 1, none⟩ = some (hv g) ∧ pg ≠ bm ∧ pg < w.heap.size := fun j p hp => by
    have hj := (List.getElem?_eq_some_iff.1 hp).1
    have hpm := h.good.pend p (List.mem_of_getElem? hp)
    have htop := h.good.top
    have hgj : gs[j]? = some (gs[j]'(by rw [h.gsl]; exact hj)) := List.getElem?_eq_getElem _
    obtain ⟨e1, e2⟩ := pc_at _ _ j p _ hp hgj
    have hrow := h.row
    rw [hpv] at hrow
    rcases hrow.2 with ⟨_, h0⟩ | ⟨pg, cap, cur, hv', _, hb, _⟩
    · omega
    · cases hv'
      refine ⟨pg, gs[j]'(by rw [h.gsl]; exact hj), rfl, hj, by omega, ?_, ?_, fun e => ?_, heap_lt hb⟩
      · rw [hrow.cellAt (j * 2) (by omega)]; exact e1
      · rw [hrow.cellAt (j * 2 + 1) (by omega)]; exact e2
      · exact h.mpv (by rw [hpv, ← e]; rfl)
  have HC : Hid _ := hcell
  have hmap := h.map
  clear h c0 c2 c5 c6 fz hcell
  obtain ⟨L, hL⟩ : ∃ L, S.pend.length = L := ⟨_, rfl⟩
  have HL : Hid (S.pend.length = L) := hL
  rw [hL] at hpv hpn hpl
  clear hL
  subst hpv
  go_enter Try.func50, Try.ntmps50
  go_wp2
  go_loopw [9] (fun i wr => ∃ j : Nat, j ≤ L ∧ i = .int .i64 j ∧ Turns (fun i => i = bm) w wr ∧ ∃ D, wr.ownsMap Try.prog 3 RV bm N D ∧ Deled Dm D S.pend j) (fun i _ => L - (intOf i).toNat)
  case atStart => exact ⟨0, Nat.zero_le _, rfl, Turns.refl _ _, Dm, hmap, fun b hb => by simp⟩
  case round =>
    obtain ⟨j, hj, rfl, hT, D, hm, hD⟩ := hrel
    have hdb : wr.heap[db]? = w.heap[db]? := hT.block db hdlt (fun e => hmdb e.symm)
    have k3 : wr.cell? ⟨db, 3, none⟩ = some (.slice pa L pcp) := (World.cell?_of_block hdb).trans c3
    have k4 : wr.cell? ⟨db, 4, none⟩ = some (.map (some bm)) := (World.cell?_of_block hdb).trans c4
    have kf3 : wr.frozen? ⟨db, 3, none⟩ = false := (World.frozen?_of_block hdb).trans f3
    by_cases hlt : j < L
    · obtain ⟨p, hp⟩ : ∃ p, S.pend[j]? = some p := ⟨_, List.getElem?_eq_getElem (by rw [HL.out]; exact hlt)⟩
      obtain ⟨pg, g, rfl, _, hp4, e0, e1, hpg, hpgl⟩ := HC.out j p hp
      have hpb : wr.heap[pg]? = w.heap[pg]? := hT.block pg hpgl hpg
      have x0 : wr.cell? ⟨pg, j * 2, none⟩ = some (.int .i64 p.1) := (World.cell?_of_block hpb).trans e0
      have x1 : wr.cell? ⟨pg, j * 2 + 1, none⟩ = some (hv g) := (World.cell?_of_block hpb).trans e1
      have hD' := hD.step hp
      have HD : Hid (Deled Dm (D.del (.int .i64 p.1)) S.pend (j + 1)) := hD'
      have hkey := keyOf_int_mk (a := (p.1 : Int)) Try.underlying3 (q := .i64) (WalkArith.wf_i64 ⟨by omega, by omega⟩)
      clear hD hD' e0 e1 hp k3 kf3
      generalize p.1 = pb at *
      obtain ⟨W, hW⟩ : ∃ W, wr.alloc (.cells #[.int .i64 pb, .slice (some ⟨g, 0, none⟩) 512 512] 69) = W := ⟨_, rfl⟩
      have hbW : Below wr.heap.size wr W := by rw [← hW]; exact (Below.refl _ wr).alloc (Nat.le_refl _) _
      have hdr : db < wr.heap.size := Nat.lt_of_lt_of_le hdlt hT.size
      have y4 : W.cell? ⟨db, 4, none⟩ = some (.map (some bm)) := (hbW.cell hdr).trans k4
      have y0 : W.cell? ⟨wr.heap.size, 0, none⟩ = some (.int .i64 pb) := by rw [← hW]; simp
      have hmW : W.ownsMap Try.prog 3 RV bm N D := by rw [← hW]; exact hm.alloc _
      have hml := hm.lt
      go_wp2_with fail
      try rw [hW]
      go_region_held3 (fun w' => w'.cell? ⟨db, 4, none⟩ = some (.map (some bm)) ∧ w'.cell? ⟨wr.heap.size, 0, none⟩ = some (.int .i64 pb))
        (first | exact ⟨y4, y0⟩ | exact ⟨z4, z0⟩)
        (first
          | (refine step_delete_own rfl (.tmp 16) (.tmp 18) 84 3 rfl 33 law3 Try.underlying84 RV bm N D rfl hmW _ (.int .i64 pb) rfl hkey ?_; intro w3 hm3 htr3; have z4 : w3.cell? ⟨db, 4, none⟩ = some (.map (some bm)) := htr3.grown.cell y4 (by simpa using fun e => hmdb e.symm); have z0 : w3.cell? ⟨wr.heap.size, 0, none⟩ = some (.int .i64 pb) := htr3.grown.cell y0 (by simp; omega)))
      have hT3 : Turns (fun i => i = bm) w w3 := ((hT.trans (Below.turns hbW (fun i => i = bm)) (fun _ _ h => h)).trans (Turns.drewN (fun i => i = bm) W 1) (fun _ _ h => h)).trans (Turns.grown (F := fun i => i = bm) htr3.grown (fun b hb => (Option.some.inj hb).symm)) (fun _ _ h => h)
      go_wp2
      go_roundw
      case rel => exact ⟨j + 1, by omega, by go_num, hT3, _, hm3, HD.out⟩
      case measure => simp [intOf]; omega
    · obtain rfl : j = L := by omega
      have HD : Hid (Deled Dm D S.pend j) := hD
      clear hD
      go_wp2
      first | go_end0 | refine bodyPost_ret (results_none rfl _ _ _) rfl ?_
      refine ⟨rfl, ⟨D, HX.out.forgot hT hm (HL.out.symm ▸ HD.out)⟩, (hT.mono (fun _ _ h => Or.inr h)).trans (Turns.cell wr db 3 _) (fun _ _ h => Or.inl h)⟩
end Go.Proofs.Ytejfbjjhnhlagaa
