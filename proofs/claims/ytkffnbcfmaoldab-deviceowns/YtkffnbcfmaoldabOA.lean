/- A hoard: lists that were handed out, each in a block of its own, beside what they were; keep and whole by their contracts. -/
import Derived.Test.YtkffnbcfmaoldabMC
import Derived.Deep.AppendLies
import Derived.Deep.RegionLaw
namespace Go.Proofs.Ytkffnbcfmaoldab
open Go.RowKit Go.Maps
set_option maxRecDepth 100000

/-- A list of the hoard: its block, its bytes; the copy of what it was. -/
structure It where
  g : Nat
  L : List Int
  u : Value
def It.val (x : It) : Value := .slice (some ⟨x.g, 0, none⟩) x.L.length x.L.length
/-- The hoard in memory; K holds of every block that is the hoard's. -/
structure Hd (w : World) (base hb : Nat) (K : Nat → Prop) (vL vW : Value) (es : List It) : Prop where
  box : w.heap[hb]? = some (.cells #[vL, vW] 52)
  rl : w.ownsRow base 29 1 vL es.length (es.map It.val)
  rc : w.ownsRow base 29 1 vW es.length (es.map It.u)
  kl : ∀ b, vL.ownBlock = some b → K b
  kc : ∀ b, vW.ownBlock = some b → K b
  ne : ∀ b, vW.ownBlock = some b → vL.ownBlock ≠ some b
  kh : K hb
  dat : ∀ e ∈ es, w.heap[e.g]? = some (bl e.L)
  kg : ∀ e ∈ es, K e.g
  own : ∀ e ∈ es, w.ownsRow base 5 1 e.u e.L.length (e.L.map (Value.int .u8))
  ku : ∀ e ∈ es, ∀ b, e.u.ownBlock = some b → K b
  nd : (es.map It.g).Nodup
theorem Hd.turns {F : Nat → Prop} {w w' : World} {base hb : Nat} {K : Nat → Prop} {vL vW : Value} {es : List It} (h : Hd w base hb K vL vW es) (t : Turns F w w') (hF : ∀ i, K i → ¬ F i) : Hd w' base hb K vL vW es :=
  { h with
    box := (t.block hb (heap_lt h.box) (hF hb h.kh)).trans h.box
    rl := own_turns h.rl t (fun b e => hF b (h.kl b e))
    rc := own_turns h.rc t (fun b e => hF b (h.kc b e))
    dat := fun e he => (t.block e.g (heap_lt (h.dat e he)) (hF e.g (h.kg e he))).trans (h.dat e he)
    own := fun e he => own_turns (h.own e he) t (fun b q => hF b (h.ku e he b q)) }
theorem Hd.below {w w' : World} {base hb : Nat} {K : Nat → Prop} {vL vW : Value} {es : List It} (h : Hd w base hb K vL vW es) (b : Below w.heap.size w w') : Hd w' base hb K vL vW es := h.turns (Below.turns b (fun _ => False)) (fun _ _ => id)
/-- A row's block is none of another type. -/
theorem own_ne {w : World} {base e n hb t : Nat} {v : Value} {xs : List Value} {cs : Array Value} {f : Nat × Nat} (h : w.ownsRow base e 1 v n xs) (hb' : w.heap[hb]? = some (.cells cs t f)) (hne : e ≠ t) : v.ownBlock ≠ some hb := by
  rcases h.2 with ⟨rfl, _⟩ | ⟨g, cap, cur, rfl, hg, hh, _⟩
  · intro q; cases q
  · intro q; cases q
    rw [hh] at hb'
    cases hb'
    exact hne rfl
/-- One more list in the hoard. -/
theorem Hd.add {w w' : World} {base hb : Nat} {K : Nat → Prop} {vL vW vA vC u : Value} {es : List It} (h : Hd w base hb K vL vW es) {g : Nat} {L : List Int} (hg : w.heap[g]? = some (bl L)) (hgn : ∀ e ∈ es, e.g ≠ g) (t : Turns (fun i => i = hb ∨ vL.ownBlock = some i ∨ vW.ownBlock = some i) w w')
    (hbox : w'.heap[hb]? = some (.cells #[vA, vC] 52)) (hA : w'.ownsRow base 29 1 vA (es.length + 1) (es.map It.val ++ [.slice (some ⟨g, 0, none⟩) L.length L.length])) (hC : w'.ownsRow base 29 1 vC (es.length + 1) (es.map It.u ++ [u]))
    (hu : w'.ownsRow base 5 1 u L.length (L.map (Value.int .u8))) (hub : ∀ b, u.ownBlock = some b → w.heap.size ≤ b) (hAb : ∀ b, vA.ownBlock = some b → vL.ownBlock = some b ∨ w.heap.size ≤ b) (hCb : ∀ b, vC.ownBlock = some b → vW.ownBlock = some b ∨ (w.heap.size ≤ b ∧ vA.ownBlock ≠ some b)) :
    Hd w' base hb (fun k => K k ∨ k = g ∨ (w.heap.size ≤ k ∧ k < w'.heap.size)) vA vC (es ++ [⟨g, L, u⟩]) := by
  have hty : ∀ e n (v : Value) xs, e ≠ 5 → w.ownsRow base e 1 v n xs → ∀ x bs, w.heap[x]? = some (bl bs) → v.ownBlock ≠ some x := fun e n v xs he ho x bs hx => own_ne ho hx he
  have hU : ∀ x bs, w.heap[x]? = some (bl bs) → w'.heap[x]? = some (bl bs) := fun x bs hx => by
    refine (t.block x (heap_lt hx) (fun q => ?_)).trans hx
    rcases q with q | q | q
    · subst q; have := h.box; rw [hx] at this; exact absurd (Obj.cells.inj (Option.some.inj this)).2.1 (by decide)
    · exact hty _ _ _ _ (by decide) h.rl x bs hx q
    · exact hty _ _ _ _ (by decide) h.rc x bs hx q
  refine ⟨hbox, by simpa [It.val] using hA, by simpa using hC, fun b e => ?_, fun b e => ?_, fun b e q => ?_, Or.inl h.kh, fun e he => ?_, fun e he => ?_, fun e he => ?_, fun e he b q => ?_, ?_⟩
  · rcases hAb b e with q | q
    · exact Or.inl (h.kl b q)
    · exact Or.inr (Or.inr ⟨q, (hA.lt b e).2⟩)
  · rcases hCb b e with q | q
    · exact Or.inl (h.kc b q)
    · exact Or.inr (Or.inr ⟨q.1, (hC.lt b e).2⟩)
  · rcases hCb b e with r | r
    · rcases hAb b q with s | s
      · exact h.ne b r s
      · have := (h.rc.lt b r).2; omega
    · exact r.2 q
  · rcases List.mem_append.1 he with he | he
    · exact hU _ _ (h.dat e he)
    · obtain rfl := List.mem_singleton.1 he
      exact hU _ _ hg
  · rcases List.mem_append.1 he with he | he
    · exact Or.inl (h.kg e he)
    · obtain rfl := List.mem_singleton.1 he
      exact Or.inr (Or.inl rfl)
  · rcases List.mem_append.1 he with he | he
    · refine own_turns (h.own e he) t (fun b hb q => ?_)
      rcases q with q | q | q
      · subst q; exact own_ne (h.own e he) h.box (by decide) hb
      · rcases h.rl.2 with ⟨r, _⟩ | ⟨g', cap, cur, r, _, hh, _⟩
        · rw [r] at q; cases q
        · rw [r] at q; cases q; exact own_ne (h.own e he) hh (by decide) hb
      · rcases h.rc.2 with ⟨r, _⟩ | ⟨g', cap, cur, r, _, hh, _⟩
        · rw [r] at q; cases q
        · rw [r] at q; cases q; exact own_ne (h.own e he) hh (by decide) hb
    · obtain rfl := List.mem_singleton.1 he
      exact hu
  · rcases List.mem_append.1 he with he | he
    · exact Or.inl (h.ku e he b q)
    · obtain rfl := List.mem_singleton.1 he
      exact Or.inr (Or.inr ⟨hub b q, (hu.lt b q).2⟩)
  · rw [List.map_append, List.nodup_append]
    refine ⟨h.nd, by simp, fun x hx y hy => ?_⟩
    obtain ⟨e, he, rfl⟩ := List.mem_map.1 hx
    obtain rfl : y = g := by simpa using hy
    exact hgn e he

set_option maxHeartbeats 2000000 in
theorem keep_h {w : World} {base hb : Nat} {K : Nat → Prop} {vL vW : Value} {es : List It} (h : Hd w base hb K vL vW es) (hbase : base ≤ w.heap.size) (g : Nat) (L : List Int) (n : Nat) (hn : L.length = n) (hn2 : n ≤ 1000000) (hes : es.length ≤ 1000) (hg : w.heap[g]? = some (bl L)) (hgn : ∀ e ∈ es, e.g ≠ g) :
    Calls Try.prog 46 #[.pointer (some ⟨hb, 0, none⟩), .slice (some ⟨g, 0, none⟩) n n] w fun e w' => e = .returned (.tuple #[]) ∧ ∃ vA vC u, Hd w' base hb (fun k => K k ∨ k = g ∨ (w.heap.size ≤ k ∧ k < w'.heap.size)) vA vC (es ++ [⟨g, L, u⟩]) ∧ Turns K w w' := by
  obtain ⟨i0, hi, hz0, hz1, hz2⟩ := info_parts Try.info29
  obtain ⟨aL, cL, rfl⟩ := row_slice h.rl
  obtain ⟨aW, cW, rfl⟩ := row_slice h.rc
  obtain ⟨N, hN⟩ : ∃ N, es.length = N := ⟨_, rfl⟩
  have hbox := h.box
  have hrl := h.rl
  have hrc := h.rc
  rw [hN] at hbox hrl hrc hes
  have b0 : w.cell? ⟨hb, 0, none⟩ = some (.slice aL N cL) := by simp [World.cell?, hbox]
  have HH : Hid (Hd w base hb K (.slice aL es.length cL) (.slice aW es.length cW) es) := h
  clear h
  go_enter Try.func46, Try.ntmps46
  have hglt := heap_lt hg
  have hblt := heap_lt hbox
  have nL := own_ne hrl hbox (by decide)
  have nW := own_ne hrc hbox (by decide)
  have gL := own_ne hrl hg (by decide)
  have gW := own_ne hrc hg (by decide)
  have gB : g ≠ hb := fun e => by subst e; rw [hg] at hbox; exact absurd (Obj.cells.inj (Option.some.inj hbox)).2.1 (by decide)
  have hWL : ∀ b, (Value.slice aW N cW).ownBlock = some b → (Value.slice aL N cL).ownBlock ≠ some b := fun b e => by subst hN; exact HH.out.ne b e
  go_wp2_with (first
    | (at_builtin; refine wpList_append_own_at _ rfl _ _ 27 rfl base 29 i0 (.slice none 0 0) 1 24 Try.underlying27 hi hz0 hz1 hz2 rfl (by decide) _ N _ rfl (hrl.alloc _) ⟨w.heap.size, 0, none⟩ 1 1 [.slice (some ⟨g, 0, none⟩) n n] rfl rfl (cell_one_new _ _ _) (by intro u hu; simp at hu; subst hu; rfl) (by unfold maxLen; omega) (by omega) (by simp; omega) ?_; intro vA wA hoA hgA hnA hatA; obtain ⟨aA, cA, rfl⟩ := row_slice hoA; have tA := (Turns.alloc _ w _).trans (Turns.grown (F := fun i => (Value.slice aL N cL).ownBlock = some i) hgA (fun b hb => hb)) (fun _ _ h => h); have hboxA := (tA.block hb hblt nL).trans hbox; have f0 : wA.cell? ⟨hb, 0, none⟩ = some (.slice aL N cL) := by { simp [World.cell?, hboxA] }; have z0 : wA.frozen? ⟨hb, 0, none⟩ = false := by { simp [World.frozen?, hboxA] }; have hboxB : (wA.setCell ⟨hb, 0, none⟩ (.slice aA (N + 1) cA)).heap[hb]? = some (.cells #[.slice aA (N + 1) cA, .slice aW N cW] 52) := heap_setCell_same _ _ _ _ _ _ hboxA; have f1 : (wA.setCell ⟨hb, 0, none⟩ (.slice aA (N + 1) cA)).cell? ⟨hb, 1, none⟩ = some (.slice aW N cW) := by { simp [World.cell?, hboxB] })
    | fail)
  obtain ⟨WB, hWB⟩ : ∃ WB, wA.setCell ⟨hb, 0, none⟩ (.slice aA (N + 1) cA) = WB := ⟨_, rfl⟩
  have tB := Turns.cell wA hb 0 (.slice aA (N + 1) cA)
  rw [hWB] at hboxB f1 tB
  rw [hWB]
  have hgA' := (tA.block g hglt gL).trans hg
  have hgB := (tB.block g (heap_lt hgA') gB).trans hgA'
  have hrcA := own_turns hrc tA hWL
  have hrcB := own_turns hrcA tB (fun b e q => nW (by rw [← q]; exact e))
  have hoB := own_turns hoA tB (fun b e q => own_ne hoA hboxA (by decide) (by rw [← q]; exact e))
  have hAb : ∀ b, (Value.slice aA (N + 1) cA).ownBlock = some b → (Value.slice aL N cL).ownBlock = some b ∨ w.heap.size ≤ b := fun b e => by
    rcases hatA with q | q
    · left; exact q.symm.trans e
    · right; rw [q] at e; cases e; simp
  have sA := tA.size
  have sB := tB.size
  clear hnA hatA f0 z0 hoA hgA hboxA hWB
  go_region_law
    (first
      | (refine step_append_lies _ rfl (.tmp 18) (.tmp 21) 27 rfl base 29 i0 (.slice none 0 0) 1 24 Try.underlying27 hi hz0 hz1 hz2 rfl (by decide) _ N _ rfl (hrcD.alloc _) ⟨wD.heap.size, 0, none⟩ 1 1 [.slice aU n cU] rfl rfl (cell_one_new _ _ _) (by intro u hu; simp at hu; subst hu; rfl) (by decide) (by unfold maxLen; omega) (by omega) (by simp; omega) _ rfl ?_; intro gC cC wC hoC hgC hatC hltC; have tC := (Turns.alloc _ wD _).trans (Turns.grown (F := fun i => (Value.slice aW N cW).ownBlock = some i) hgC (fun b hb => hb)) (fun _ _ h => h); have hboxC := (tC.block hb lD nD).trans hboxD; have f3 : wC.cell? ⟨hb, 1, none⟩ = some (.slice aW N cW) := by { simp [World.cell?, hboxC] }; have z3 : wC.frozen? ⟨hb, 1, none⟩ = false := by { simp [World.frozen?, hboxC] })
      | (go_simp; go_at_call 65; refine (bytes29_any (some ⟨g, 0, none⟩) n n L WB.drew (by omega) (Lies.full hgB hn)).mono ?_; rintro e wD ⟨aU, cU, rfl, hoU, bD⟩; have bD := Below.from_drew bD; have hboxD := (bD.block hb (heap_lt hboxB)).trans hboxB; have f2 : wD.cell? ⟨hb, 1, none⟩ = some (.slice aW N cW) := by { simp [World.cell?, hboxD] }; have hrcD := own_turns hrcB (Below.turns bD (fun _ => False)) (fun _ _ => id); have sD := bD.size; have nD := own_ne hrcD hboxD (by decide); have lD := heap_lt hboxD; have f2a : (wD.alloc (.cells #[.slice aU n cU] 29)).cell? ⟨hb, 1, none⟩ = some (.slice aW N cW) := by { rw [World.cell?_of_block (w := wD) (Below.heap_alloc wD _ hb lD)]; exact f2 }; dsimp only))
  all_goals
    have hAW : ∀ b, (Value.slice aA (N + 1) cA).ownBlock = some b → (Value.slice aW N cW).ownBlock ≠ some b := fun b e q => by
      rcases hAb b e with r | r
      · exact hWL b q r
      · have := (hrc.lt b q).2; omega
    have hoD := own_turns hoB (Below.turns bD (fun _ => False)) (fun _ _ => id)
    have hoE := own_turns hoD tC hAW
    have hsU : WB.heap.size = WB.drew.heap.size := rfl
    have huC : wC.ownsRow base 5 1 (.slice aU n cU) n (L.map (Value.int .u8)) := own_turns (ownsRow_mono hoU (by omega)) tC (fun b e q => by have := (hoU.lt b e).1; have := (hrc.lt b q).2; omega)
    have hub : ∀ b, (Value.slice aU n cU).ownBlock = some b → w.heap.size ≤ b := fun b e => by have := (hoU.lt b e).1; omega
    clear f1 f2 f2a
    go_wp2
    first | go_end0 | refine bodyPost_ret (results_none rfl _ _ _) rfl ?_
    have tE := Turns.cell wC hb 1 (.slice (some ⟨gC, 0, none⟩) (N + 1) cC)
    have T : Turns (fun i => i = hb ∨ (Value.slice aL N cL).ownBlock = some i ∨ (Value.slice aW N cW).ownBlock = some i) w (wC.setCell ⟨hb, 1, none⟩ (.slice (some ⟨gC, 0, none⟩) (N + 1) cC)) :=
      ((((tA.mono (fun _ _ h => Or.inr (Or.inl h))).trans tB (fun _ _ h => Or.inl h)).trans (Below.turns bD (fun i => i = hb)) (fun _ _ h => Or.inl h)).trans tC (fun _ _ h => Or.inr (Or.inr h))).trans tE (fun _ _ h => Or.inl h)
    have hbox' : (wC.setCell ⟨hb, 1, none⟩ (.slice (some ⟨gC, 0, none⟩) (N + 1) cC)).heap[hb]? = some (.cells #[.slice aA (N + 1) cA, .slice (some ⟨gC, 0, none⟩) (N + 1) cC] 52) := heap_setCell_same _ _ _ _ _ _ hboxC
    have hA' := own_turns hoE tE (fun b e q => own_ne hoE hboxC (by decide) (by rw [← q]; exact e))
    have hC' := own_turns hoC tE (fun b e q => own_ne hoC hboxC (by decide) (by rw [← q]; exact e))
    have hu' := own_turns huC tE (fun b e q => own_ne huC hboxC (by decide) (by rw [← q]; exact e))
    subst hN
    subst hn
    have h := HH.out
    refine ⟨rfl, _, _, _, h.add hg hgn T hbox' hA' hC' hu' hub hAb (fun b e => ?_), T.mono (fun i _ q => ?_)⟩
    · have e' : gC = b := Option.some.inj e
      subst e'
      rcases hatC with r | r
      · exact Or.inl r
      · refine Or.inr ⟨by simp at r; omega, fun q => ?_⟩
        have := (hoD.lt _ q).2
        simp at r
        omega
    · rcases q with q | q | q
      · subst q; exact h.kh
      · exact h.kl i q
      · exact h.kc i q
end Go.Proofs.Ytkffnbcfmaoldab
