/- A hoard: lists that were handed out, each in memory of its own, beside what they were; keep by its contract. -/
import Derived.Test.YtpbanjgjljdepaaKB2
import Derived.Deep.AppendLies
import Derived.Maps.AppendAt
import Derived.Deep.RegionLaw
namespace Go.Proofs.Ytpbanjgjljdepaa
open Go.RowKit Go.Maps
set_option maxRecDepth 100000

theorem Try.info22 : (Try.prog.info? 22).map (fun i => (i.zero, i.size, i.bytes)) = some (some (.slice none 0 0), 1, 24) := by kernel_rfl
/-- A list of the hoard, its bytes; the copy of what it was. -/
structure It where
  v : Value
  L : List Int
  u : Value
/-- The hoard in memory: its own blocks are labelled 3, the lists that it keeps 7. -/
structure Hd (w : World) (lab : Nat → Nat) (hb : Nat) (vL vW : Value) (es : List It) : Prop where
  box : w.heap[hb]? = some (.cells #[vL, vW] 56 (0, 0))
  rl : w.ownsRow 0 22 1 vL es.length (es.map It.v)
  rc : w.ownsRow 0 22 1 vW es.length (es.map It.u)
  kl : ∀ b, vL.ownBlock = some b → lab b = 3
  kc : ∀ b, vW.ownBlock = some b → lab b = 3
  ne : ∀ b, vW.ownBlock = some b → vL.ownBlock ≠ some b
  kh : lab hb = 3
  dat : ∀ e ∈ es, w.ownsRow 0 5 1 e.v e.L.length (e.L.map (Value.int .u8))
  kg : ∀ e ∈ es, ∀ b, e.v.ownBlock = some b → lab b = 7
  own : ∀ e ∈ es, w.ownsRow 0 5 1 e.u e.L.length (e.L.map (Value.int .u8))
  ku : ∀ e ∈ es, ∀ b, e.u.ownBlock = some b → lab b = 3
  le : ∀ e ∈ es, e.L.length ≤ 64
  sep : es.Pairwise (fun a b => ∀ g, a.v.ownBlock = some g → b.v.ownBlock ≠ some g)
theorem Hd.turns {F : Nat → Prop} {w w' : World} {lab lab' : Nat → Nat} {hb : Nat} {vL vW : Value} {es : List It} (h : Hd w lab hb vL vW es) (t : Turns F w w') (hF : ∀ i, i < w.heap.size → lab i = 3 ∨ lab i = 7 → ¬ F i) (hl : ∀ i, i < w.heap.size → lab i = 3 ∨ lab i = 7 → lab' i = lab i) : Hd w' lab' hb vL vW es := by
  have k3 : ∀ i, i < w.heap.size → lab i = 3 → lab' i = 3 := fun i hi q => (hl i hi (.inl q)).trans q
  have k7 : ∀ i, i < w.heap.size → lab i = 7 → lab' i = 7 := fun i hi q => (hl i hi (.inr q)).trans q
  exact { h with
    box := (t.block hb (heap_lt h.box) (hF hb (heap_lt h.box) (.inl h.kh))).trans h.box
    rl := own_turns h.rl t (fun b e => hF b (own_lt h.rl e) (.inl (h.kl b e)))
    rc := own_turns h.rc t (fun b e => hF b (own_lt h.rc e) (.inl (h.kc b e)))
    kl := fun b e => k3 b (own_lt h.rl e) (h.kl b e)
    kc := fun b e => k3 b (own_lt h.rc e) (h.kc b e)
    kh := k3 hb (heap_lt h.box) h.kh
    dat := fun e he => own_turns (h.dat e he) t (fun b q => hF b (own_lt (h.dat e he) q) (.inr (h.kg e he b q)))
    kg := fun e he b q => k7 b (own_lt (h.dat e he) q) (h.kg e he b q)
    own := fun e he => own_turns (h.own e he) t (fun b q => hF b (own_lt (h.own e he) q) (.inl (h.ku e he b q)))
    ku := fun e he b q => k3 b (own_lt (h.own e he) q) (h.ku e he b q) }
theorem Hd.below {w w' : World} {lab : Nat → Nat} {hb : Nat} {vL vW : Value} {es : List It} (h : Hd w lab hb vL vW es) (b : Below w.heap.size w w') (j : Nat) : Hd w' (Go.Proofs.Ytpbanjgjljdepaa.rl lab w j) hb vL vW es := h.turns (Below.turns b (fun _ => False)) (fun _ _ _ => id) (fun _ hi _ => rl_old hi)
/-- One more list in the hoard. -/
theorem Hd.add {w w' : World} {lab : Nat → Nat} {hb : Nat} {vL vW vA vC u v : Value} {L : List Int} {es : List It} (h : Hd w lab hb vL vW es) (hv : w.ownsRow 0 5 1 v L.length (L.map (Value.int .u8))) (hv7 : ∀ b, v.ownBlock = some b → lab b = 7) (hvn : ∀ g, v.ownBlock = some g → ∀ e ∈ es, e.v.ownBlock ≠ some g) (hle : L.length ≤ 64) (t : Turns (fun i => i = hb ∨ vL.ownBlock = some i ∨ vW.ownBlock = some i) w w')
    (hbox : w'.heap[hb]? = some (.cells #[vA, vC] 56 (0, 0))) (hA : w'.ownsRow 0 22 1 vA (es.length + 1) (es.map It.v ++ [v])) (hC : w'.ownsRow 0 22 1 vC (es.length + 1) (es.map It.u ++ [u]))
    (hu : w'.ownsRow 0 5 1 u L.length (L.map (Value.int .u8))) (hub : ∀ b, u.ownBlock = some b → w.heap.size ≤ b) (hAb : ∀ b, vA.ownBlock = some b → vL.ownBlock = some b ∨ w.heap.size ≤ b) (hCb : ∀ b, vC.ownBlock = some b → vW.ownBlock = some b ∨ (w.heap.size ≤ b ∧ vA.ownBlock ≠ some b)) :
    Hd w' (Go.Proofs.Ytpbanjgjljdepaa.rl lab w 3) hb vA vC (es ++ [⟨v, L, u⟩]) := by
  have hU : ∀ x n xs, w.ownsRow 0 5 1 x n xs → w'.ownsRow 0 5 1 x n xs := fun x n xs hx => own_turns hx t (fun b hb' q => by
    rcases q with q | q | q
    · subst q; exact own_typ hx h.box (by decide) hb'
    · exact own_apart h.rl hx (by decide) b q hb'
    · exact own_apart h.rc hx (by decide) b q hb')
  refine ⟨hbox, by simpa using hA, by simpa using hC, fun b e => ?_, fun b e => ?_, fun b e q => ?_, (rl_old (heap_lt h.box)).trans h.kh, fun e he => ?_, fun e he b q => ?_, fun e he => ?_, fun e he b q => ?_, fun e he => ?_, ?_⟩
  · rcases hAb b e with q | q
    · exact (rl_old (own_lt h.rl q)).trans (h.kl b q)
    · exact rl_new q
  · rcases hCb b e with q | q
    · exact (rl_old (own_lt h.rc q)).trans (h.kc b q)
    · exact rl_new q.1
  · rcases hCb b e with r | r
    · rcases hAb b q with s | s
      · exact h.ne b r s
      · have := own_lt h.rc r; omega
    · exact r.2 q
  · rcases List.mem_append.1 he with he | he
    · exact hU _ _ _ (h.dat e he)
    · obtain rfl := List.mem_singleton.1 he
      exact hU _ _ _ hv
  · rcases List.mem_append.1 he with he | he
    · exact (rl_old (own_lt (h.dat e he) q)).trans (h.kg e he b q)
    · obtain rfl := List.mem_singleton.1 he
      exact (rl_old (own_lt hv q)).trans (hv7 b q)
  · rcases List.mem_append.1 he with he | he
    · exact hU _ _ _ (h.own e he)
    · obtain rfl := List.mem_singleton.1 he
      exact hu
  · rcases List.mem_append.1 he with he | he
    · exact (rl_old (own_lt (h.own e he) q)).trans (h.ku e he b q)
    · obtain rfl := List.mem_singleton.1 he
      exact rl_new (hub b q)
  · rcases List.mem_append.1 he with he | he
    · exact h.le e he
    · obtain rfl := List.mem_singleton.1 he
      exact hle
  · refine List.pairwise_append.2 ⟨h.sep, List.pairwise_singleton _ _, fun a ha b hb' g ga gb => ?_⟩
    obtain rfl := List.mem_singleton.1 hb'
    exact hvn g gb a ha ga

set_option maxHeartbeats 2000000 in
theorem keep_h {w : World} {lab : Nat → Nat} {hb : Nat} {vL vW : Value} {es : List It} (h : Hd w lab hb vL vW es) (a0 : Option Addr) (c0 : Nat) (L : List Int) (n : Nat) (hn : L.length = n) (hn2 : n ≤ 64) (hes : es.length ≤ 1000) (hg : w.ownsRow 0 5 1 (.slice a0 n c0) n (L.map (Value.int .u8))) (hg7 : ∀ b, (Value.slice a0 n c0).ownBlock = some b → lab b = 7) (hgn : ∀ g, (Value.slice a0 n c0).ownBlock = some g → ∀ e ∈ es, e.v.ownBlock ≠ some g) :
    Calls Try.prog 23 #[.pointer (some ⟨hb, 0, none⟩), .slice a0 n c0] w fun e w' => e = .returned (.tuple #[]) ∧ ∃ vA vC u, Hd w' (Go.Proofs.Ytpbanjgjljdepaa.rl lab w 3) hb vA vC (es ++ [⟨.slice a0 n c0, L, u⟩]) ∧ Turns (fun i => lab i = 3) w w' := by
  have hbase : 0 ≤ w.heap.size := Nat.zero_le _
  obtain ⟨i0, hi, hz0, hz1, hz2⟩ := info_parts Try.info22
  obtain ⟨aL, cL, rfl⟩ := own_slice h.rl
  obtain ⟨aW, cW, rfl⟩ := own_slice h.rc
  obtain ⟨N, hN⟩ : ∃ N, es.length = N := ⟨_, rfl⟩
  have hbox := h.box
  have hrl := h.rl
  have hrc := h.rc
  rw [hN] at hbox hrl hrc hes
  have b0 : w.cell? ⟨hb, 0, none⟩ = some (.slice aL N cL) := by simp [World.cell?, hbox]
  have HH : Hid (Hd w lab hb (.slice aL es.length cL) (.slice aW es.length cW) es) := h
  clear h
  go_enter Try.func23, Try.ntmps23
  have hblt := heap_lt hbox
  have nL := own_typ hrl hbox (by decide)
  have nW := own_typ hrc hbox (by decide)
  have gL := own_apart hg hrl (by decide)
  have gW := own_apart hg hrc (by decide)
  have gB : ∀ b, (Value.slice a0 n c0).ownBlock = some b → ¬ b = hb := fun b e q => own_typ hg hbox (by decide) (by rw [← q]; exact e)
  have hWL : ∀ b, (Value.slice aW N cW).ownBlock = some b → (Value.slice aL N cL).ownBlock ≠ some b := fun b e => by subst hN; exact HH.out.ne b e
  go_wp2_with (first
    | (at_builtin; refine wpList_append_own_at _ rfl _ _ 37 rfl 0 22 i0 (.slice none 0 0) 1 24 Try.underlying37 hi hz0 hz1 hz2 rfl (by decide) _ N _ rfl (hrl.alloc _) ⟨w.heap.size, 0, none⟩ 1 1 [.slice a0 n c0] rfl rfl (cell_one_new _ _ _) (by intro u hu; simp at hu; subst hu; rfl) (by unfold maxLen; omega) (by omega) (by first | omega | (simp; done) | (simp; omega)) ?_; intro vA wA hoA hgA hnA hatA; obtain ⟨aA, cA, rfl⟩ := own_slice hoA; have tA := (Turns.alloc _ w _).trans (Turns.grown (F := fun i => (Value.slice aL N cL).ownBlock = some i) hgA (fun b hb => hb)) (fun _ _ h => h); have hboxA := (tA.block hb hblt nL).trans hbox; have f0 : wA.cell? ⟨hb, 0, none⟩ = some (.slice aL N cL) := by { simp [World.cell?, hboxA] }; have z0 : wA.frozen? ⟨hb, 0, none⟩ = false := by { simp [World.frozen?, hboxA] }; have hboxB : (wA.setCell ⟨hb, 0, none⟩ (.slice aA (N + 1) cA)).heap[hb]? = some (.cells #[.slice aA (N + 1) cA, .slice aW N cW] 56 (0, 0)) := heap_setCell_same _ _ _ _ _ _ hboxA; have f1 : (wA.setCell ⟨hb, 0, none⟩ (.slice aA (N + 1) cA)).cell? ⟨hb, 1, none⟩ = some (.slice aW N cW) := by { simp [World.cell?, hboxB] })
    | fail)
  obtain ⟨WB, hWB⟩ : ∃ WB, wA.setCell ⟨hb, 0, none⟩ (.slice aA (N + 1) cA) = WB := ⟨_, rfl⟩
  have tB := Turns.cell wA hb 0 (.slice aA (N + 1) cA)
  rw [hWB] at hboxB f1 tB
  rw [hWB]
  have hgA' := own_turns hg tA gL
  have hgB := own_turns hgA' tB gB
  have hrcA := own_turns hrc tA hWL
  have hrcB := own_turns hrcA tB (fun b e q => nW (by rw [← q]; exact e))
  have hoB := own_turns hoA tB (fun b e q => own_typ hoA hboxA (by decide) (by rw [← q]; exact e))
  have hAb : ∀ b, (Value.slice aA (N + 1) cA).ownBlock = some b → (Value.slice aL N cL).ownBlock = some b ∨ w.heap.size ≤ b := fun b e => by
    rcases hatA with q | q
    · left; exact q.symm.trans e
    · right; rw [q] at e; cases e; simp
  have sA := tA.size
  have sB := tB.size
  clear hnA hatA f0 z0 hoA hgA hboxA hWB
  go_region_law
    (first
      | (refine step_append_lies _ rfl (.tmp 18) (.tmp 21) 37 rfl 0 22 i0 (.slice none 0 0) 1 24 Try.underlying37 hi hz0 hz1 hz2 rfl (by decide) _ N _ rfl (hrcD.alloc _) ⟨wD.heap.size, 0, none⟩ 1 1 [.slice aU n cU] rfl rfl (cell_one_new _ _ _) (by intro u hu; simp at hu; subst hu; rfl) (by decide) (by unfold maxLen; omega) (by omega) (by first | omega | (simp; done) | (simp; omega)) _ rfl ?_; intro gC cC wC hoC hgC hatC hltC; have tC := (Turns.alloc _ wD _).trans (Turns.grown (F := fun i => (Value.slice aW N cW).ownBlock = some i) hgC (fun b hb => hb)) (fun _ _ h => h); have hboxC := (tC.block hb lD nD).trans hboxD; have f3 : wC.cell? ⟨hb, 1, none⟩ = some (.slice aW N cW) := by { simp [World.cell?, hboxC] }; have z3 : wC.frozen? ⟨hb, 1, none⟩ = false := by { simp [World.frozen?, hboxC] })
      | (go_simp; go_at_call 19; refine (bytes29_any a0 n c0 L WB.drew (by omega) (Lies.owned hgB)).mono ?_; rintro e wD ⟨aU, cU, rfl, hoU, bD⟩; have bD := Below.from_drew bD; have hboxD := (bD.block hb (heap_lt hboxB)).trans hboxB; have f2 : wD.cell? ⟨hb, 1, none⟩ = some (.slice aW N cW) := by { simp [World.cell?, hboxD] }; have hrcD := own_turns hrcB (Below.turns bD (fun _ => False)) (fun _ _ => id); have sD := bD.size; have nD := own_typ hrcD hboxD (by decide); have lD := heap_lt hboxD; have f2a : (wD.alloc (.cells #[.slice aU n cU] 22)).cell? ⟨hb, 1, none⟩ = some (.slice aW N cW) := by { rw [World.cell?_of_block (w := wD) (Below.heap_alloc wD _ hb lD)]; exact f2 }; dsimp only))
  all_goals
    have hAW : ∀ b, (Value.slice aA (N + 1) cA).ownBlock = some b → (Value.slice aW N cW).ownBlock ≠ some b := fun b e q => by
      rcases hAb b e with r | r
      · exact hWL b q r
      · have := (hrc.lt b q).2; omega
    have hoD := own_turns hoB (Below.turns bD (fun _ => False)) (fun _ _ => id)
    have hoE := own_turns hoD tC hAW
    have hsU : WB.heap.size = WB.drew.heap.size := rfl
    have huC : wC.ownsRow 0 5 1 (.slice aU n cU) n (L.map (Value.int .u8)) := own_turns (ownsRow_mono hoU (by omega)) tC (fun b e q => by have := (hoU.lt b e).1; have := (hrc.lt b q).2; omega)
    have hub : ∀ b, (Value.slice aU n cU).ownBlock = some b → w.heap.size ≤ b := fun b e => by have := (hoU.lt b e).1; omega
    clear f1 f2 f2a
    go_wp2
    first | go_end0 | refine bodyPost_ret (results_none rfl _ _ _) rfl ?_
    have tE := Turns.cell wC hb 1 (.slice (some ⟨gC, 0, none⟩) (N + 1) cC)
    have T : Turns (fun i => i = hb ∨ (Value.slice aL N cL).ownBlock = some i ∨ (Value.slice aW N cW).ownBlock = some i) w (wC.setCell ⟨hb, 1, none⟩ (.slice (some ⟨gC, 0, none⟩) (N + 1) cC)) :=
      ((((tA.mono (fun _ _ h => Or.inr (Or.inl h))).trans tB (fun _ _ h => Or.inl h)).trans (Below.turns bD (fun i => i = hb)) (fun _ _ h => Or.inl h)).trans tC (fun _ _ h => Or.inr (Or.inr h))).trans tE (fun _ _ h => Or.inl h)
    have hbox' : (wC.setCell ⟨hb, 1, none⟩ (.slice (some ⟨gC, 0, none⟩) (N + 1) cC)).heap[hb]? = some (.cells #[.slice aA (N + 1) cA, .slice (some ⟨gC, 0, none⟩) (N + 1) cC] 56 (0, 0)) := heap_setCell_same _ _ _ _ _ _ hboxC
    have hA' := own_turns hoE tE (fun b e q => own_typ hoE hboxC (by decide) (by rw [← q]; exact e))
    have hC' := own_turns hoC tE (fun b e q => own_typ hoC hboxC (by decide) (by rw [← q]; exact e))
    have hu' := own_turns huC tE (fun b e q => own_typ huC hboxC (by decide) (by rw [← q]; exact e))
    subst hN
    subst hn
    have h := HH.out
    refine ⟨rfl, _, _, _, h.add hg hg7 hgn hn2 T hbox' hA' hC' hu' hub hAb (fun b e => ?_), T.mono (fun i _ q => ?_)⟩
    · have e' : gC = b := Option.some.inj e
      subst e'
      rcases hatC with r | r
      · exact Or.inl r
      · refine Or.inr ⟨by simp at r; omega, fun q => ?_⟩
        have := (hoD.lt _ q).2
        simp at r
        omega
    · rcases q with q | q | q
      · subst q; exact h.kh
      · exact h.kl i q
      · exact h.kc i q
end Go.Proofs.Ytpbanjgjljdepaa
