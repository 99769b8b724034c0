/- The document's own net: New, Send. -/
import Derived.Test.YtpbanjgjljdepaaN7
import Derived.Deep.RegionLaw
import Derived.Deep.DrawnRows
namespace Go.Proofs.Ytpbanjgjljdepaa
open Go.RowKit Go.Maps
set_option maxRecDepth 100000
variable {w w' : World} {lab lab' : Nat → Nat} {k j xb : Nat} {v : Value} {last : Int} {es : List En} {F : Nat → Prop} {S : St}

theorem flC_len (es : List En) : (es.flatMap flC).length = es.length * 3 := by
  induction es with
  | nil => rfl
  | cons x l ih => rw [List.flatMap_cons, List.length_append, ih, List.length_cons, show (flC x).length = 3 from rfl]; omega
theorem flC_at : ∀ (es : List En) (i : Nat) (e : En), es[i]? = some e → (es.flatMap flC)[i * 3]? = some (.int .i64 e.no) ∧ (es.flatMap flC)[i * 3 + 1]? = some (.int .i64 e.to) ∧ (es.flatMap flC)[i * 3 + 2]? = some e.v
  | [], _, _, h => by simp at h
  | x :: es, 0, e, h => by simp at h; subst h; simp [flC]
  | x :: es, i + 1, e, h => by
    have := flC_at es i e (by simpa using h)
    rw [show (i + 1) * 3 = i * 3 + 1 + 1 + 1 by omega]
    simpa [flC] using this
/-- One of a list of flights. -/
theorem FRow.at {i : Nat} {e : En} (h : FRow w lab k v es) (he : es[i]? = some e) : ∃ g c, v = .slice (some ⟨g, 0, none⟩) es.length c ∧ w.cell? ⟨g, i * 3, none⟩ = some (.int .i64 e.no) ∧ w.cell? ⟨g, i * 3 + 1, none⟩ = some (.int .i64 e.to) ∧ w.cell? ⟨g, i * 3 + 2, none⟩ = some e.v := by
  have hi := (List.getElem?_eq_some_iff.1 he).1
  obtain ⟨a1, a2, a3⟩ := flC_at es i e he
  rcases h.row.2 with ⟨_, h0⟩ | ⟨g, cap, cur, hv, _, hg, h1, h2, h3, h4⟩
  · omega
  · refine ⟨g, cap, hv, ?_, ?_, ?_⟩
    · rw [← h4, List.getElem?_take, if_pos (by omega)] at a1
      simp only [World.cell?, hg]; simpa using a1
    · rw [← h4, List.getElem?_take, if_pos (by omega)] at a2
      simp only [World.cell?, hg]; simpa using a2
    · rw [← h4, List.getElem?_take, if_pos (by omega)] at a3
      simp only [World.cell?, hg]; simpa using a3
theorem Below.from_drew {w w' : World} (h : Below w.drew.heap.size w.drew w') : Below w.heap.size w w' := ⟨h.os, h.tape, h.output, h.size, h.block⟩
theorem Ens.box {b : Nat} {cs : Array Value} {T : TypeId} {f : Nat × Nat} (h : Ens w lab k es) (t : Turns (fun i => i = b) w w') (hb : w.heap[b]? = some (.cells cs T f)) (hT : 5 ≠ T) : Ens w' lab k es :=
  h.later t (fun i e => ⟨cs, T, f, by rw [e]; exact hb, hT⟩)
theorem Ens.rowed {b0 s n : Nat} {T : TypeId} {v : Value} {xs : List Value} (h : Ens w lab k es) (hr : w.ownsRow b0 T s v n xs) (t : Turns (fun i => v.ownBlock = some i) w w') (hT : 5 ≠ T) : Ens w' lab k es :=
  h.later t (fun i e => by
    rcases hr.2 with ⟨r, _⟩ | ⟨g', cap', cur', r, _, hh, _⟩
    · rw [r] at e; cases e
    · rw [r] at e; cases e; exact ⟨_, _, _, hh, hT⟩)
theorem frozen_turns {b o : Nat} {cs : Array Value} {T : TypeId} (t : Turns F w w') (h : w.heap[b]? = some (.cells cs T (0, 0))) (hF : ¬ F b) : w'.frozen? ⟨b, o, none⟩ = false := by
  have := (t.block b (heap_lt h) hF).trans h
  simp [World.frozen?, this]
theorem DnX.c0 (h : DnX w lab k xb v last es) : w.cell? ⟨xb, 0, none⟩ = some v := by simp [World.cell?, h.box]
theorem DnX.c1 (h : DnX w lab k xb v last es) : w.cell? ⟨xb, 1, none⟩ = some (.int .i64 last) := by simp [World.cell?, h.box]
theorem DnX.fz (h : DnX w lab k xb v last es) (i : Nat) : w.frozen? ⟨xb, i, none⟩ = false := by simp [World.frozen?, h.box]
theorem DnX.below (h : DnX w lab k xb v last es) (b : Below w.heap.size w w') (hl : ∀ i, i < w.heap.size → lab i = k → lab' i = k) : DnX w' lab' k xb v last es :=
  h.turns (Below.turns b (fun _ => False)) (fun _ _ _ q => q) hl
theorem Dn.ok (h : Dn w lab k xb S) : S.Ok := by obtain ⟨v, es, _, _, h⟩ := h; exact h
theorem Dn.below (h : Dn w lab k xb S) (b : Below w.heap.size w w') (j : Nat) : Dn w' (rl lab w j) k xb S :=
  h.turns (Below.turns b (fun _ => False)) (fun _ _ _ q => q) (fun _ hi q => (rl_old hi).trans q)
set_option maxHeartbeats 1000000 in
theorem dnew_any (w : World) (lab : Nat → Nat) (k : Nat) :
    Calls Try.prog 21 #[] w fun e w' => ∃ xb, e = .returned (.pointer (some ⟨xb, 0, none⟩)) ∧ Dn w' (rl lab w k) k xb S0 ∧ Below w.heap.size w w' := by
  go_enter Try.func21, Try.ntmps21
  go_wp2_with fail
  go_ret
  refine ⟨w.heap.size, rfl, ⟨.slice none 0 0, [], ⟨heap_alloc_new w _, FRow.nil _ _ _, rl_new (Nat.le_refl _)⟩, rfl, S0.ok⟩, (Below.refl _ w).alloc (Nat.le_refl _) _⟩
theorem dsend_full (h : DnX w lab k xb v last es) (hf : 4096 ≤ es.length) (hf2 : es.length ≤ 4096) (to : Int) (u : Value) :
    Calls Try.prog 24 #[.pointer (some ⟨xb, 0, none⟩), .agg #[.int .i64 to, u]] w fun e w' => e = .returned (.int .i64 0) ∧ Below w.heap.size w w' := by
  obtain ⟨W1, hW1⟩ : ∃ W, w.alloc (.cells #[.int .i64 to, u] 28) = W := ⟨_, rfl⟩
  have b1 : Below w.heap.size w W1 := by rw [← hW1]; exact (Below.refl _ w).alloc (Nat.le_refl _) _
  have h1 := h.below b1 (lab' := lab) (fun i hi q => q)
  have c0 := h1.c0
  obtain ⟨ao, c, hv⟩ := own_slice h.row.row
  rw [hv] at c0
  clear h h1
  go_enter Try.func24, Try.ntmps24
  go_wp2_with fail
  go_ret
  exact ⟨rfl, b1⟩
theorem dsend_end {W1 W2 w3 w5 : World} {L1 : Nat → Nat} {av aU : Option Addr} {q cv gC cC n cU : Nat} {to : Int} {d : List Int} (h : DnX w lab k xb (.slice av q cv) last es) (hq : es.length = q) (b1 : Below w.heap.size w W1) (u2 : Turns (fun i => i = xb) W1 W2) (e2 : Ens W2 L1 k es)
    (ho1 : ∀ i, i < w.heap.size → L1 i = lab i) (hn1 : ∀ i, w.heap.size ≤ i → L1 i = k)
    (z3 : w3.heap[xb]? = some (.cells #[.slice av q cv, .int .i64 (last + 1)] 83 (0, 0))) (b3 : Below W2.heap.size W2 w3) (hoU : w3.ownsRow W2.drew.heap.size 5 1 (.slice aU n cU) n (d.map (Value.int .u8))) (hn : n ≤ 140737488355328) (r3 : w3.ownsRow 0 42 3 (.slice av q cv) q (es.flatMap flC))
    (hT5 : Turns (fun i => (Value.slice av q cv).ownBlock = some i) w3 w5) (ho5 : w5.ownsRow 0 42 3 (.slice (some ⟨gC, 0, none⟩) (q + 1) cC) (q + 1) (es.flatMap flC ++ [.int .i64 (last + 1), .int .i64 to, .slice aU n cU])) (hat : (Value.slice av q cv).ownBlock = some gC ∨ w3.heap.size ≤ gC) (hxr : (Value.slice av q cv).ownBlock ≠ some xb) :
    DnX (w5.setCell ⟨xb, 0, none⟩ (.slice (some ⟨gC, 0, none⟩) (q + 1) cC)) L1 k xb (.slice (some ⟨gC, 0, none⟩) (q + 1) cC) (last + 1) (es ++ [⟨last + 1, to, d, .slice aU n cU⟩]) ∧ Turns (fun i => lab i = k) w (w5.setCell ⟨xb, 0, none⟩ (.slice (some ⟨gC, 0, none⟩) (q + 1) cC)) := by
  have z5 := (hT5.block xb (heap_lt z3) hxr).trans z3
  have t6 := Turns.cell w5 xb 0 (.slice (some ⟨gC, 0, none⟩) (q + 1) cC)
  have z6 := heap_setCell_same w5 xb 0 _ _ (.slice (some ⟨gC, 0, none⟩) (q + 1) cC) z5
  have hsz : w.heap.size ≤ W2.heap.size := Nat.le_trans b1.size u2.size
  have hsz3 : w.heap.size ≤ w3.heap.size := Nat.le_trans hsz b3.size
  have hdl : d.length = n := by have := hoU.1; simpa using this
  have e3 : Ens w3 L1 k es := e2.turns (Below.turns b3 (fun _ => False)) (fun _ _ _ q => q) (fun _ _ q => q)
  have dU : Da w3 L1 k d (.slice aU n cU) := ⟨by rw [hdl]; exact ownsRow_mono hoU (Nat.zero_le _), fun b e => hn1 b (Nat.le_trans hsz (own_ge hoU e)), by omega⟩
  have e4 : Ens w3 L1 k (es ++ [⟨last + 1, to, d, .slice aU n cU⟩]) := e3.snoc dU (fun g hg x hx r => by
    have h1 : g < W2.heap.size := (e2.da x hx).lt g r
    have h2 : W2.heap.size ≤ g := own_ge hoU hg
    omega)
  have e6 := (e4.rowed r3 hT5 (by decide)).box t6 z5 (by decide)
  have hxc : gC ≠ xb := fun e => by
    have hl := heap_lt z3
    rcases hat with r | r
    · exact hxr (by rw [r, e])
    · omega
  have hlv : L1 gC = k := by
    rcases hat with r | r
    · have hlt : gC < w.heap.size := own_lt h.row.row r
      rw [ho1 gC hlt]; exact h.row.lv gC r
    · exact hn1 gC (by omega)
  refine ⟨⟨z6, ⟨?_, e6, fun b e => by cases e; exact hlv⟩, by rw [ho1 xb (heap_lt h.box)]; exact h.lx⟩, ?_⟩
  · have := own_turns ho5 t6 (fun b hb e => by cases hb; exact hxc e)
    rw [List.length_append, hq, List.flatMap_append]
    simpa [flC] using this
  · have T1 : Turns (fun i => lab i = k) w W2 := (Below.turns b1 _).trans u2 (fun i _ e => by rw [e]; exact h.lx)
    have T2 : Turns (fun i => lab i = k) w w3 := T1.trans (Below.turns b3 (fun _ => False)) (fun _ _ e => e.elim)
    exact (T2.trans hT5 (fun i hi e => h.row.lv i e)).trans t6 (fun i _ e => by rw [e]; exact h.lx)
set_option maxHeartbeats 4000000 in
theorem dsend_ok (h : DnX w lab k xb v last es) (hf : es.length < 4096) (hl0 : 0 ≤ last) (hlast : last < 4611686018427387904) (to : Int) (ao : Option Addr) (n c : Nat) (d : List Int) (hL : Lies w ao n c d) (hn : n ≤ 140737488355328) :
    Calls Try.prog 24 #[.pointer (some ⟨xb, 0, none⟩), .agg #[.int .i64 to, .slice ao n c]] w fun e w' => e = .returned (.int .i64 (last + 1)) ∧ ∃ v' u, DnX w' (rl lab w k) k xb v' (last + 1) (es ++ [⟨last + 1, to, d, u⟩]) ∧ Turns (fun i => lab i = k) w w' := by
  obtain ⟨i0, hi, hz0, hz1, hz2⟩ := info_parts Try.infoFL
  obtain ⟨W1, hW1⟩ : ∃ W, w.alloc (.cells #[.int .i64 to, .slice ao n c] 28) = W := ⟨_, rfl⟩
  have z1 : W1.heap[w.heap.size]? = some (.cells #[.int .i64 to, .slice ao n c] 28) := by rw [← hW1]; exact heap_alloc_new w _
  have b1 : Below w.heap.size w W1 := by rw [← hW1]; exact (Below.refl _ w).alloc (Nat.le_refl _) _
  obtain ⟨L1, hL1⟩ : ∃ L, rl lab w k = L := ⟨_, rfl⟩
  have ho1 : ∀ i, i < w.heap.size → L1 i = lab i := fun i hi => by rw [← hL1]; exact rl_old hi
  have hn1 : ∀ i, w.heap.size ≤ i → L1 i = k := fun i hi => by rw [← hL1]; exact rl_new hi
  have h1 := h.below b1 (lab' := L1) (fun i hi q => (ho1 i hi).trans q)
  obtain ⟨q, hq⟩ : ∃ q, es.length = q := ⟨_, rfl⟩
  obtain ⟨av, cv, hv⟩ := own_slice h.row.row
  rw [hq] at hv hf
  subst hv
  have c0 := h1.c0
  have c1 := h1.c1
  have fz := h1.fz
  have hw : IntKind.i64.wrap (last + 1) = last + 1 := by rw [IntKind.wrap_i64]; omega
  obtain ⟨W2, hW2⟩ : ∃ W, W1.setCell ⟨xb, 1, none⟩ (.int .i64 (last + 1)) = W := ⟨_, rfl⟩
  have u2 : Turns (fun i => i = xb) W1 W2 := by rw [← hW2]; exact Turns.cell W1 xb 1 _
  have z2 : W2.heap[xb]? = some (.cells #[.slice av q cv, .int .i64 (last + 1)] 83 (0, 0)) := by rw [← hW2]; exact heap_setCell_same _ _ _ _ _ _ h1.box
  have hxw : w.heap.size ≠ xb := fun q => by have := heap_lt h.box; omega
  have y2 : W2.heap[w.heap.size]? = some (.cells #[.int .i64 to, .slice ao n c] 28) := (u2.block _ (heap_lt z1) hxw).trans z1
  have hL2 : Lies W2 ao n c d := (hL.below b1 (Nat.le_refl _)).off h1.box (by intro v hv u; simp at hv; rcases hv with rfl | rfl <;> simp) u2
  have r2 : W2.ownsRow 0 42 3 (.slice av q cv) q (es.flatMap flC) := by
    have := own_turns h1.row.row u2 (fun b hb e => by rw [e] at hb; exact own_typ h1.row.row h1.box (by decide) hb)
    rw [hq] at this; exact this
  have e2 : Ens W2 L1 k es := h1.row.en.box u2 h1.box (by decide)
  have k0 : W2.cell? ⟨xb, 0, none⟩ = some (.slice av q cv) := by simp [World.cell?, z2]
  have k1 : W2.cell? ⟨xb, 1, none⟩ = some (.int .i64 (last + 1)) := by simp [World.cell?, z2]
  have k2 : W2.cell? ⟨w.heap.size, 0, none⟩ = some (.int .i64 to) := by simp [World.cell?, y2]
  have k3 : W2.cell? ⟨w.heap.size, 1, none⟩ = some (.slice ao n c) := by simp [World.cell?, y2]
  have hxr : (Value.slice av q cv).ownBlock ≠ some xb := own_typ r2 z2 (by decide)
  have hwr : (Value.slice av q cv).ownBlock ≠ some w.heap.size := own_typ r2 y2 (by decide)
  have HZ : Hid (W2.heap[xb]? = some (.cells #[.slice av q cv, .int .i64 (last + 1)] 83 (0, 0))) := z2
  have HB1 : Hid (Below w.heap.size w W1) := b1
  have HU2 : Hid (Turns (fun i => i = xb) W1 W2) := u2
  have HE2 : Hid (Ens W2 L1 k es) := e2
  have HR2 : Hid (W2.ownsRow 0 42 3 (.slice av q cv) q (es.flatMap flC)) := r2
  have HH : Hid (DnX w lab k xb (.slice av q cv) last es) := h
  have HQ : Hid (es.length = q) := hq
  have hxl := heap_lt h.box
  have hs1 := b1.size
  have hs2 := u2.size
  clear h h1 b1 u2 z1 y2 hq
  rw [hL1]
  go_enter Try.func24, Try.ntmps24
  go_wp2_with fail
  -- REGION
  refine wp_region_held_drew (S := fun w' => w'.cell? ⟨xb, 1, none⟩ = some (.int .i64 (last + 1)) ∧ w'.cell? ⟨w.heap.size, 0, none⟩ = some (.int .i64 to) ∧ w'.cell? ⟨w.heap.size, 1, none⟩ = some (.slice ao n c)) (by kernel_rfl) ⟨k1, k2, k3⟩ (fun hHeld => ?_)
  refine wpAnyH_take (i := 0) (oi := ⟨some 18, .move (.tmp 0), 52, "net.go:24", #[], none⟩) (v := (.pointer (some ⟨xb, 0, none⟩))) rfl (by kernel_rfl) (by kernel_rfl) (by kernel_rfl) (fun _ _ _ h => h) (Or.inl ⟨by rfl, fun _ _ => by rfl⟩) hHeld ?_
  simp only [Act.put, List.setIfInBounds_toArray, List.set_cons_zero, List.set_cons_succ]
  refine wpAnyH_take (i := 1) (oi := ⟨some 19, .move (.tmp 0), 52, "net.go:24", #[], none⟩) (v := (.pointer (some ⟨xb, 0, none⟩))) rfl (by kernel_rfl) (by kernel_rfl) (by kernel_rfl) (fun _ _ _ h => h) (Or.inl ⟨by rfl, fun _ _ => by rfl⟩) hHeld ?_
  simp only [Act.put, List.setIfInBounds_toArray, List.set_cons_zero, List.set_cons_succ]
  refine wpAnyH_take (i := 2) (oi := ⟨some 20, .nilCheck (.tmp 19), 0, "net.go:24", #[⟨1, .data⟩], none⟩) (v := (.pointer (some ⟨xb, 0, none⟩))) rfl (by kernel_rfl) (by kernel_rfl) (by kernel_rfl) (fun _ _ _ h => h) (Or.inl ⟨by rfl, fun _ _ => by rfl⟩) hHeld ?_
  simp only [Act.put, List.setIfInBounds_toArray, List.set_cons_zero, List.set_cons_succ]
  refine wpAnyH_take (i := 3) (oi := ⟨some 21, .fieldAddr 83 (.tmp 20) 0, 0, "net.go:24", #[⟨2, .data⟩], none⟩) (v := (.pointer (some ⟨xb, 0, none⟩))) rfl (by kernel_rfl) (by kernel_rfl) (by kernel_rfl) (fun _ _ _ h => h) (Or.inl ⟨by rfl, fun _ _ => by rfl⟩) hHeld ?_
  simp only [Act.put, List.setIfInBounds_toArray, List.set_cons_zero, List.set_cons_succ]
  refine wpAnyH_take (i := 5) (oi := ⟨some 23, .move (.tmp 0), 52, "net.go:24", #[], none⟩) (v := (.pointer (some ⟨xb, 0, none⟩))) rfl (by kernel_rfl) (by kernel_rfl) (by kernel_rfl) (fun _ _ _ h => h) (Or.inl ⟨by rfl, fun _ _ => by rfl⟩) hHeld ?_
  simp only [Act.put, List.setIfInBounds_toArray, List.set_cons_zero, List.set_cons_succ]
  refine wpAnyH_take (i := 6) (oi := ⟨some 24, .nilCheck (.tmp 23), 0, "net.go:24", #[⟨5, .data⟩], none⟩) (v := (.pointer (some ⟨xb, 0, none⟩))) rfl (by kernel_rfl) (by kernel_rfl) (by kernel_rfl) (fun _ _ _ h => h) (Or.inl ⟨by rfl, fun _ _ => by rfl⟩) hHeld ?_
  simp only [Act.put, List.setIfInBounds_toArray, List.set_cons_zero, List.set_cons_succ]
  refine wpAnyH_take (i := 7) (oi := ⟨some 25, .fieldAddr 83 (.tmp 24) 1, 0, "net.go:24", #[⟨6, .data⟩], none⟩) (v := (.pointer (some ⟨xb, 1, none⟩))) rfl (by kernel_rfl) (by kernel_rfl) (by kernel_rfl) (fun _ _ _ h => h) (Or.inl ⟨by rfl, fun _ _ => by rfl⟩) hHeld ?_
  simp only [Act.put, List.setIfInBounds_toArray, List.set_cons_zero, List.set_cons_succ]
  refine wpAnyH_take (i := 8) (oi := ⟨some 26, .load 3 (.tmp 25), 3, "net.go:24", #[⟨7, .data⟩], none⟩) (v := (.int .i64 (last + 1))) rfl (by kernel_rfl) (by kernel_rfl) (by kernel_rfl) (fun _ _ _ h => h) (Or.inl ⟨by rfl, fun w' h' => by have e1 := h'.1; have e2 := h'.2.1; have e3 := h'.2.2; unfold execOp; go_simp⟩) hHeld ?_
  simp only [Act.put, List.setIfInBounds_toArray, List.set_cons_zero, List.set_cons_succ]
  refine wpAnyH_take (i := 9) (oi := ⟨some 27, .fieldAddr 28 (.tmp 3) 0, 0, "net.go:24", #[], none⟩) (v := (.pointer (some ⟨w.heap.size, 0, none⟩))) rfl (by kernel_rfl) (by kernel_rfl) (by kernel_rfl) (fun _ _ _ h => h) (Or.inl ⟨by rfl, fun _ _ => by rfl⟩) hHeld ?_
  simp only [Act.put, List.setIfInBounds_toArray, List.set_cons_zero, List.set_cons_succ]
  refine wpAnyH_take (i := 10) (oi := ⟨some 28, .load 3 (.tmp 27), 3, "net.go:24", #[⟨9, .data⟩], none⟩) (v := (.int .i64 to)) rfl (by kernel_rfl) (by kernel_rfl) (by kernel_rfl) (fun _ _ _ h => h) (Or.inl ⟨by rfl, fun w' h' => by have e1 := h'.1; have e2 := h'.2.1; have e3 := h'.2.2; unfold execOp; go_simp⟩) hHeld ?_
  simp only [Act.put, List.setIfInBounds_toArray, List.set_cons_zero, List.set_cons_succ]
  refine wpAnyH_take (i := 11) (oi := ⟨some 29, .fieldAddr 28 (.tmp 3) 1, 0, "net.go:24", #[], none⟩) (v := (.pointer (some ⟨w.heap.size, 1, none⟩))) rfl (by kernel_rfl) (by kernel_rfl) (by kernel_rfl) (fun _ _ _ h => h) (Or.inl ⟨by rfl, fun _ _ => by rfl⟩) hHeld ?_
  simp only [Act.put, List.setIfInBounds_toArray, List.set_cons_zero, List.set_cons_succ]
  refine wpAnyH_take (i := 12) (oi := ⟨some 30, .load 22 (.tmp 29), 22, "net.go:24", #[⟨11, .data⟩], none⟩) (v := (.slice ao n c)) rfl (by kernel_rfl) (by kernel_rfl) (by kernel_rfl) (fun _ _ _ h => h) (Or.inl ⟨by rfl, fun w' h' => by have e1 := h'.1; have e2 := h'.2.1; have e3 := h'.2.2; unfold execOp; go_simp⟩) hHeld ?_
  simp only [Act.put, List.setIfInBounds_toArray, List.set_cons_zero, List.set_cons_succ]
  refine wpAnyH_ready (rs := [4, 13]) (by kernel_rfl) (by simp) ?_
  refine AllReadyH.cons (o := ⟨some 22, .load 34 (.tmp 21), 34, "net.go:24", #[⟨3, .data⟩], none⟩) rfl (fun KK hK => ?_) (AllReadyH.cons (o := ⟨some 31, .call ⟨.value (.func 19), #[.tmp 30], #[22]⟩, 22, "net.go:24", #[⟨12, .data⟩], none⟩) rfl (fun KK hK => ?_) (AllReadyH.nil))
  · go_simp
    refine hK.out _ _ ⟨k1, k2, k3⟩ (fun hHeld => ?_)
    clear hK KK
    try simp only [Act.put, List.setIfInBounds_toArray, List.set_cons_zero, List.set_cons_succ]
    refine wpAnyH_ready (rs := [13]) (by kernel_rfl) (by simp) ?_
    refine AllReadyH.cons (o := ⟨some 31, .call ⟨.value (.func 19), #[.tmp 30], #[22]⟩, 22, "net.go:24", #[⟨12, .data⟩], none⟩) rfl (fun KK hK => ?_) (AllReadyH.nil)
    go_simp
    refine (bytes29_any ao n c d W2.drew hn (hL2.below (below_drewN W2 1) (Nat.le_refl _))).mono ?_
    rintro e w3 ⟨aU, cU, rfl, hoU, b3⟩
    have b3 := Below.from_drew b3
    have p0 := cell_later b3 k0
    have p1 := cell_later b3 k1
    have p2 := cell_later b3 k2
    have p3 := cell_later b3 k3
    have r3 := own_turns HR2.out (Below.turns b3 (fun _ => False)) (fun _ _ q => q)
    have z3 := (b3.block xb (heap_lt HZ.out)).trans HZ.out
    have r0 := cell_later ((Below.refl _ w3).alloc (Nat.le_refl _) (.cells #[.int .i64 (last + 1), .int .i64 to, .slice aU n cU] 42)) p0
    have r1 := cell_later ((Below.refl _ w3).alloc (Nat.le_refl _) (.cells #[.int .i64 (last + 1), .int .i64 to, .slice aU n cU] 42)) p1
    have r2' := cell_later ((Below.refl _ w3).alloc (Nat.le_refl _) (.cells #[.int .i64 (last + 1), .int .i64 to, .slice aU n cU] 42)) p2
    have r3' := cell_later ((Below.refl _ w3).alloc (Nat.le_refl _) (.cells #[.int .i64 (last + 1), .int .i64 to, .slice aU n cU] 42)) p3
    go_wp2_with fail
    refine hK.out _ _ ⟨p1, p2, p3⟩ (fun hHeld => ?_)
    clear hK KK
    try simp only [Act.put, List.setIfInBounds_toArray, List.set_cons_zero, List.set_cons_succ]
    refine wpAnyH_take (i := 14) (oi := ⟨some 32, .build 42 #[(0, .tmp 26), (1, .tmp 28), (2, .tmp 31)], 42, "net.go:24", #[⟨8, .data⟩, ⟨10, .data⟩, ⟨13, .data⟩], none⟩) (v := (.agg #[.int .i64 (last + 1), .int .i64 to, .slice aU n cU])) rfl (by kernel_rfl) (by kernel_rfl) (by kernel_rfl) (fun _ _ _ h => h) (Or.inl ⟨by rfl, fun w' h' => by unfold execOp; go_simp⟩) hHeld ?_
    simp only [Act.put, List.setIfInBounds_toArray, List.set_cons_zero, List.set_cons_succ]
    refine wpAnyH_ready (rs := [15]) (by kernel_rfl) (by simp) ?_
    refine AllReadyH.cons (o := ⟨some 33, .buildSlice 34 1 #[(0, .tmp 32)], 34, "net.go:24", #[⟨14, .data⟩], none⟩) rfl (fun KK hK => ?_) (AllReadyH.nil)
    go_simp
    refine hK.out _ _ ⟨r1, r2', r3'⟩ (fun hHeld => ?_)
    clear hK KK
    try simp only [Act.put, List.setIfInBounds_toArray, List.set_cons_zero, List.set_cons_succ]
    refine wpAnyH_ready (rs := [16]) (by kernel_rfl) (by simp) ?_
    refine AllReadyH.cons (o := ⟨some 34, .call ⟨.builtin .append, #[.tmp 22, .tmp 33], #[34, 34]⟩, 34, "net.go:24", #[⟨4, .data⟩, ⟨15, .data⟩, ⟨13, .chain⟩], none⟩) rfl (fun KK hK => ?_) (AllReadyH.nil)
    refine step_append_lies _ rfl _ _ 34 rfl 0 42 i0 (.agg #[.int .i64 0, .int .i64 0, .slice none 0 0]) 3 40 Try.underlying34 hi hz0 hz1 hz2 rfl (by decide) _ q _ rfl (r3.alloc _) ⟨w3.heap.size, 0, none⟩ 1 1 [.int .i64 (last + 1), .int .i64 to, .slice aU n cU] rfl rfl (World.news_of_block (heap_alloc_new _ _)) (by intro u hu; simp at hu; rcases hu with rfl | rfl | rfl <;> rfl) (by decide) (by unfold maxLen; omega) (by omega) (Nat.zero_le _) _ rfl ?_
    intro gC cC w5 ho5 hg5 hat5 hlt5
    have hT5 := (Turns.alloc _ w3 (.cells #[.int .i64 (last + 1), .int .i64 to, .slice aU n cU] 42)).trans (Turns.grown (F := fun i => (Value.slice av q cv).ownBlock = some i) hg5 (fun b hb => hb)) (fun _ _ h => h)
    have g0 := cell_turns hT5 p0 hxr
    have g1 := cell_turns hT5 p1 hxr
    have g2 := cell_turns hT5 p2 hwr
    have g3 := cell_turns hT5 p3 hwr
    have gz : w5.frozen? ⟨xb, 0, none⟩ = false := frozen_turns hT5 z3 hxr
    refine hK.out _ _ ⟨g1, g2, g3⟩ (fun hHeld => ?_)
    clear hK KK
    try simp only [Act.put, List.setIfInBounds_toArray, List.set_cons_zero, List.set_cons_succ]
    refine wpAnyH_take (i := 17) (oi := ⟨some 35, .nilCheck (.tmp 18), 0, "net.go:24", #[⟨0, .data⟩, ⟨0, .phase⟩, ⟨1, .phase⟩, ⟨2, .phase⟩, ⟨3, .phase⟩, ⟨4, .phase⟩, ⟨5, .phase⟩, ⟨6, .phase⟩, ⟨7, .phase⟩, ⟨8, .phase⟩, ⟨9, .phase⟩, ⟨10, .phase⟩, ⟨11, .phase⟩, ⟨12, .phase⟩, ⟨13, .phase⟩, ⟨14, .phase⟩, ⟨15, .phase⟩, ⟨16, .phase⟩], none⟩) (v := (.pointer (some ⟨xb, 0, none⟩))) rfl (by kernel_rfl) (by kernel_rfl) (by kernel_rfl) (fun _ _ _ h => h) (Or.inl ⟨by rfl, fun _ _ => by rfl⟩) hHeld ?_
    simp only [Act.put, List.setIfInBounds_toArray, List.set_cons_zero, List.set_cons_succ]
    refine wpAnyH_take (i := 18) (oi := ⟨some 36, .fieldAddr 83 (.tmp 35) 0, 0, "net.go:24", #[⟨17, .data⟩, ⟨0, .phase⟩, ⟨1, .phase⟩, ⟨2, .phase⟩, ⟨3, .phase⟩, ⟨4, .phase⟩, ⟨5, .phase⟩, ⟨6, .phase⟩, ⟨7, .phase⟩, ⟨8, .phase⟩, ⟨9, .phase⟩, ⟨10, .phase⟩, ⟨11, .phase⟩, ⟨12, .phase⟩, ⟨13, .phase⟩, ⟨14, .phase⟩, ⟨15, .phase⟩, ⟨16, .phase⟩], none⟩) (v := (.pointer (some ⟨xb, 0, none⟩))) rfl (by kernel_rfl) (by kernel_rfl) (by kernel_rfl) (fun _ _ _ h => h) (Or.inl ⟨by rfl, fun _ _ => by rfl⟩) hHeld ?_
    simp only [Act.put, List.setIfInBounds_toArray, List.set_cons_zero, List.set_cons_succ]
    refine wpAnyH_ready (rs := [19]) (by kernel_rfl) (by simp) ?_
    refine AllReadyH.cons (o := ⟨none, .store 34 (.tmp 36) (.tmp 34), 0, "net.go:24", #[⟨18, .data⟩, ⟨16, .data⟩, ⟨16, .chain⟩, ⟨0, .phase⟩, ⟨1, .phase⟩, ⟨2, .phase⟩, ⟨3, .phase⟩, ⟨4, .phase⟩, ⟨5, .phase⟩, ⟨6, .phase⟩, ⟨7, .phase⟩, ⟨8, .phase⟩, ⟨9, .phase⟩, ⟨10, .phase⟩, ⟨11, .phase⟩, ⟨12, .phase⟩, ⟨13, .phase⟩, ⟨14, .phase⟩, ⟨15, .phase⟩, ⟨16, .phase⟩], none⟩) rfl (fun KK hK => ?_) (AllReadyH.nil)
    have s1 := cell_kept (Turns.cell w5 xb 0 (.slice (some ⟨gC, 0, none⟩) (q + 1) cC)) g2 hxw
    have s2 := cell_kept (Turns.cell w5 xb 0 (.slice (some ⟨gC, 0, none⟩) (q + 1) cC)) g3 hxw
    have s0 : (w5.setCell ⟨xb, 0, none⟩ (.slice (some ⟨gC, 0, none⟩) (q + 1) cC)).cell? ⟨xb, 1, none⟩ = some (.int .i64 (last + 1)) := by simp [World.cell?, heap_setCell_same _ _ _ _ _ (.slice (some ⟨gC, 0, none⟩) (q + 1) cC) ((hT5.block xb (heap_lt z3) hxr).trans z3)]
    go_simp
    refine hK.out _ _ ⟨s0, s1, s2⟩ (fun hHeld => ?_)
    clear hK KK
    try simp only [Act.put, List.setIfInBounds_toArray, List.set_cons_zero, List.set_cons_succ]
    refine wpAnyH_done (by kernel_rfl) ?_ _
    have hF := dsend_end HH.out HQ.out HB1.out HU2.out HE2.out ho1 hn1 z3 b3 hoU hn r3 hT5 ho5 (hat5.imp id (fun e => by rw [e]; simp)) hxr
    have HN : Hid (DnX (w5.setCell ⟨xb, 0, none⟩ (.slice (some ⟨gC, 0, none⟩) (q + 1) cC)) L1 k xb (.slice (some ⟨gC, 0, none⟩) (q + 1) cC) (last + 1) (es ++ [⟨last + 1, to, d, .slice aU n cU⟩])) := hF.1
    have HT := hF.2
    clear hF ho5 hoU hT5 hg5 r3 z3
    go_wp2_with fail
    go_ret
    exact ⟨rfl, _, _, HN.out, HT⟩
  · go_simp
    refine (bytes29_any ao n c d W2.drew hn (hL2.below (below_drewN W2 1) (Nat.le_refl _))).mono ?_
    rintro e w3 ⟨aU, cU, rfl, hoU, b3⟩
    have b3 := Below.from_drew b3
    have p0 := cell_later b3 k0
    have p1 := cell_later b3 k1
    have p2 := cell_later b3 k2
    have p3 := cell_later b3 k3
    have r3 := own_turns HR2.out (Below.turns b3 (fun _ => False)) (fun _ _ q => q)
    have z3 := (b3.block xb (heap_lt HZ.out)).trans HZ.out
    have r0 := cell_later ((Below.refl _ w3).alloc (Nat.le_refl _) (.cells #[.int .i64 (last + 1), .int .i64 to, .slice aU n cU] 42)) p0
    have r1 := cell_later ((Below.refl _ w3).alloc (Nat.le_refl _) (.cells #[.int .i64 (last + 1), .int .i64 to, .slice aU n cU] 42)) p1
    have r2' := cell_later ((Below.refl _ w3).alloc (Nat.le_refl _) (.cells #[.int .i64 (last + 1), .int .i64 to, .slice aU n cU] 42)) p2
    have r3' := cell_later ((Below.refl _ w3).alloc (Nat.le_refl _) (.cells #[.int .i64 (last + 1), .int .i64 to, .slice aU n cU] 42)) p3
    go_wp2_with fail
    refine hK.out _ _ ⟨p1, p2, p3⟩ (fun hHeld => ?_)
    clear hK KK
    try simp only [Act.put, List.setIfInBounds_toArray, List.set_cons_zero, List.set_cons_succ]
    refine wpAnyH_take (i := 14) (oi := ⟨some 32, .build 42 #[(0, .tmp 26), (1, .tmp 28), (2, .tmp 31)], 42, "net.go:24", #[⟨8, .data⟩, ⟨10, .data⟩, ⟨13, .data⟩], none⟩) (v := (.agg #[.int .i64 (last + 1), .int .i64 to, .slice aU n cU])) rfl (by kernel_rfl) (by kernel_rfl) (by kernel_rfl) (fun _ _ _ h => h) (Or.inl ⟨by rfl, fun w' h' => by unfold execOp; go_simp⟩) hHeld ?_
    simp only [Act.put, List.setIfInBounds_toArray, List.set_cons_zero, List.set_cons_succ]
    refine wpAnyH_ready (rs := [4, 15]) (by kernel_rfl) (by simp) ?_
    refine AllReadyH.cons (o := ⟨some 22, .load 34 (.tmp 21), 34, "net.go:24", #[⟨3, .data⟩], none⟩) rfl (fun KK hK => ?_) (AllReadyH.cons (o := ⟨some 33, .buildSlice 34 1 #[(0, .tmp 32)], 34, "net.go:24", #[⟨14, .data⟩], none⟩) rfl (fun KK hK => ?_) (AllReadyH.nil))
    · go_simp
      refine hK.out _ _ ⟨p1, p2, p3⟩ (fun hHeld => ?_)
      clear hK KK
      try simp only [Act.put, List.setIfInBounds_toArray, List.set_cons_zero, List.set_cons_succ]
      refine wpAnyH_ready (rs := [15]) (by kernel_rfl) (by simp) ?_
      refine AllReadyH.cons (o := ⟨some 33, .buildSlice 34 1 #[(0, .tmp 32)], 34, "net.go:24", #[⟨14, .data⟩], none⟩) rfl (fun KK hK => ?_) (AllReadyH.nil)
      go_simp
      refine hK.out _ _ ⟨r1, r2', r3'⟩ (fun hHeld => ?_)
      clear hK KK
      try simp only [Act.put, List.setIfInBounds_toArray, List.set_cons_zero, List.set_cons_succ]
      refine wpAnyH_ready (rs := [16]) (by kernel_rfl) (by simp) ?_
      refine AllReadyH.cons (o := ⟨some 34, .call ⟨.builtin .append, #[.tmp 22, .tmp 33], #[34, 34]⟩, 34, "net.go:24", #[⟨4, .data⟩, ⟨15, .data⟩, ⟨13, .chain⟩], none⟩) rfl (fun KK hK => ?_) (AllReadyH.nil)
      refine step_append_lies _ rfl _ _ 34 rfl 0 42 i0 (.agg #[.int .i64 0, .int .i64 0, .slice none 0 0]) 3 40 Try.underlying34 hi hz0 hz1 hz2 rfl (by decide) _ q _ rfl (r3.alloc _) ⟨w3.heap.size, 0, none⟩ 1 1 [.int .i64 (last + 1), .int .i64 to, .slice aU n cU] rfl rfl (World.news_of_block (heap_alloc_new _ _)) (by intro u hu; simp at hu; rcases hu with rfl | rfl | rfl <;> rfl) (by decide) (by unfold maxLen; omega) (by omega) (Nat.zero_le _) _ rfl ?_
      intro gC cC w5 ho5 hg5 hat5 hlt5
      have hT5 := (Turns.alloc _ w3 (.cells #[.int .i64 (last + 1), .int .i64 to, .slice aU n cU] 42)).trans (Turns.grown (F := fun i => (Value.slice av q cv).ownBlock = some i) hg5 (fun b hb => hb)) (fun _ _ h => h)
      have g0 := cell_turns hT5 p0 hxr
      have g1 := cell_turns hT5 p1 hxr
      have g2 := cell_turns hT5 p2 hwr
      have g3 := cell_turns hT5 p3 hwr
      have gz : w5.frozen? ⟨xb, 0, none⟩ = false := frozen_turns hT5 z3 hxr
      refine hK.out _ _ ⟨g1, g2, g3⟩ (fun hHeld => ?_)
      clear hK KK
      try simp only [Act.put, List.setIfInBounds_toArray, List.set_cons_zero, List.set_cons_succ]
      refine wpAnyH_take (i := 17) (oi := ⟨some 35, .nilCheck (.tmp 18), 0, "net.go:24", #[⟨0, .data⟩, ⟨0, .phase⟩, ⟨1, .phase⟩, ⟨2, .phase⟩, ⟨3, .phase⟩, ⟨4, .phase⟩, ⟨5, .phase⟩, ⟨6, .phase⟩, ⟨7, .phase⟩, ⟨8, .phase⟩, ⟨9, .phase⟩, ⟨10, .phase⟩, ⟨11, .phase⟩, ⟨12, .phase⟩, ⟨13, .phase⟩, ⟨14, .phase⟩, ⟨15, .phase⟩, ⟨16, .phase⟩], none⟩) (v := (.pointer (some ⟨xb, 0, none⟩))) rfl (by kernel_rfl) (by kernel_rfl) (by kernel_rfl) (fun _ _ _ h => h) (Or.inl ⟨by rfl, fun _ _ => by rfl⟩) hHeld ?_
      simp only [Act.put, List.setIfInBounds_toArray, List.set_cons_zero, List.set_cons_succ]
      refine wpAnyH_take (i := 18) (oi := ⟨some 36, .fieldAddr 83 (.tmp 35) 0, 0, "net.go:24", #[⟨17, .data⟩, ⟨0, .phase⟩, ⟨1, .phase⟩, ⟨2, .phase⟩, ⟨3, .phase⟩, ⟨4, .phase⟩, ⟨5, .phase⟩, ⟨6, .phase⟩, ⟨7, .phase⟩, ⟨8, .phase⟩, ⟨9, .phase⟩, ⟨10, .phase⟩, ⟨11, .phase⟩, ⟨12, .phase⟩, ⟨13, .phase⟩, ⟨14, .phase⟩, ⟨15, .phase⟩, ⟨16, .phase⟩], none⟩) (v := (.pointer (some ⟨xb, 0, none⟩))) rfl (by kernel_rfl) (by kernel_rfl) (by kernel_rfl) (fun _ _ _ h => h) (Or.inl ⟨by rfl, fun _ _ => by rfl⟩) hHeld ?_
      simp only [Act.put, List.setIfInBounds_toArray, List.set_cons_zero, List.set_cons_succ]
      refine wpAnyH_ready (rs := [19]) (by kernel_rfl) (by simp) ?_
      refine AllReadyH.cons (o := ⟨none, .store 34 (.tmp 36) (.tmp 34), 0, "net.go:24", #[⟨18, .data⟩, ⟨16, .data⟩, ⟨16, .chain⟩, ⟨0, .phase⟩, ⟨1, .phase⟩, ⟨2, .phase⟩, ⟨3, .phase⟩, ⟨4, .phase⟩, ⟨5, .phase⟩, ⟨6, .phase⟩, ⟨7, .phase⟩, ⟨8, .phase⟩, ⟨9, .phase⟩, ⟨10, .phase⟩, ⟨11, .phase⟩, ⟨12, .phase⟩, ⟨13, .phase⟩, ⟨14, .phase⟩, ⟨15, .phase⟩, ⟨16, .phase⟩], none⟩) rfl (fun KK hK => ?_) (AllReadyH.nil)
      have s1 := cell_kept (Turns.cell w5 xb 0 (.slice (some ⟨gC, 0, none⟩) (q + 1) cC)) g2 hxw
      have s2 := cell_kept (Turns.cell w5 xb 0 (.slice (some ⟨gC, 0, none⟩) (q + 1) cC)) g3 hxw
      have s0 : (w5.setCell ⟨xb, 0, none⟩ (.slice (some ⟨gC, 0, none⟩) (q + 1) cC)).cell? ⟨xb, 1, none⟩ = some (.int .i64 (last + 1)) := by simp [World.cell?, heap_setCell_same _ _ _ _ _ (.slice (some ⟨gC, 0, none⟩) (q + 1) cC) ((hT5.block xb (heap_lt z3) hxr).trans z3)]
      go_simp
      refine hK.out _ _ ⟨s0, s1, s2⟩ (fun hHeld => ?_)
      clear hK KK
      try simp only [Act.put, List.setIfInBounds_toArray, List.set_cons_zero, List.set_cons_succ]
      refine wpAnyH_done (by kernel_rfl) ?_ _
      have hF := dsend_end HH.out HQ.out HB1.out HU2.out HE2.out ho1 hn1 z3 b3 hoU hn r3 hT5 ho5 (hat5.imp id (fun e => by rw [e]; simp)) hxr
      have HN : Hid (DnX (w5.setCell ⟨xb, 0, none⟩ (.slice (some ⟨gC, 0, none⟩) (q + 1) cC)) L1 k xb (.slice (some ⟨gC, 0, none⟩) (q + 1) cC) (last + 1) (es ++ [⟨last + 1, to, d, .slice aU n cU⟩])) := hF.1
      have HT := hF.2
      clear hF ho5 hoU hT5 hg5 r3 z3
      go_wp2_with fail
      go_ret
      exact ⟨rfl, _, _, HN.out, HT⟩
    · go_simp
      refine hK.out _ _ ⟨r1, r2', r3'⟩ (fun hHeld => ?_)
      clear hK KK
      try simp only [Act.put, List.setIfInBounds_toArray, List.set_cons_zero, List.set_cons_succ]
      refine wpAnyH_ready (rs := [4]) (by kernel_rfl) (by simp) ?_
      refine AllReadyH.cons (o := ⟨some 22, .load 34 (.tmp 21), 34, "net.go:24", #[⟨3, .data⟩], none⟩) rfl (fun KK hK => ?_) (AllReadyH.nil)
      go_simp
      refine hK.out _ _ ⟨r1, r2', r3'⟩ (fun hHeld => ?_)
      clear hK KK
      try simp only [Act.put, List.setIfInBounds_toArray, List.set_cons_zero, List.set_cons_succ]
      refine wpAnyH_ready (rs := [16]) (by kernel_rfl) (by simp) ?_
      refine AllReadyH.cons (o := ⟨some 34, .call ⟨.builtin .append, #[.tmp 22, .tmp 33], #[34, 34]⟩, 34, "net.go:24", #[⟨4, .data⟩, ⟨15, .data⟩, ⟨13, .chain⟩], none⟩) rfl (fun KK hK => ?_) (AllReadyH.nil)
      refine step_append_lies _ rfl _ _ 34 rfl 0 42 i0 (.agg #[.int .i64 0, .int .i64 0, .slice none 0 0]) 3 40 Try.underlying34 hi hz0 hz1 hz2 rfl (by decide) _ q _ rfl (r3.alloc _) ⟨w3.heap.size, 0, none⟩ 1 1 [.int .i64 (last + 1), .int .i64 to, .slice aU n cU] rfl rfl (World.news_of_block (heap_alloc_new _ _)) (by intro u hu; simp at hu; rcases hu with rfl | rfl | rfl <;> rfl) (by decide) (by unfold maxLen; omega) (by omega) (Nat.zero_le _) _ rfl ?_
      intro gC cC w5 ho5 hg5 hat5 hlt5
      have hT5 := (Turns.alloc _ w3 (.cells #[.int .i64 (last + 1), .int .i64 to, .slice aU n cU] 42)).trans (Turns.grown (F := fun i => (Value.slice av q cv).ownBlock = some i) hg5 (fun b hb => hb)) (fun _ _ h => h)
      have g0 := cell_turns hT5 p0 hxr
      have g1 := cell_turns hT5 p1 hxr
      have g2 := cell_turns hT5 p2 hwr
      have g3 := cell_turns hT5 p3 hwr
      have gz : w5.frozen? ⟨xb, 0, none⟩ = false := frozen_turns hT5 z3 hxr
      refine hK.out _ _ ⟨g1, g2, g3⟩ (fun hHeld => ?_)
      clear hK KK
      try simp only [Act.put, List.setIfInBounds_toArray, List.set_cons_zero, List.set_cons_succ]
      refine wpAnyH_take (i := 17) (oi := ⟨some 35, .nilCheck (.tmp 18), 0, "net.go:24", #[⟨0, .data⟩, ⟨0, .phase⟩, ⟨1, .phase⟩, ⟨2, .phase⟩, ⟨3, .phase⟩, ⟨4, .phase⟩, ⟨5, .phase⟩, ⟨6, .phase⟩, ⟨7, .phase⟩, ⟨8, .phase⟩, ⟨9, .phase⟩, ⟨10, .phase⟩, ⟨11, .phase⟩, ⟨12, .phase⟩, ⟨13, .phase⟩, ⟨14, .phase⟩, ⟨15, .phase⟩, ⟨16, .phase⟩], none⟩) (v := (.pointer (some ⟨xb, 0, none⟩))) rfl (by kernel_rfl) (by kernel_rfl) (by kernel_rfl) (fun _ _ _ h => h) (Or.inl ⟨by rfl, fun _ _ => by rfl⟩) hHeld ?_
      simp only [Act.put, List.setIfInBounds_toArray, List.set_cons_zero, List.set_cons_succ]
      refine wpAnyH_take (i := 18) (oi := ⟨some 36, .fieldAddr 83 (.tmp 35) 0, 0, "net.go:24", #[⟨17, .data⟩, ⟨0, .phase⟩, ⟨1, .phase⟩, ⟨2, .phase⟩, ⟨3, .phase⟩, ⟨4, .phase⟩, ⟨5, .phase⟩, ⟨6, .phase⟩, ⟨7, .phase⟩, ⟨8, .phase⟩, ⟨9, .phase⟩, ⟨10, .phase⟩, ⟨11, .phase⟩, ⟨12, .phase⟩, ⟨13, .phase⟩, ⟨14, .phase⟩, ⟨15, .phase⟩, ⟨16, .phase⟩], none⟩) (v := (.pointer (some ⟨xb, 0, none⟩))) rfl (by kernel_rfl) (by kernel_rfl) (by kernel_rfl) (fun _ _ _ h => h) (Or.inl ⟨by rfl, fun _ _ => by rfl⟩) hHeld ?_
      simp only [Act.put, List.setIfInBounds_toArray, List.set_cons_zero, List.set_cons_succ]
      refine wpAnyH_ready (rs := [19]) (by kernel_rfl) (by simp) ?_
      refine AllReadyH.cons (o := ⟨none, .store 34 (.tmp 36) (.tmp 34), 0, "net.go:24", #[⟨18, .data⟩, ⟨16, .data⟩, ⟨16, .chain⟩, ⟨0, .phase⟩, ⟨1, .phase⟩, ⟨2, .phase⟩, ⟨3, .phase⟩, ⟨4, .phase⟩, ⟨5, .phase⟩, ⟨6, .phase⟩, ⟨7, .phase⟩, ⟨8, .phase⟩, ⟨9, .phase⟩, ⟨10, .phase⟩, ⟨11, .phase⟩, ⟨12, .phase⟩, ⟨13, .phase⟩, ⟨14, .phase⟩, ⟨15, .phase⟩, ⟨16, .phase⟩], none⟩) rfl (fun KK hK => ?_) (AllReadyH.nil)
      have s1 := cell_kept (Turns.cell w5 xb 0 (.slice (some ⟨gC, 0, none⟩) (q + 1) cC)) g2 hxw
      have s2 := cell_kept (Turns.cell w5 xb 0 (.slice (some ⟨gC, 0, none⟩) (q + 1) cC)) g3 hxw
      have s0 : (w5.setCell ⟨xb, 0, none⟩ (.slice (some ⟨gC, 0, none⟩) (q + 1) cC)).cell? ⟨xb, 1, none⟩ = some (.int .i64 (last + 1)) := by simp [World.cell?, heap_setCell_same _ _ _ _ _ (.slice (some ⟨gC, 0, none⟩) (q + 1) cC) ((hT5.block xb (heap_lt z3) hxr).trans z3)]
      go_simp
      refine hK.out _ _ ⟨s0, s1, s2⟩ (fun hHeld => ?_)
      clear hK KK
      try simp only [Act.put, List.setIfInBounds_toArray, List.set_cons_zero, List.set_cons_succ]
      refine wpAnyH_done (by kernel_rfl) ?_ _
      have hF := dsend_end HH.out HQ.out HB1.out HU2.out HE2.out ho1 hn1 z3 b3 hoU hn r3 hT5 ho5 (hat5.imp id (fun e => by rw [e]; simp)) hxr
      have HN : Hid (DnX (w5.setCell ⟨xb, 0, none⟩ (.slice (some ⟨gC, 0, none⟩) (q + 1) cC)) L1 k xb (.slice (some ⟨gC, 0, none⟩) (q + 1) cC) (last + 1) (es ++ [⟨last + 1, to, d, .slice aU n cU⟩])) := hF.1
      have HT := hF.2
      clear hF ho5 hoU hT5 hg5 r3 z3
      go_wp2_with fail
      go_ret
      exact ⟨rfl, _, _, HN.out, HT⟩
/-- Send. -/
theorem dsendN (h : Dn w lab k xb S) (hlast : S.last < 4611686018427387904) (to : Int) (ao : Option Addr) (n c : Nat) (d : List Int) (hL : Lies w ao n c d) (hn : n ≤ 140737488355328) :
    Calls Try.prog 24 #[.pointer (some ⟨xb, 0, none⟩), .agg #[.int .i64 to, .slice ao n c]] w fun e w' => e = .returned (.int .i64 (sendA S)) ∧ Dn w' (rl lab w k) k xb (sendS S to d) ∧ Turns (fun i => lab i = k) w w' := by
  obtain ⟨v, es, h, hl, ok⟩ := h
  have hlen : es.length = S.l.length := by rw [← hl]; simp
  by_cases hf : es.length < 4096
  · have hF : ¬ fullS S = true := by unfold fullS; simp; omega
    refine (dsend_ok h hf ok.l0 hlast to ao n c d hL hn).mono ?_
    rintro e w' ⟨rfl, v', u, h', t⟩
    refine ⟨by unfold sendA; rw [if_neg hF], ⟨v', es ++ [⟨S.last + 1, to, d, u⟩], ?_, ?_, ok.send to d hlast⟩, t⟩
    · unfold sendS; rw [if_neg hF]; exact h'
    · unfold sendS; rw [if_neg hF]; simp [hl]
  · have hF : fullS S = true := by unfold fullS; simp; omega
    refine (dsend_full h (by omega) (by have := ok.few; omega) to _).mono ?_
    rintro e w' ⟨rfl, b⟩
    refine ⟨by unfold sendA; rw [if_pos hF], ?_, Below.turns b _⟩
    unfold sendS; rw [if_pos hF]
    exact Dn.below ⟨v, es, h, hl, ok⟩ b k
end Go.Proofs.Ytpbanjgjljdepaa
