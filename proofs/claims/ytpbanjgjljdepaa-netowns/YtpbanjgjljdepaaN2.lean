/- New, copied, Send, by their contracts. -/
import Derived.Test.YtpbanjgjljdepaaN1
import Derived.Deep.OwnRows
import Derived.Deep.RegionHeld3
namespace Go.Proofs.Ytpbanjgjljdepaa
open Go.RowKit Go.Maps
set_option maxRecDepth 100000
variable {w w' : World} {lab lab' : Nat → Nat} {k j xb bm : Nat} {last : Int} {es : List En} {F : Nat → Prop}

theorem made_row (w : World) (n : Nat) : (w.alloc (.cells (madeCells #[.int .u8 0] n) 5)).heap[w.heap.size]? = some (.cells (List.replicate n (Value.int .u8 0)).toArray 5 (0, 0)) := by
  have e : madeCells #[Value.int .u8 0] n = (List.replicate n (Value.int .u8 0)).toArray := by
    rw [← toList_madeCells_one]
  rw [e]
  exact (MapKept.heap_alloc w _).1
theorem splice_whole {α : Type} (L cs : List α) (h : cs.length = L.length) : splice L 0 cs = cs := by
  simp [splice, h]

set_option maxHeartbeats 1000000 in
theorem copied_any (ao : Option Addr) (n c : Nat) (bs : List Int) (w : World) (hn : n ≤ 140737488355328) (hL : Lies w ao n c bs) :
    Calls Try.prog 31 #[.slice ao n c] w fun e w' => ∃ g, e = .returned (.slice (some ⟨g, 0, none⟩) n n) ∧ w.heap.size ≤ g ∧ w'.heap[g]? = some (bl bs) ∧ Below w.heap.size w w' := by
  obtain ⟨i0, hi, hz0, hz1, hz2⟩ := info_parts Try.info5
  have hni : (n : Int) ≤ 140737488355328 := by omega
  have hlen := hL.hlen
  have hsz : (Try.prog.info? 5).map (·.size) = some 1 := by rw [hi]; simp [hz1]
  have hL1 : Lies (w.alloc (.cells (madeCells #[.int .u8 0] n) 5)) ao n c bs := hL.below ((Below.refl _ w).alloc (Nat.le_refl _) _) (Nat.le_refl _)
  have hpos : 0 < (bs.map (Value.int .u8)).length → (some ⟨w.heap.size, 0, none⟩ : Option Addr) = some ⟨w.heap.size, 0, none⟩ ∧ ∃ ad, ao = some ad ∧ ∀ j v, (bs.map (Value.int .u8))[j]? = some v → (w.alloc (.cells (madeCells #[.int .u8 0] n) 5)).cell? (ad.add j) = some v := fun hp => by
    cases hao : ao with
    | none => have := (hL.hnone hao).1; simp at hp; omega
    | some ad => exact ⟨rfl, ad, rfl, hL1.hcells ad hao⟩
  have hrow := made_row w n
  have hbel : Below w.heap.size w (w.alloc (.cells (madeCells #[.int .u8 0] n) 5)) := (Below.refl _ w).alloc (Nat.le_refl _) _
  go_enter Try.func31, Try.ntmps31
  go_wp2_with (first
    | (at_make; (refine wpList_make_row _ rfl _ _ 22 rfl 5 i0 (.int .u8 0) Try.underlying22 hi hz0 hz1 rfl _ _ n rfl rfl (by rw [hz2]; omega) (by omega) ?_))
    | (refine wpList_copy_splice rfl _ _ 22 22 rfl 5 Try.underlying22 hsz _ _ _ _ _ _ rfl rfl w.heap.size 0 (List.replicate n (Value.int .u8 0)) 5 hrow (bs.map (Value.int .u8)) (by simp [hlen]) hpos (by simp [hlen]) (ints_oneCell _ _) w.heap.size w hbel (Nat.le_refl _) ?_; intro w2 HG2 hB2))
  go_ret
  refine ⟨_, rfl, Nat.le_refl _, ?_, hB2⟩
  rw [HG2.out, splice_whole _ _ (by simp [hlen])]
theorem own_bl {g : Nat} {d : List Int} (h : w.heap[g]? = some (bl d)) (hl : d.length ≤ 140737488355328) : w.ownsRow 0 5 1 (.slice (some ⟨g, 0, none⟩) d.length d.length) d.length (d.map (Value.int .u8)) :=
  ⟨by simp, Or.inr ⟨g, d.length, _, rfl, Nat.zero_le _, h, Nat.le_refl _, by unfold maxLen; omega, by simp, by simp [List.take_of_length_le]⟩⟩
/-- Nothing in it. -/
def S0 : St := ⟨0, []⟩
theorem S0.ok : S0.Ok := ⟨List.Pairwise.nil, (fun _ h => by cases h), by simp [S0], by simp [S0], by simp [S0]⟩
set_option maxHeartbeats 1000000 in
theorem new_any (w : World) (lab : Nat → Nat) (k : Nat) :
    Calls Try.prog 10 #[] w fun e w' => ∃ xb, e = .returned (.pointer (some ⟨xb, 0, none⟩)) ∧ Nt w' (rl lab w k) k xb S0 ∧ Below w.heap.size w w' := by
  have hmk := run_makeMap (P := Try.prog) 74 w
  go_enter Try.func10, Try.ntmps10
  go_wp2_with fail
  go_ret
  have hb : Below w.heap.size w ((w.alloc (.map #[] 0)).alloc (.cells #[.map (some w.heap.size), .int .i64 0] 76)) := ((Below.refl _ w).alloc (Nat.le_refl _) _).alloc (by simp) _
  refine ⟨w.heap.size + 1, rfl, ⟨w.heap.size, [], ⟨?_, ⟨(World.ownsMap_made w _ _ _).alloc _, List.Pairwise.nil⟩, Ens.nil _ _ _, rl_new (by omega), rl_new (by omega)⟩, rfl, S0.ok⟩, hb⟩
  have := heap_alloc_new (w.alloc (.map #[] 0)) (.cells #[.map (some w.heap.size), .int .i64 0] 76)
  rw [show (w.alloc (.map #[] 0)).heap.size = w.heap.size + 1 by simp] at this
  exact this
theorem Mv.put {mb n : Nat} {m : List (Int × Value)} (h : Mv w mb n m) (b : Int) (g : Value) {n' : Nat} (ho : w'.ownsMap Try.prog 3 RV mb n' ((vD m).put (.int .i64 b) (.held g))) : Mv w' mb (vput m b g).length (vput m b g) := by
  have e := vD_put h.ris b g (ho.canon lawI)
  rw [e] at ho
  exact Mv.tight ⟨ho, vput_ris b g h.ris⟩
theorem Mv.del {mb n : Nat} {m : List (Int × Value)} (h : Mv w mb n m) (b : Int) {n' : Nat} (ho : w'.ownsMap Try.prog 3 RV mb n' ((vD m).del (.int .i64 b))) : Mv w' mb (vcut m b).length (vcut m b) := by
  have e := vD_del h.ris b (ho.canon lawI)
  rw [e] at ho
  exact Mv.tight ⟨ho, vcut_ris b h.ris⟩
theorem Mv.ne_cells {mb n b T : Nat} {m : List (Int × Value)} {cs : Array Value} {f : Nat × Nat} (h : Mv w mb n m) (hb : w.heap[b]? = some (.cells cs T f)) : b ≠ mb := fun q => by
  obtain ⟨es, clock, hb2, _⟩ := h.own
  rw [← q, hb] at hb2; cases hb2
theorem Da.ne_cells {d : List Int} {v : Value} (h : Da w lab k d v) {b T : Nat} {cs : Array Value} {f : Nat × Nat} (hb : w.heap[b]? = some (.cells cs T f)) (hT : 5 ≠ T) : v.ownBlock ≠ some b := own_typ h.own hb hT
theorem Da.ne_map {d : List Int} {v : Value} (h : Da w lab k d v) {b n : Nat} {m : List (Int × Value)} (hb : Mv w b n m) : v.ownBlock ≠ some b := fun q => by
  obtain ⟨es, clock, hb, _⟩ := hb.own
  rcases h.own.2 with ⟨r, _⟩ | ⟨g, cap, cur, r, hg, hh, _⟩
  · rw [r] at q; cases q
  · rw [r] at q; cases q; rw [hh] at hb; cases hb
theorem NtX.c0 (h : NtX w lab k xb bm last es) : w.cell? ⟨xb, 0, none⟩ = some (.map (some bm)) := by simp [World.cell?, h.box]
theorem NtX.c1 (h : NtX w lab k xb bm last es) : w.cell? ⟨xb, 1, none⟩ = some (.int .i64 last) := by simp [World.cell?, h.box]
theorem NtX.fz (h : NtX w lab k xb bm last es) (i : Nat) : w.frozen? ⟨xb, i, none⟩ = false := by simp [World.frozen?, h.box]
theorem NtX.below (h : NtX w lab k xb bm last es) (b : Below w.heap.size w w') (hl : ∀ i, i < w.heap.size → lab i = k → lab' i = k) : NtX w' lab' k xb bm last es :=
  h.turns (Below.turns b (fun _ => False)) (fun _ _ _ q => q) hl
theorem NtX.msz (_h : NtX w lab k xb bm last es) : Maps.size (vD (es.map fun e => (e.no, pkV e))) = es.length := by simp [vD, Maps.size_eq]
/-- The box and the map have changed. -/
theorem NtX.remap (h : NtX w lab k xb bm last es) {last' : Int} {fs : List En} (hb : w'.heap[xb]? = some (.cells #[.map (some bm), .int .i64 last'] 76 (0, 0))) (hm : Mv w' bm fs.length (fs.map fun e => (e.no, pkV e))) (he : Ens w' lab' k fs) (hl : ∀ i, i < w.heap.size → lab i = k → lab' i = k) : NtX w' lab' k xb bm last' fs :=
  ⟨hb, hm, he, hl _ (heap_lt h.box) h.lx, hl _ h.map.lt h.lm⟩
theorem NtX.reEns (h : NtX w lab k xb bm last es) (t : Turns (fun i => i = xb ∨ i = bm) w w') (hl : ∀ i, i < w.heap.size → lab i = k → lab' i = k) : Ens w' lab' k es :=
  ⟨fun e he => ⟨own_turns (h.en.da e he).own t (fun b hb q => by
      rcases q with q | q
      · subst q; exact (h.en.da e he).ne_cells h.box (by decide) hb
      · subst q; exact (h.en.da e he).ne_map h.map hb), fun b hb => hl b (own_lt (h.en.da e he).own hb) ((h.en.da e he).lb b hb), (h.en.da e he).len⟩, h.en.sep⟩
/-- What is read as bytes lies in no block without bytes. -/
theorem Lies.off {ao : Option Addr} {n c : Nat} {bs : List Int} (h : Lies w ao n c bs) {cs : Array Value} {T : TypeId} {f : Nat × Nat} (hb : w.heap[xb]? = some (.cells cs T f)) (hc : ∀ v ∈ cs.toList, ∀ u, v ≠ .int .u8 u) (t : Turns (fun i => i = xb) w w') : Lies w' ao n c bs :=
  ⟨h.hlen, h.hle, h.hnone, fun ad had i u hu => by
    have hcl := h.hcells ad had i u hu
    have hne : (ad.add i).block ≠ xb := fun q => by
      obtain ⟨x, _, rfl⟩ := List.mem_map.1 (List.mem_of_getElem? hu)
      simp only [World.cell?, q, hb] at hcl
      split at hcl
      · cases hcl
      · exact hc _ (by rw [Array.mem_toList_iff]; exact Array.mem_of_getElem? hcl) x rfl
    exact (World.cell?_of_block (t.block _ (World.block_lt_of_cell? w _ hcl) hne)).trans hcl⟩
theorem cell_kept {b o i : Nat} {v : Value} (t : Turns (fun i => i = b) w w') (h : w.cell? ⟨i, o, none⟩ = some v) (hne : i ≠ b) : w'.cell? ⟨i, o, none⟩ = some v :=
  (World.cell?_of_block (a := ⟨i, o, none⟩) (t.block i (World.block_lt_of_cell? w _ h) hne)).trans h
set_option maxHeartbeats 2000000 in
theorem send_ok (h : NtX w lab k xb bm last es) (hf : es.length < 4096) (hl0 : 0 ≤ last) (hlast : last < 4611686018427387904) (hnos : ∀ e ∈ es, e.no ≤ last) (to : Int) (ao : Option Addr) (n c : Nat) (d : List Int) (hL : Lies w ao n c d) (hn : n ≤ 140737488355328) :
    Calls Try.prog 11 #[.pointer (some ⟨xb, 0, none⟩), .agg #[.int .i64 to, .slice ao n c]] w fun e w' => e = .returned (.int .i64 (last + 1)) ∧ ∃ v, NtX w' (rl lab w k) k xb bm (last + 1) (es ++ [⟨(last + 1), to, d, v⟩]) ∧ Turns (fun i => lab i = k) w w' := by
  obtain ⟨W1, hW1⟩ : ∃ W, w.alloc (.cells #[.int .i64 to, .slice ao n c] 28) = W := ⟨_, rfl⟩
  have z1 : W1.heap[w.heap.size]? = some (.cells #[.int .i64 to, .slice ao n c] 28) := by rw [← hW1]; exact heap_alloc_new w _
  have b1 : Below w.heap.size w W1 := by rw [← hW1]; exact (Below.refl _ w).alloc (Nat.le_refl _) _
  obtain ⟨L1, hL1⟩ : ∃ L, rl lab w k = L := ⟨_, rfl⟩
  have ho1 : ∀ i, i < w.heap.size → L1 i = lab i := fun i hi => by rw [← hL1]; exact rl_old hi
  have hn1 : ∀ i, w.heap.size ≤ i → L1 i = k := fun i hi => by rw [← hL1]; exact rl_new hi
  have h1 := h.below b1 (lab' := L1) (fun i hi q => (ho1 i hi).trans q)
  have c0 := h1.c0
  have c1 := h1.c1
  have fz := h1.fz
  have hown := h1.map.own
  have hsz := h1.msz
  have hln : (Maps.size (vD (es.map fun e => (e.no, pkV e))) : Int) = (es.length : Int) := by rw [hsz]
  have hw : IntKind.i64.wrap (last + 1) = (last + 1) := by rw [IntKind.wrap_i64]; omega
  obtain ⟨W2, hW2⟩ : ∃ W, W1.setCell ⟨xb, 1, none⟩ (.int .i64 (last + 1)) = W := ⟨_, rfl⟩
  have u2 : Turns (fun i => i = xb) W1 W2 := by rw [← hW2]; exact Turns.cell W1 xb 1 _
  have z2 : W2.heap[xb]? = some (.cells #[.map (some bm), .int .i64 (last + 1)] 76 (0, 0)) := by rw [← hW2]; exact heap_setCell_same _ _ _ _ _ _ h1.box
  have hxw : w.heap.size ≠ xb := fun q => by have := heap_lt h.box; omega
  have y2 : W2.heap[w.heap.size]? = some (.cells #[.int .i64 to, .slice ao n c] 28) := (u2.block _ (heap_lt z1) hxw).trans z1
  have m2 := h1.map.turns u2 (fun q => h1.map.ne_cells h1.box q.symm)
  have hL2 : Lies W2 ao n c d := (hL.below b1 (Nat.le_refl _)).off h1.box (by intro v hv u; simp at hv; rcases hv with rfl | rfl <;> simp) u2
  have k0 : W2.cell? ⟨xb, 0, none⟩ = some (.map (some bm)) := by simp [World.cell?, z2]
  have k1 : W2.cell? ⟨xb, 1, none⟩ = some (.int .i64 (last + 1)) := by simp [World.cell?, z2]
  have k2 : W2.cell? ⟨w.heap.size, 0, none⟩ = some (.int .i64 to) := by simp [World.cell?, y2]
  have k3 : W2.cell? ⟨w.heap.size, 1, none⟩ = some (.slice ao n c) := by simp [World.cell?, y2]
  have hxm : xb ≠ bm := m2.ne_cells z2
  have hwm : w.heap.size ≠ bm := m2.ne_cells y2
  rw [hL1]
  go_enter Try.func11, Try.ntmps11
  go_wp2_with (at_len; refine wpList_len_own _ rfl _ 74 rfl 3 28 Try.underlying74 _ bm _ _ rfl hown ?_)
  go_region_held3 (fun w' => w'.cell? ⟨xb, 0, none⟩ = some (.map (some bm)) ∧ w'.cell? ⟨xb, 1, none⟩ = some (.int .i64 (last + 1)) ∧ w'.cell? ⟨w.heap.size, 0, none⟩ = some (.int .i64 to) ∧ w'.cell? ⟨w.heap.size, 1, none⟩ = some (.slice ao n c))
    (first | exact ⟨k0, k1, k2, k3⟩ | exact ⟨p0, p1, p2, p3⟩ | exact ⟨q0, q1, q2, q3⟩)
    (first
      | (go_at_call 31; refine (copied_any ao n c d _ hn (hL2.below (below_drewN W2 1) (Nat.le_refl _))).mono ?_; rintro e w3 ⟨g, rfl, hg3, hb3, b3⟩; have p0 := cell_later b3 k0; have p1 := cell_later b3 k1; have p2 := cell_later b3 k2; have p3 := cell_later b3 k3; obtain ⟨w4, hrun4, hm4, ht4⟩ := (m2.turns (Below.turns ((below_drewN W2 1).trans b3) (fun _ => False)) (fun q => q)).own.store lawI Try.underlying74 (by unfold maxLen; omega) (vkey_mk (b := (last + 1)) ⟨by omega, by omega⟩) (val := .agg #[.int .i64 to, .slice (some ⟨g, 0, none⟩) n n]) rfl; have u4 : Turns (fun i => i = bm) w3 w4 := Turns.grown ht4.grown (fun b hb => (Option.some.inj hb).symm); have q0 := cell_kept u4 p0 hxm; have q1 := cell_kept u4 p1 hxm; have q2 := cell_kept u4 p2 hwm; have q3 := cell_kept u4 p3 hwm))
  have U : Turns (fun i => i = xb ∨ i = bm) w w4 := (((Below.turns b1 (fun i => i = xb ∨ i = bm)).trans u2 (fun _ _ q => Or.inl q)).trans (Below.turns ((below_drewN W2 1).trans b3) (fun i => i = xb ∨ i = bm)) (fun _ _ q => q)).trans u4 (fun _ _ q => Or.inr q)
  have hg3' : w.heap.size ≤ g := Nat.le_trans b1.size (Nat.le_trans u2.size hg3)
  have hlen : d.length = n := hL.hlen
  have hz4 : w4.heap[xb]? = some (.cells #[.map (some bm), .int .i64 (last + 1)] 76 (0, 0)) := (u4.block xb (Nat.lt_of_lt_of_le (heap_lt z2) b3.size) hxm).trans ((b3.block xb (heap_lt z2)).trans z2)
  have hm4' := (m2.turns (Below.turns ((below_drewN W2 1).trans b3) (fun _ => False)) (fun q => q)).put (last + 1) (.agg #[.int .i64 to, .slice (some ⟨g, 0, none⟩) n n]) hm4
  rw [vput_end _ _ _ (fun p hp => by
    obtain ⟨e, he, rfl⟩ := List.mem_map.1 hp
    have := hnos e he
    simp only; omega)] at hm4'
  have hgb : g ≠ bm := fun q => by have := m2.lt; have : W2.heap.size ≤ g := hg3; omega
  have hb4 : w4.heap[g]? = some (bl d) := (u4.block g (heap_lt hb3) hgb).trans hb3
  have hlq : ∀ i, i < w.heap.size → lab i = k → L1 i = k := fun i hi q => (ho1 i hi).trans q
  have HE : Ens w4 L1 k (es ++ [⟨last + 1, to, d, .slice (some ⟨g, 0, none⟩) n n⟩]) := by
    refine (h.reEns U hlq).snoc ⟨by subst hlen; exact own_bl hb4 hn, fun b q => ?_, (by show d.length ≤ _; omega)⟩ (fun b q x hx r => ?_)
    · cases q; exact hn1 _ hg3'
    · cases q; have h3 : g < w.heap.size := (h.en.da x hx).lt _ r; omega
  have HN : NtX w4 L1 k xb bm (last + 1) (es ++ [⟨last + 1, to, d, .slice (some ⟨g, 0, none⟩) n n⟩]) := h.remap hz4 (by simpa using hm4') HE hlq
  have HU : Hid (Turns (fun i => lab i = k) w w4) := U.mono (fun i _ q => by
    rcases q with q | q
    · rw [q]; exact h.lx
    · rw [q]; exact h.lm)
  have HH : Hid (NtX w4 L1 k xb bm (last + 1) (es ++ [⟨last + 1, to, d, .slice (some ⟨g, 0, none⟩) n n⟩])) := HN
  clear HN HE hm4' hm4 U u4 ht4 hrun4
  go_wp2_with fail
  go_ret
  exact ⟨rfl, _, HH.out, HU.out⟩
theorem Lies.da {d : List Int} {v : Value} (h : Da w lab k d v) : ∃ ao c, v = .slice ao d.length c ∧ Lies w ao d.length c d := by
  obtain ⟨ao, c, rfl⟩ := h.slice
  exact ⟨ao, c, rfl, Lies.owned h.own⟩
theorem send_full (h : NtX w lab k xb bm last es) (hf : 4096 ≤ es.length) (hf2 : es.length ≤ 4096) (to : Int) (v : Value) :
    Calls Try.prog 11 #[.pointer (some ⟨xb, 0, none⟩), .agg #[.int .i64 to, v]] w fun e w' => e = .returned (.int .i64 0) ∧ Below w.heap.size w w' := by
  obtain ⟨W1, hW1⟩ : ∃ W, w.alloc (.cells #[.int .i64 to, v] 28) = W := ⟨_, rfl⟩
  have b1 : Below w.heap.size w W1 := by rw [← hW1]; exact (Below.refl _ w).alloc (Nat.le_refl _) _
  have h1 := h.below b1 (lab' := lab) (fun i hi q => q)
  have c0 := h1.c0
  have hown := h1.map.own
  have hsz := h1.msz
  have hln : (Maps.size (vD (es.map fun e => (e.no, pkV e))) : Int) = (es.length : Int) := by rw [hsz]
  clear h h1
  go_enter Try.func11, Try.ntmps11
  go_wp2_with (at_len; refine wpList_len_own _ rfl _ 74 rfl 3 28 Try.underlying74 _ bm _ _ rfl hown ?_)
  go_ret
  exact ⟨rfl, b1⟩
end Go.Proofs.Ytpbanjgjljdepaa
