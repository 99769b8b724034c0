/- Take, Drop, Copy, Flip, by their contracts. -/
import Derived.Test.YtpbanjgjljdepaaN2
namespace Go.Proofs.Ytpbanjgjljdepaa
open Go.RowKit Go.Maps
set_option maxRecDepth 100000
variable {w w' : World} {lab lab' : Nat → Nat} {k j xb bm : Nat} {last : Int} {es : List En} {F : Nat → Prop}

theorem zero_PK (w : World) : (zeroValue 28).run Try.prog w = .ok (.agg #[.int .i64 0, .slice none 0 0]) w := by kernel_rfl
abbrev pk0 : Value := .agg #[.int .i64 0, .slice none 0 0]
theorem Mv.look2 {bm n : Nat} {m : List (Int × Value)} (h : Mv w bm n m) {b : Int} (hb : KeyI b) : (Instr.lookup 74 (.map (some bm)) (.int .i64 b) true).run Try.prog w = .ok (.tuple #[(vlk m b).getD pk0, .bool (vlk m b).isSome]) w := by
  obtain ⟨v, ps, hrun, hv'⟩ := h.own.look_ok lawI Try.underlying74 (zero_PK w) (zd := .held pk0) (zp := []) rfl (vkey_mk hb)
  rw [hrun, vD_has_int]
  rw [vD_at] at hv'
  cases e : vlk m b with
  | none => rw [e] at hv'; simp [RV] at hv'; rw [hv'.1]; rfl
  | some g => rw [e] at hv'; simp [RV] at hv'; rw [hv'.1]; rfl
/-- The flight of a number. -/
def fnd (es : List En) (no : Int) : Option En := es.find? fun e => e.no == no
def les (es : List En) (no : Int) : List En := es.filter fun e => e.no != no
theorem vlk_fnd (no : Int) : ∀ es : List En, vlk (es.map fun e => (e.no, pkV e)) no = (fnd es no).map pkV
  | [] => rfl
  | e :: es => by
    rw [List.map_cons, vlk_cons, vlk_fnd no es]
    by_cases q : e.no = no
    · rw [if_pos q]; simp [fnd, q]
    · rw [if_neg q]; simp [fnd, q]
theorem vcut_les (no : Int) (es : List En) : vcut (es.map fun e => (e.no, pkV e)) no = (les es no).map fun e => (e.no, pkV e) := by
  unfold vcut les; rw [List.filter_map]; rfl
theorem find_fnd (last : Int) (no : Int) (es : List En) : findS ⟨last, es.map En.fl⟩ no = (fnd es no).map En.fl := by
  unfold findS fnd; rw [List.find?_map]; rfl
theorem take_les (last : Int) (no : Int) (es : List En) : (takeS ⟨last, es.map En.fl⟩ no).l = (les es no).map En.fl := by
  unfold takeS les; rw [List.filter_map]; rfl
theorem fnd_mem {no : Int} {e : En} (h : fnd es no = some e) : e ∈ es ∧ e.no = no := ⟨List.mem_of_find?_eq_some h, by have := List.find?_some h; simpa using this⟩
theorem les_none {no : Int} (h : fnd es no = none) : les es no = es := List.filter_eq_self.2 fun e he => by
  have := List.find?_eq_none.1 h e he; simpa using this
theorem les_sub (es : List En) (no : Int) : List.Sublist (les es no) es := List.filter_sublist
/-- What is taken out is j's. -/
def tl (lab : Nat → Nat) (w : World) (k j : Nat) (v : Value) (i : Nat) : Nat := if v.ownBlock = some i then j else rl lab w k i
theorem tl_at {v : Value} {i : Nat} (h : v.ownBlock = some i) : tl lab w k j v i = j := if_pos h
theorem tl_off {v : Value} {i : Nat} (h : v.ownBlock ≠ some i) : tl lab w k j v i = rl lab w k i := if_neg h
theorem tl_nil : tl lab w k j (.slice none 0 0) = rl lab w k := by funext i; exact tl_off (fun q => by cases q)
theorem Ens.sep_at {es : List En} (h : es.Pairwise Apt) {e x : En} (he : e ∈ es) (hx : x ∈ es) (hne : e.no ≠ x.no) : Apt e x := by
  induction es with
  | nil => cases he
  | cons y l ih =>
    obtain ⟨h1, h2⟩ := List.pairwise_cons.1 h
    rcases List.mem_cons.1 he with q | q <;> rcases List.mem_cons.1 hx with r | r
    · exact absurd (by rw [q, r]) hne
    · rw [q]; exact h1 x r
    · rw [r]; exact fun g ga gb => h1 e q g gb ga
    · exact ih h2 q r
/-- One is taken out. -/
theorem NtX.took (h : NtX w lab k xb bm last es) {no : Int} {e : En} (he : fnd es no = some e) (t : Turns (fun i => i = bm) w w') (hm : Mv w' bm (les es no).length ((les es no).map fun e => (e.no, pkV e))) (j : Nat) :
    NtX w' (tl lab w k j e.v) k xb bm last (les es no) ∧ Da w' (tl lab w k j e.v) j e.d e.v := by
  obtain ⟨hmem, hno⟩ := fnd_mem he
  have hd := h.en.da e hmem
  have hxe : e.v.ownBlock ≠ some xb := hd.ne_cells h.box (by decide)
  have hme : e.v.ownBlock ≠ some bm := hd.ne_map h.map
  have hne : ∀ x ∈ les es no, ∀ b, x.v.ownBlock = some b → e.v.ownBlock ≠ some b := fun x hx b hb q => by
    have h1 := List.mem_filter.1 hx
    exact Ens.sep_at h.en.sep hmem h1.1 (by have := h1.2; simp at this; omega) b q hb
  refine ⟨⟨(t.block xb (heap_lt h.box) (h.map.ne_cells h.box)).trans h.box, hm, ⟨fun x hx => ?_, h.en.sep.sublist (les_sub es no)⟩, ?_, ?_⟩, ?_⟩
  · have hx1 := h.en.da x ((les_sub es no).subset hx)
    exact ⟨own_turns hx1.own t (fun b hb q => by subst q; exact hx1.ne_map h.map hb), fun b hb => by rw [tl_off (hne x hx b hb), rl_old (hx1.lt b hb)]; exact hx1.lb b hb, hx1.len⟩
  · rw [tl_off hxe, rl_old (heap_lt h.box)]; exact h.lx
  · rw [tl_off hme, rl_old h.map.lt]; exact h.lm
  · exact ⟨own_turns hd.own t (fun b hb q => by subst q; exact hme hb), fun b hb => tl_at hb, hd.len⟩
set_option maxHeartbeats 2000000 in
theorem take_ok (h : NtX w lab k xb bm last es) {no : Int} (hk : KeyI no) {e : En} (he : fnd es no = some e) (j : Nat) :
    Calls Try.prog 16 #[.pointer (some ⟨xb, 0, none⟩), .int .i64 no] w fun en w' => en = .returned (.tuple #[.agg #[.int .i64 e.to, e.v], .int .i64 0]) ∧ NtX w' (tl lab w k j e.v) k xb bm last (les es no) ∧ Da w' (tl lab w k j e.v) j e.d e.v ∧ Turns (fun i => lab i = k) w w' := by
  go_enter Try.func16, Try.ntmps16
  obtain ⟨W1, hW1⟩ : ∃ W, w.alloc (.cells #[.int .i64 0, .slice none 0 0] 28) = W := ⟨_, rfl⟩
  have z1 : W1.heap[w.heap.size]? = some (.cells #[.int .i64 0, .slice none 0 0] 28) := by rw [← hW1]; exact heap_alloc_new w _
  have b1 : Below w.heap.size w W1 := by rw [← hW1]; exact (Below.refl _ w).alloc (Nat.le_refl _) _
  have s1 : W1.heap.size = w.heap.size + 1 := by rw [← hW1]; simp
  have h1 := h.below b1 (lab' := rl lab w k) (fun i hi q => (rl_old hi).trans q)
  have c0 := h1.c0
  obtain ⟨eno, eto, ed, ev⟩ := e
  have hlk : (Instr.lookup 74 (.map (some bm)) (.int .i64 no) true).run Try.prog W1 = .ok (.tuple #[.agg #[.int .i64 eto, ev], .bool true]) W1 := by
    have := Mv.look2 h1.map hk
    rw [vlk_fnd, he] at this; exact this
  obtain ⟨ao, cc, hev⟩ := (h.en.da _ (fnd_mem he).1).slice
  obtain ⟨n, hn⟩ : ∃ n, ed.length = n := ⟨_, rfl⟩
  change ev = .slice ao ed.length cc at hev
  rw [hn] at hev
  subst hev
  obtain ⟨W2, hW2⟩ : ∃ W, W1.alloc (.cells #[.int .i64 eto, .slice ao n cc] 28) = W := ⟨_, rfl⟩
  have z2 : W2.heap[w.heap.size + 1]? = some (.cells #[.int .i64 eto, .slice ao n cc] 28) := by rw [← hW2, ← s1]; exact heap_alloc_new W1 _
  have b2 : Below W1.heap.size W1 W2 := by rw [← hW2]; exact (Below.refl _ W1).alloc (Nat.le_refl _) _
  have h2 := h1.below b2 (lab' := rl lab w k) (fun i hi q => q)
  have k0 := h2.c0
  have k4 : W2.cell? ⟨w.heap.size + 1, 0, none⟩ = some (.int .i64 eto) := by simp [World.cell?, z2]
  have k5 : W2.cell? ⟨w.heap.size + 1, 1, none⟩ = some (.slice ao n cc) := by simp [World.cell?, z2]
  have hown := h2.map.own
  have y1 : W2.heap[w.heap.size]? = some (.cells #[.int .i64 0, .slice none 0 0] 28) := (b2.block _ (by omega)).trans z1
  have hm0 : w.heap.size ≠ bm := h2.map.ne_cells y1
  have hm1 : w.heap.size + 1 ≠ bm := h2.map.ne_cells z2
  have HS : Hid (W1.heap.size = w.heap.size + 1) := s1
  have HE : Hid (fnd es no = some ⟨eno, eto, ed, .slice ao n cc⟩) := he
  have HN : Hid (NtX W2 (rl lab w k) k xb bm last es) := h2
  have HH : Hid (NtX w lab k xb bm last es) := h
  have HB : Hid (Below w.heap.size w W2) := b1.trans (b2.mono b1.size)
  have HY : Hid (W2.heap[w.heap.size]? = some (.cells #[.int .i64 0, .slice none 0 0] 28)) := y1
  have HZ : Hid (W2.heap[w.heap.size + 1]? = some (.cells #[.int .i64 eto, .slice ao n cc] 28)) := z2
  clear h h1 h2 he hn y1 z2 z1 b1 b2
  go_wp2_with (at_delete; refine wpList_delete_own _ rfl _ _ 74 3 rfl 28 lawI Try.underlying74 _ bm _ _ rfl hown _ _ rfl (vkey_mk hk) ?_; intro w3 hown3 hturn3; have u3 : Turns (fun i => i = bm) W2 w3 := Turns.grown hturn3.grown (fun b hb => (Option.some.inj hb).symm); have p4 := cell_kept u3 k4 hm1; have p5 := cell_kept u3 k5 hm1; have y3 := (u3.block _ (heap_lt HY.out) hm0).trans HY.out; have p0 : w3.cell? ⟨w.heap.size, 0, none⟩ = some (.int .i64 0) := (by simp [World.cell?, y3]); have p1 : w3.cell? ⟨w.heap.size, 1, none⟩ = some (.slice none 0 0) := (by simp [World.cell?, y3]); have fz : ∀ i, w3.frozen? ⟨w.heap.size, i, none⟩ = false := (fun i => by simp [World.frozen?, y3]))
  obtain ⟨W4, hW4⟩ : ∃ W, (w3.setCell ⟨w.heap.size, 0, none⟩ (.int .i64 eto)).setCell ⟨w.heap.size, 1, none⟩ (.slice ao n cc) = W := ⟨_, rfl⟩
  rw [hW4]
  have y4 : W4.heap[w.heap.size]? = some (.cells #[.int .i64 eto, .slice ao n cc] 28) := by rw [← hW4]; exact heap_setCell_same _ _ _ _ _ _ (heap_setCell_same _ _ _ _ _ _ y3)
  have u4 : Turns (fun i => i = w.heap.size) w3 W4 := by rw [← hW4]; exact (Turns.cell w3 w.heap.size 0 _).trans (Turns.cell _ w.heap.size 1 _) (fun _ _ q => q)
  have g0 : W4.cell? ⟨w.heap.size, 0, none⟩ = some (.int .i64 eto) := by simp [World.cell?, y4]
  have g1 : W4.cell? ⟨w.heap.size, 1, none⟩ = some (.slice ao n cc) := by simp [World.cell?, y4]
  have hm3 := HN.out.map.del no hown3
  rw [vcut_les, List.length_map] at hm3
  have hm4 := hm3.turns u4 (fun q => hm0 q.symm)
  have U : Turns (fun i => i = bm) w W4 := (((Below.turns HB.out (fun i => i = bm)).trans u3 (fun _ _ q => q))).trans u4 (fun i hi q => by omega)
  have hF := HH.out.took HE.out U hm4 j
  have HU : Turns (fun i => lab i = k) w W4 := U.mono (fun i _ q => by rw [q]; exact HH.out.lm)
  exact bodyPost_ret (v := .tuple #[.agg #[.int .i64 eto, .slice ao n cc], .int .i64 0]) (by simp [results, Try.results16, go_sem, g0, g1]) rfl ⟨rfl, hF.1, hF.2, HU⟩
set_option maxHeartbeats 2000000 in
theorem take_no (h : NtX w lab k xb bm last es) {no : Int} (hk : KeyI no) (he : fnd es no = none) :
    Calls Try.prog 16 #[.pointer (some ⟨xb, 0, none⟩), .int .i64 no] w fun en w' => en = .returned (.tuple #[.agg #[.int .i64 0, .slice none 0 0], .int .i64 201]) ∧ Below w.heap.size w w' := by
  go_enter Try.func16, Try.ntmps16
  obtain ⟨W1, hW1⟩ : ∃ W, w.alloc (.cells #[.int .i64 0, .slice none 0 0] 28) = W := ⟨_, rfl⟩
  have z1 : W1.heap[w.heap.size]? = some (.cells #[.int .i64 0, .slice none 0 0] 28) := by rw [← hW1]; exact heap_alloc_new w _
  have b1 : Below w.heap.size w W1 := by rw [← hW1]; exact (Below.refl _ w).alloc (Nat.le_refl _) _
  have s1 : W1.heap.size = w.heap.size + 1 := by rw [← hW1]; simp
  have h1 := h.below b1 (lab' := rl lab w k) (fun i hi q => (rl_old hi).trans q)
  have c0 := h1.c0
  have hlk : (Instr.lookup 74 (.map (some bm)) (.int .i64 no) true).run Try.prog W1 = .ok (.tuple #[.agg #[.int .i64 0, .slice none 0 0], .bool false]) W1 := by
    have := Mv.look2 h1.map hk
    rw [vlk_fnd, he] at this; exact this
  have q0 : W1.cell? ⟨w.heap.size, 0, none⟩ = some (.int .i64 0) := by simp [World.cell?, z1]
  have q1 : W1.cell? ⟨w.heap.size, 1, none⟩ = some (.slice none 0 0) := by simp [World.cell?, z1]
  have fz : ∀ i, W1.frozen? ⟨w.heap.size, i, none⟩ = false := fun i => by simp [World.frozen?, z1]
  obtain ⟨W4, hW4⟩ : ∃ W, (W1.setCell ⟨w.heap.size, 0, none⟩ (.int .i64 0)).setCell ⟨w.heap.size, 1, none⟩ (.slice none 0 0) = W := ⟨_, rfl⟩
  have y4 : W4.heap[w.heap.size]? = some (.cells #[.int .i64 0, .slice none 0 0] 28) := by rw [← hW4]; exact heap_setCell_same _ _ _ _ _ _ (heap_setCell_same _ _ _ _ _ _ z1)
  have u4 : Turns (fun i => i = w.heap.size) W1 W4 := by rw [← hW4]; exact (Turns.cell W1 w.heap.size 0 _).trans (Turns.cell _ w.heap.size 1 _) (fun _ _ q => q)
  have b4 := b1.trans (u4.below (fun i q => (by omega : w.heap.size ≤ i)) b1.size)
  obtain ⟨W5, hW5⟩ : ∃ W, W4.alloc (.cells #[.int .i64 0, .slice none 0 0] 28) = W := ⟨_, rfl⟩
  have b5 : Below W4.heap.size W4 W5 := by rw [← hW5]; exact (Below.refl _ W4).alloc (Nat.le_refl _) _
  have y5 := (b5.block _ (heap_lt y4)).trans y4
  have g0 : W5.cell? ⟨w.heap.size, 0, none⟩ = some (.int .i64 0) := by simp [World.cell?, y5]
  have g1 : W5.cell? ⟨w.heap.size, 1, none⟩ = some (.slice none 0 0) := by simp [World.cell?, y5]
  have HB : Hid (Below w.heap.size w W5) := b4.trans (b5.mono b4.size)
  clear h h1 b1 he u4 b4 b5 y4 y5
  go_wp2_with fail
  exact bodyPost_ret (v := .tuple #[.agg #[.int .i64 0, .slice none 0 0], .int .i64 201]) (by simp [results, Try.results16, go_sem, g0, g1]) rfl ⟨rfl, HB.out⟩
end Go.Proofs.Ytpbanjgjljdepaa
