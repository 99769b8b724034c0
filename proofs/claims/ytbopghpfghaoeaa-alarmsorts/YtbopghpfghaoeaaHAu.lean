/- An alarm whose keys are bytes: New, Set, Cancel, At, Next and Len, by their contracts. -/
import Derived.Test.YtbopghpfghaoeaaH9u
import Derived.Laws.EntriesVeiled
namespace Go.Proofs.Ytbopghpfghaoeaa
open Go.RowKit Go.Maps
set_option maxRecDepth 100000
attribute [local go_sem ↓] Go.wp_at_zero Go.wp_at_succ
/-- An alarm: its keys with their times, the first ones first. -/
def AlU (w : World) (lab : Nat → Nat) (k ab : Nat) (S : List (Int × Int)) : Prop := ∃ bm rv g l, FlU w lab k ab bm rv g l ∧ Sh OU l S ∧ g ≤ l.length
theorem AlU.turns {F : Nat → Prop} {w w' : World} {lab lab' : Nat → Nat} {k ab : Nat} {S : List (Int × Int)} (h : AlU w lab k ab S) (t : Turns F w w') (hF : ∀ i, i < w.heap.size → lab i = k → ¬ F i) (hl : ∀ i, i < w.heap.size → lab' i = lab i) : AlU w' lab' k ab S := by
  obtain ⟨bm, rv, g, l, ⟨D, f, h1, h2⟩, h3⟩ := h
  exact ⟨bm, rv, g, l, ⟨D, f, h1.turns t hF hl, h2⟩, h3⟩
theorem AlU.other {w w' : World} {lab : Nat → Nat} {k j ab : Nat} {S : List (Int × Int)} (h : AlU w lab k ab S) (t : Turns (fun i => lab i = j) w w') (hj : k ≠ j) : AlU w' (rl lab w j) k ab S :=
  h.turns t (fun _ _ e q => hj (e.symm.trans q)) (fun _ hi => rl_old hi)
theorem AlU.below {w w' : World} {lab : Nat → Nat} {k ab : Nat} {S : List (Int × Int)} (h : AlU w lab k ab S) (b : Below w.heap.size w w') (j : Nat) : AlU w' (rl lab w j) k ab S :=
  h.turns (Below.turns b (fun _ => False)) (fun _ _ _ q => q) (fun _ hi => rl_old hi)
theorem AlU.drew {w : World} {lab : Nat → Nat} {k ab : Nat} {S : List (Int × Int)} (h : AlU w lab k ab S) (m : Nat) : AlU (w.drewN m) lab k ab S :=
  h.turns (Turns.drewN (fun _ => False) w m) (fun _ _ _ q => q) (fun _ _ => rfl)
theorem AlU.srt {w : World} {lab : Nat → Nat} {k ab : Nat} {S : List (Int × Int)} (h : AlU w lab k ab S) : Srt OU S ∧ (S.map Prod.fst).Nodup ∧ (∀ x ∈ S, KU.ok x.1) ∧ S.length ≤ 4398046511104 := by
  obtain ⟨bm, rv, g, l, ⟨D, f, h1, h2⟩, h3, h4⟩ := h
  exact ⟨h3.srt, h3.keys, fun x hx => h1.ok x ((h3.mem x).2 hx), by rw [← h3.len]; exact h1.hl⟩
/-- A key is there, or not. -/
theorem FlU.key {w : World} {lab : Nat → Nat} {k hb bm g : Nat} {rv : Value} {l S : List (Int × Int)} (h : FlU w lab k hb bm rv g l) (hS : Sh OU l S) (a : Int) (ha : KU.ok a) :
    (atS S a = none ∧ a ∉ S.map Prod.fst ∧ (Instr.lookup 121 (.map (some bm)) (.int .u8 a) true).run Try.prog w = .ok (.tuple #[.int .i64 0, .bool false]) w) ∨ ∃ (n : Nat) (t : Int), atS S a = some t ∧ l[n]? = some (a, t) ∧ (Instr.lookup 121 (.map (some bm)) (.int .u8 a) true).run Try.prog w = .ok (.tuple #[.int .i64 n, .bool true]) w := by
  obtain ⟨D, f, h1, hm, hp⟩ := h
  have hlo := h1.mis.look h1.map Try.underlying121 (zero_intU _) a ha
  cases e : f a with
  | none =>
    rw [e] at hlo
    exact Or.inl ⟨hS.at_none (hm.no e), fun q => hm.no e ((hS.perm.map Prod.fst).mem_iff.2 q), hlo⟩
  | some n =>
    rw [e] at hlo
    obtain ⟨t, ht⟩ := hm.at e
    exact Or.inr ⟨n, t, hS.at_some ht, ht, hlo⟩
set_option maxHeartbeats 1000000 in
theorem new_U (w : World) (lab : Nat → Nat) (k : Nat) : Calls Try.prog 43 #[] w fun e w' => ∃ ab, e = .returned (.pointer (some ⟨ab, 0, none⟩)) ∧ AlU w' (rl lab w k) k ab [] ∧ Below w.heap.size w w' := by
  have hmk := run_makeMap (P := Try.prog) 121 w
  go_enter Try.func43, Try.ntmps43
  go_wp2_with fail
  go_ret
  refine ⟨w.heap.size + 1, by simp, ?_⟩
  have hb : Below w.heap.size w ((w.alloc (.map #[] 0)).alloc (.cells #[.slice none 0 0, .map (some w.heap.size), .func (.func 57) #[] #[], .int .i64 0] 126)) := ((Below.refl _ w).alloc (Nat.le_refl _) _).alloc (by simp) _
  refine ⟨⟨w.heap.size, .slice none 0 0, 0, [], ⟨.map [], fun _ => none, ⟨?_, ?_, ?_, MapIs.empty, rl_new (by omega), rl_new (by omega), fun b q => (by cases q), fun y hy => (by cases hy), by decide, by decide⟩, ⟨by simp, fun j y hy => (by simp at hy), fun a ha => (by cases ha)⟩, fun j x y _ hx => (by simp at hx)⟩, Sh.nil, Nat.zero_le _⟩, hb⟩
  · have := heap_alloc_new (w.alloc (.map #[] 0)) (.cells #[.slice none 0 0, .map (some w.heap.size), .func (.func 57) #[] #[], .int .i64 0] 126)
    rw [show (w.alloc (.map #[] 0)).heap.size = w.heap.size + 1 by simp] at this
    exact this
  · exact World.ownsRow_nil _ _ _ _
  · exact (World.ownsMap_made w _ _ _).alloc _
set_option maxHeartbeats 1000000 in
theorem setA_U {w : World} {lab : Nat → Nat} {k ab : Nat} {S : List (Int × Int)} (h : AlU w lab k ab S) (a : Int) (t : Int) (ha : KU.ok a) (hl : S.length < 4398046511104) :
    Calls Try.prog 44 #[.pointer (some ⟨ab, 0, none⟩), .int .u8 a, .int .i64 t] w fun e w' => e = .returned (.tuple #[]) ∧ AlU w' (rl lab w k) k ab (setS OU S a t) ∧ Turns (fun i => lab i = k) w w' := by
  obtain ⟨bm, rv, g, l, h1, h2, h3⟩ := h
  have hlen := h2.len
  go_enter Try.func44, Try.ntmps44
  go_wp2_with fail
  refine (set_U h1 (a, t) ha (by omega)).mono ?_
  rintro e w' ⟨rfl, rv', l', h4, t4, s4⟩
  go_wp2_with fail
  first | go_end0 | refine bodyPost_ret (results_none rfl _ _ _) rfl ?_
  refine ⟨rfl, ⟨bm, rv', g, l', h4, s4 S h2, ?_⟩, t4⟩
  have e1 := (s4 S h2).len
  rw [e1]
  have e2 : S.length ≤ (setS OU S a t).length := by
    unfold setS
    rw [ins_len]
    have := cutS_nearU h2.keys a
    omega
  omega
set_option maxHeartbeats 1000000 in
theorem lenA_U {w : World} {lab : Nat → Nat} {k ab : Nat} {S : List (Int × Int)} (h : AlU w lab k ab S) :
    Calls Try.prog 47 #[.pointer (some ⟨ab, 0, none⟩)] w fun e w' => e = .returned (.int .i64 S.length) ∧ w' = w := by
  obtain ⟨bm, rv, g, l, ⟨D, f, h1, _⟩, h2, h3⟩ := h
  rw [← h2.len]
  obtain ⟨c0, c1, c2, c3, fz⟩ := h1.cells
  obtain ⟨ao, cap, hrv⟩ := own_slice h1.row
  rw [hrv] at c0
  clear h1 h2 h3
  go_enter Try.func47, Try.ntmps47
  go_wp2_with fail
  go_ret
  exact ⟨rfl, rfl⟩
set_option maxHeartbeats 1000000 in
theorem nextN_U {w : World} {lab : Nat → Nat} {k ab : Nat} (h : AlU w lab k ab []) :
    Calls Try.prog 45 #[.pointer (some ⟨ab, 0, none⟩)] w fun e w' => e = .returned (.tuple #[.int .u8 0, .int .i64 0, .bool false]) ∧ w' = w := by
  go_enter Try.func45, Try.ntmps45
  go_wp2_with (go_at_call 47; refine (lenA_U h).mono ?_; rintro e wn ⟨rfl, hwn⟩; subst wn)
  go_ret3
  exact ⟨rfl, rfl⟩
set_option maxHeartbeats 1000000 in
theorem nextC_U {w : World} {lab : Nat → Nat} {k ab : Nat} {m : Int × Int} {T : List (Int × Int)} (h : AlU w lab k ab (m :: T)) :
    Calls Try.prog 45 #[.pointer (some ⟨ab, 0, none⟩)] w fun e w' => e = .returned (.tuple #[.int .u8 m.1, .int .i64 m.2, .bool true]) ∧ Below w.heap.size w w' := by
  have hA := h
  have hL := h.srt.2.2.2
  obtain ⟨bm, rv, g, l, ⟨D, f, h1, hm, hp⟩, h2, h3⟩ := h
  have hlen := h2.len
  simp at hlen
  obtain ⟨y, hy⟩ : ∃ y, l[0]? = some y := ⟨_, List.getElem?_eq_getElem (by omega)⟩
  obtain ⟨T', hT⟩ := h2.first hp hy
  cases hT
  obtain ⟨c0, c1, c2, c3, fz⟩ := h1.cells
  obtain ⟨gr, cap, hrv, hcap, x0, x1, _⟩ := h1.at hy
  rw [hrv] at c0
  obtain ⟨W, hW⟩ : ∃ W, w.alloc (.cells #[.int .u8 m.1, .int .i64 m.2] 129) = W := ⟨_, rfl⟩
  obtain ⟨z0, z1, _⟩ := box_twoU w (.int .u8 m.1) (.int .i64 m.2) 129
  rw [hW] at z0 z1
  have a1 : (0 : Int) < l.length := by omega
  have bW : Below w.heap.size w W.drew := by rw [← hW]; exact ((Below.refl _ w).alloc (Nat.le_refl _) _).trans ⟨rfl, rfl, rfl, Nat.le_refl _, fun _ _ => rfl⟩
  replace x0 : w.cell? ⟨gr, 0, none⟩ = some (.int .u8 m.1) := x0
  replace x1 : w.cell? ⟨gr, 1, none⟩ = some (.int .i64 m.2) := x1
  have a2 : ¬ ((T.length : Int) + 1 = 0) := by omega
  clear h1 h2 h3 hrv
  go_enter Try.func45, Try.ntmps45
  go_wp2_with (go_at_call 47; refine (lenA_U hA).mono ?_; rintro e wn ⟨rfl, hwn⟩; subst wn)
  go_region
  go_wp2_with fail
  go_ret3
  exact ⟨rfl, bW⟩
end Go.Proofs.Ytbopghpfghaoeaa
