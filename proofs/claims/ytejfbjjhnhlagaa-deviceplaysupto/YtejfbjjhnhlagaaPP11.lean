/- looked, done and made at every kind; the book at the end of a step. -/
import Derived.Test.YtejfbjjhnhlagaaPP5
import Derived.Test.YtejfbjjhnhlagaaPP7
import Derived.Test.YtejfbjjhnhlagaaPP9
import Derived.Test.YtejfbjjhnhlagaaPP10
namespace Go.Proofs.Ytejfbjjhnhlagaa
open Go.RowKit Go.Maps
set_option maxRecDepth 100000

theorem Aft.more {w w' : World} {base yb : Nat} {s : Int} {N : Nat} {a b : Nat → Value} {M M' : Nat} (h : Aft w w' base yb s N a b M) (hM : M ≤ M') : Aft w w' base yb s N a b M' := by
  obtain ⟨⟨T, bv, es, z, h1, h2, h3⟩, hB⟩ := h
  exact ⟨⟨T, bv, es, z, h1, h2, by omega⟩, hB⟩
theorem Pz.lend {w : World} {base yb : Nat} {s : Int} {N : Nat} {a b : Nat → Value} {T : Nat → Option PairT} {bv : Value} {es : List Ke} {P : Nat → Prop} (h : Pz w base yb s N a b T bv es P) {i : Nat} (hi : P i) {cs : Array Value} {ty : Nat} (hc : w.heap[i]? = some (.cells cs ty (0, 0))) : Pz w base yb s N (upd a (3 + i) (.agg cs)) (upd b (3 + i) (.int .i64 ty)) T bv es (fun x => P x ∧ x ≠ i) := by
  obtain ⟨L, h, hL⟩ := h
  refine ⟨_, h.lend (hL i hi).1 (hL i hi).2.1 hc, fun x hx => ⟨?_, (hL x hx.1).2⟩⟩
  rw [relab_out (X := fun x => x = i) hx.2]
  exact (hL x hx.1).1
theorem Pz.lent {w : World} {base yb : Nat} {s : Int} {N : Nat} {a b : Nat → Value} {T : Nat → Option PairT} {bv : Value} {es : List Ke} {P : Nat → Prop} (h : Pz w base yb s N a b T bv es P) {i : Nat} {cs : Array Value} {ty : Nat} (ha : a (3 + i) = .agg cs) (hb : b (3 + i) = .int .i64 ty) : w.heap[i]? = some (.cells cs ty (0, 0)) := by
  obtain ⟨L, h, hL⟩ := h
  exact (h.fr i cs ty ha hb).1
theorem looked_all {w : World} {base yb : Nat} {s : Int} {N : Nat} {a b : Nat → Value} {T : Nat → Option PairT} {bv : Value} {es : List Ke} (h : Pz w base yb s N a b T bv es (fun _ => False)) (hbal : Bal T) (hT2 : T 2 = none) {q : Nat} (hq : q ≤ 1) {t : PairT} (ht : T q = some t) (hN : N ≤ 1000000000) (hes : es.length ≤ 900000000000) (kind x : Int) (k1 k3 k4 k5 : Value) :
    Calls Try.prog 6 #[.pointer (some ⟨yb, 0, none⟩), .agg #[.pointer (some ⟨t.db, 0, none⟩), .pointer (some ⟨t.rb, 0, none⟩)], .agg #[.int .i64 kind, k1, .int .i64 x, k3, k4, k5]] w fun e w' => e = .returned (.bool true) ∧ Aft w w' base yb s (N + 1) a b (es.length + 3 * N + 3) := by
  by_cases e3 : kind = 3
  · subst e3
    by_cases hr : rdE t.S t.k x = 0
    · exact (looked_read_ok h hbal hT2 hq ht hN hes k1 k3 k4 k5 x hr).mono (fun e w' ⟨h1, h2⟩ => ⟨h1, h2.more (by omega)⟩)
    · exact (looked_read_bad h hbal hT2 hq ht hN hes k1 k3 k4 k5 x hr).mono (fun e w' ⟨h1, h2⟩ => ⟨h1, h2.more (by omega)⟩)
  by_cases e7 : kind = 7
  · subst e7
    exact looked_look h hbal hT2 hq ht hN hes k1 (.int .i64 x) k3 k4 k5
  by_cases e9 : kind = 9
  · subst e9
    exact (looked_durable h hbal hT2 hq ht hN hes k1 (.int .i64 x) k3 k4 k5).mono (fun e w' ⟨h1, h2⟩ => ⟨h1, h2.more (by omega)⟩)
  exact (looked_other h hbal hT2 hq ht hN hes k1 (.int .i64 x) k3 k4 k5 kind e3 e7 e9).mono (fun e w' ⟨h1, h2⟩ => ⟨h1, h2.more (by omega)⟩)
theorem done_all {w : World} {base yb : Nat} {s : Int} {N : Nat} {a b : Nat → Value} {T : Nat → Option PairT} {bv : Value} {es : List Ke} (h : Pz w base yb s N a b T bv es (fun _ => False)) (hbal : Bal T) (hT2 : T 2 = none) {q : Nat} (hq : q ≤ 1) {t : PairT} (ht : T q = some t) (hN : N ≤ 1000000000) (hes : es.length ≤ 900000000000) (kind x kk : Int) (hk : kk ≤ 9223372036854775807) (k1 : Value) (da : Option Addr) (dn dc : Nat) (bs : List Int) (ka : Option Addr) (kn kc : Nat) (ks : List Bool) (hok : OpOk w base da dn dc bs ka kn kc ks) :
    Calls Try.prog 7 #[.pointer (some ⟨yb, 0, none⟩), .agg #[.pointer (some ⟨t.db, 0, none⟩), .pointer (some ⟨t.rb, 0, none⟩)], .agg #[.int .i64 kind, k1, .int .i64 x, .int .i64 kk, .slice da dn dc, .slice ka kn kc]] w fun e w' => e = .returned (.bool true) ∧ Aft w w' base yb s (N + 1) a b (es.length + 3) := by
  by_cases e4 : kind = 4
  · subst e4
    exact done_write h hbal hT2 hq ht hN hes k1 (.int .i64 kk) x da dn dc bs ka kn kc ks hok
  by_cases e5 : kind = 5
  · subst e5
    exact done_flush h hbal hT2 hq ht hN hes k1 (.int .i64 x) (.int .i64 kk) (.slice da dn dc) (.slice ka kn kc)
  by_cases e6 : kind = 6
  · subst e6
    exact done_arm h hbal hT2 hq ht hN hes k1 (.int .i64 x) (.slice da dn dc) (.slice ka kn kc) kk hk
  by_cases e8 : kind = 8
  · subst e8
    exact done_crash h hbal hT2 hq ht hN hes k1 (.int .i64 x) (.int .i64 kk) da dn dc bs ka kn kc ks hok
  exact done_other h hbal hT2 hq ht hN hes k1 (.int .i64 x) (.int .i64 kk) (.slice da dn dc) (.slice ka kn kc) kind e4 e5 e6 e8
theorem made_all {w : World} {base yb : Nat} {s : Int} {N : Nat} {a b : Nat → Value} {T : Nat → Option PairT} {bv : Value} {es : List Ke} (h : Pz w base yb s N a b T bv es (fun _ => False)) (hbal : Bal T) (hT2 : T 2 = none) (who : Int) {q : Nat} (hq : q ≤ 1) (hwq : bits BinOp.and IntKind.i64 who 1 = (q : Int)) (hN : N ≤ 1000000000) (hes : es.length ≤ 900000000000) (kind kk : Int) (hkind : kind = 1 ∨ kind = 2 ∨ kind = 10) (k2 : Value) (da : Option Addr) (dn dc : Nat) (bs : List Int) (ka : Option Addr) (kn kc : Nat) (ks : List Bool) (hok : OpOk w base da dn dc bs ka kn kc ks) :
    Calls Try.prog 5 #[.pointer (some ⟨yb, 0, none⟩), .agg #[.int .i64 kind, .int .i64 who, k2, .int .i64 kk, .slice da dn dc, .slice ka kn kc]] w fun e w' => e = .returned (.bool true) ∧ ∃ a' b', Aft w w' base yb s (N + 1) a' b' (es.length + 3) := by
  rcases hkind with rfl | rfl | rfl
  · by_cases hg : 1 ≤ kk ∧ kk ≤ 4096
    · obtain ⟨m, rfl⟩ : ∃ m : Nat, kk = m := ⟨kk.toNat, by omega⟩
      exact made_new_good h hbal hT2 who hq hwq hN hes k2 (.slice da dn dc) (.slice ka kn kc) m (by omega) (by omega)
    · exact made_new_bad h hbal hT2 who hq hwq hN hes k2 (.slice da dn dc) (.slice ka kn kc) kk hg
  · by_cases hg : imgB dn
    · obtain ⟨k, rfl⟩ : ∃ k, dn = 512 * k := ⟨dn / 512, by have := hg.1; omega⟩
      have := hg.2
      exact made_image_good h hbal hT2 who hq hwq hN hes k2 (.int .i64 kk) k da dc bs ka kn kc ks (by omega) (by omega) hok
    · exact made_image_bad h hbal hT2 who hq hwq hN hes k2 (.int .i64 kk) dn da dc bs ka kn kc ks hg hok
  · cases ht : T q with
    | none => exact made_again_none h hbal hT2 who hq hwq hN hes k2 (.int .i64 kk) (.slice da dn dc) (.slice ka kn kc) ht
    | some t => exact made_again_some h hbal hT2 who hq hwq hN hes k2 (.int .i64 kk) (.slice da dn dc) (.slice ka kn kc) ht
/-- The number of the step. -/
theorem Pz.step {w : World} {base yb : Nat} {s : Int} {N : Nat} {a b : Nat → Value} {T : Nat → Option PairT} {bv : Value} {es : List Ke} {P : Nat → Prop} (h : Pz w base yb s N a b T bv es P) (s' : Int) : Pz (w.setCell ⟨yb, 5, none⟩ (.int .i64 s')) base yb s' N a b T bv es P ∧ Fr P base w (w.setCell ⟨yb, 5, none⟩ (.int .i64 s')) := by
  have hny := fun i (hi : P i) => h.ny hi
  obtain ⟨L, h, hL⟩ := h
  have t := Turns.cell w yb 5 (.int .i64 s')
  have hy := h.own
  refine ⟨⟨L, ⟨?_, hy, h.one, h.bk.turns t (fun i hi e => by subst e; omega), fun q hq => (h.pt q hq).turns t (fun i hi e => by subst e; omega) (Nat.le_refl _) (fun _ hi => hi), fun i hi => ⟨(h.lt i hi).1, Nat.lt_of_lt_of_le (h.lt i hi).2 t.size⟩, Nat.le_trans h.bs t.size, fun i cs ty h1 h2 => ⟨(t.block i (heap_lt (h.fr i cs ty h1 h2).1) (fun e => by subst e; have := (h.fr i cs ty h1 h2).2; omega)).trans (h.fr i cs ty h1 h2).1, (h.fr i cs ty h1 h2).2⟩⟩, fun i hi => ⟨(hL i hi).1, (hL i hi).2.1, Nat.lt_of_lt_of_le (hL i hi).2.2 t.size⟩⟩, t.below (fun i e => by subst e; exact (h.lt i (by omega)).1) h.bs, fun i hi => t.block i (hL i hi).2.2 (fun e => hny i hi e.symm)⟩
  rw [heap_setCell_same _ _ _ _ _ _ h.box]; rfl
theorem holds_py {w : World} {base yb : Nat} {s : Int} {N : Nat} {a b : Nat → Value} {T : Nat → Option PairT} {bv : Value} {es : List Ke} {P : Nat → Prop} (h : Pz w base yb s N a b T bv es P) (hes : es.length ≤ 1000000000000) :
    Calls Try.prog 8 #[bv] w fun e w' => e = .returned (.bool true) ∧ ∃ t, w' = w.drewN t := by
  obtain ⟨L, h, hL⟩ := h
  exact holds_any h.bk hes
theorem lately_py {w : World} {base yb : Nat} {s : Int} {N : Nat} {a b : Nat → Value} {T : Nat → Option PairT} {bv : Value} {es : List Ke} {P : Nat → Prop} (h : Pz w base yb s N a b T bv es P) (hes : es.length ≤ 1000000000000) :
    Calls Try.prog 9 #[bv] w fun e w' => ∃ va vn vc, e = .returned (.slice va vn vc) ∧ w'.cell? ⟨yb, 4, none⟩ = some bv ∧ w'.frozen? ⟨yb, 4, none⟩ = false ∧ (∃ es' : List Ke, es'.length ≤ es.length ∧ Pz (w'.setCell ⟨yb, 4, none⟩ (.slice va vn vc)) base yb s N a b T (.slice va vn vc) es' P) ∧ Fr P base w (w'.setCell ⟨yb, 4, none⟩ (.slice va vn vc)) := by
  have hny := fun i (hi : P i) => h.ny hi
  obtain ⟨L, h', hL⟩ := h
  refine (lately_any h'.bk hes).mono ?_
  rintro e w' ⟨bv', rfl, ⟨c, hB⟩, hb⟩
  obtain ⟨va, vc, rfl⟩ := row_slice hB.row
  have hy := h'.own
  have hyl := heap_lt h'.box
  have hbox := (hb.block yb hyl).trans h'.box
  have t2 : Turns (fun i => i = yb) w' (w'.setCell ⟨yb, 4, none⟩ (.slice va (es.drop c).length vc)) := Turns.cell w' yb 4 _
  have h0 : ∀ i, (w.heap.size ≤ i ∧ i < w'.heap.size) → L i = 0 := fun i hi => h'.zero hi.1
  have e1 : ∀ {d i : Nat}, d ≠ 0 → L i = d → relab L (fun i => w.heap.size ≤ i ∧ i < w'.heap.size) 3 i = d := fun hd hi => relab_eq h0 hd hi
  have hs2 : (w'.setCell ⟨yb, 4, none⟩ (.slice va (es.drop c).length vc)).heap.size = w'.heap.size := by simp [World.setCell]
  have tt : Turns (fun i => i = yb) w (w'.setCell ⟨yb, 4, none⟩ (.slice va (es.drop c).length vc)) := (Below.turns hb _).trans t2 (fun _ _ h => h)
  have hsz := hb.size
  refine ⟨va, _, vc, rfl, by simp [World.cell?, hbox], by simp [World.frozen?, hbox], ⟨es.drop c, by simp, relab L (fun i => w.heap.size ≤ i ∧ i < w'.heap.size) 3, ⟨?_, e1 (by omega) hy, fun i hi => h'.one i (relab_ne (by omega) hi), ?_, ?_, ?_, by rw [hs2]; exact Nat.le_trans h'.bs hsz, fun i cs ty h1 h2 => ⟨(tt.block i (heap_lt (h'.fr i cs ty h1 h2).1) (fun e => by subst e; have := (h'.fr i cs ty h1 h2).2; omega)).trans (h'.fr i cs ty h1 h2).1, e1 (by omega) (h'.fr i cs ty h1 h2).2⟩⟩, fun i hi => ⟨?_, (hL i hi).2.1, by rw [hs2]; exact Nat.lt_of_lt_of_le (hL i hi).2.2 hsz⟩⟩, tt.below (fun i e => by subst e; exact (h'.lt i (by omega)).1) h'.bs, fun i hi => tt.block i (hL i hi).2.2 (fun e => hny i hi e.symm)⟩
  · rw [heap_setCell_same _ _ _ _ _ _ hbox]; rfl
  · refine (hB.turns t2 (fun i hi e => by
      subst e
      rcases hi with r | r
      · omega
      · omega)).mono (fun i hi => ?_)
    rcases hi with r | r
    · exact e1 (by omega) r
    · exact relab_in r
  · intro r hr
    exact (h'.pt r hr).turns tt (fun i hi e => by subst e; omega) (Nat.le_refl _) (fun i hi => e1 (by omega) hi)
  · intro i hi
    rw [hs2]
    by_cases u : w.heap.size ≤ i ∧ i < w'.heap.size
    · exact ⟨Nat.le_trans h'.bs u.1, u.2⟩
    · rw [relab_out u] at hi
      exact ⟨(h'.lt i hi).1, Nat.lt_of_lt_of_le (h'.lt i hi).2 hsz⟩
  · rw [relab_out (fun r => by have := (hL i hi).2.2; omega)]
    exact (hL i hi).1
end Go.Proofs.Ytejfbjjhnhlagaa
