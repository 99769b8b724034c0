/- The book of QueuePlays: keep and holds, by their contracts. (Written by mkKP.py.) -/
import Derived.Test.YtkfdneohkgmmbabP1
import Derived.Test.YtkfdneohkgmmbabSplit
namespace Go.Proofs.Ytkfdneohkgmmbab
open Go.RowKit
set_option maxRecDepth 100000

theorem Try.infoKept : (Try.prog.info? 60).map (fun i => (i.zero, i.size, i.bytes)) = some (some (.agg #[.slice none 0 0, .int .i64 0, .int .i64 0]), 3, 40) := by kernel_rfl
/-- A list of the book: its value, its mark, how many. -/
structure Ke where
  v : Value
  mark : Int
  n : Nat
def ce (e : Ke) : List Value := [e.v, .int .i64 e.mark, .int .i64 e.n]
abbrev mk (n : Nat) (x : Int) : List Value := List.replicate n (Value.int .i64 x)
theorem own_up {w : World} {base b0 e s n : Nat} {v : Value} {xs : List Value} (h : w.ownsRow b0 e s v n xs) (hb : ∀ b, v.ownBlock = some b → base ≤ b) : w.ownsRow base e s v n xs := by
  refine ⟨h.1, ?_⟩
  rcases h.2 with h2 | ⟨g, cap, cur, rfl, hg, r⟩
  · exact Or.inl h2
  · exact Or.inr ⟨g, cap, cur, rfl, hb g rfl, r⟩
theorem own_unlike {w : World} {b1 b2 e1 e2 s1 s2 n1 n2 : Nat} {v1 v2 : Value} {x1 x2 : List Value} (h1 : w.ownsRow b1 e1 s1 v1 n1 x1) (h2 : w.ownsRow b2 e2 s2 v2 n2 x2) (hne : e1 ≠ e2) (b : Nat) (h : v1.ownBlock = some b) : v2.ownBlock ≠ some b := by
  intro q
  rcases h2.2 with ⟨rfl, _⟩ | ⟨g, cap, cur, rfl, hg, hh, _⟩
  · cases q
  · cases q
    exact own_typ h1 hh hne h
theorem rep_set (a : Value) : ∀ (i : Nat) (l : List Value), i < l.length → (List.replicate i a ++ l.drop i).set i a = List.replicate (i + 1) a ++ l.drop (i + 1) := by
  intro i l h
  rw [List.set_append_right _ _ (by simp), List.length_replicate, Nat.sub_self, List.drop_eq_getElem_cons h, List.set_cons_zero, List.replicate_succ', List.append_assoc]
  rfl
theorem mk_succ (n : Nat) (x : Int) : mk n x ++ [.int .i64 x] = mk (n + 1) x := by rw [mk, mk, List.replicate_succ']
theorem Fl.new {w w' : World} {m : Nat} {ao : Option Addr} {v v' : Value} {x : Value} (h : Fl v m ao) (o : w'.ownsRow 0 3 1 v' (m + 1) x.cells.toList ∨ ∃ xs, w'.ownsRow 0 3 1 v' (m + 1) xs) (l : Laid w w' v v' m (m + 1)) : (∀ b, v'.ownBlock = some b → w.heap.size ≤ b) ∧ w.grownBy w' none := by
  rcases l with ⟨g, cap, h1, h2, h3⟩ | ⟨cap', h1, h2⟩
  · exfalso
    have hv := h.v
    rw [h1] at hv
    cases hv
    have hx : ∃ xs, w'.ownsRow 0 3 1 v' (m + 1) xs := by
      rcases o with o | o
      · exact ⟨_, o⟩
      · exact o
    obtain ⟨xs, o⟩ := hx
    rcases own_shape o with ⟨q, _⟩ | ⟨g', c', q, q1, _⟩
    · rw [h2] at q; cases q
    · rw [h2] at q; cases q; omega
  · exact ⟨fun b hb => by rw [h1] at hb; cases hb; exact Nat.le_refl _, h2⟩
/-- What keep leaves. -/
structure KeR (w w' : World) (kv lv kv' g1 g2 : Value) (es : List Ke) (mark : Int) (m : Nat) : Prop where
  row : w'.ownsRow 0 60 3 kv' (es.length + 3) ((es ++ ([⟨lv, mark, m⟩, ⟨g1, mark, m + 1⟩, ⟨g2, mark, m + 80⟩] : List Ke)).flatMap ce)
  o0 : w'.ownsRow 0 3 1 lv m (mk m mark)
  o1 : w'.ownsRow w.heap.size 3 1 g1 (m + 1) (mk (m + 1) mark)
  o2 : w'.ownsRow w.heap.size 3 1 g2 (m + 80) (mk (m + 80) mark)
  t : Turns (fun i => lv.ownBlock = some i ∨ kv.ownBlock = some i) w w'
  kb : ∀ b, kv'.ownBlock = some b → kv.ownBlock = some b ∨ w.heap.size ≤ b

set_option maxHeartbeats 4000000 in
theorem keep_any {w : World} (kv lv : Value) (es : List Ke) (m : Nat) (ao : Option Addr) (xs : List Int) (mark : Int) (hk : w.ownsRow 0 60 3 kv es.length (es.flatMap ce)) (hl : w.ownsRow 0 3 1 lv m (xs.map (Value.int .i64))) (hf : Fl lv m ao) (hm : m ≤ 64) (hes : es.length ≤ 1000) :
    Calls Try.prog 9 #[kv, lv, .int .i64 mark] w fun e w' => ∃ kv' g1 g2, e = .returned kv' ∧ KeR w w' kv lv kv' g1 g2 es mark m := by
  obtain ⟨i0, hi, hz0, hz1, hz2⟩ := info_parts Try.infoInt
  obtain ⟨j0, ji, jz0, jz1, jz2⟩ := info_parts Try.infoKept
  obtain ⟨ka, kc, hkv⟩ := own_slice hk
  obtain ⟨N, hN⟩ : ∃ N, es.length = N := ⟨_, rfl⟩
  have HN : Hid (es.length = N) := hN
  rw [hN] at hk hkv hes
  have hlv := hf.v
  subst hlv
  subst hkv
  have hxl : (xs.map (Value.int .i64)).length = m := by have := hl.1; omega
  have HXL : Hid ((xs.map (Value.int .i64)).length = m) := hxl
  have HF : Hid (Fl (.slice ao m m) m ao) := hf
  have HT : Hid (∀ b, (Value.slice ao m m).ownBlock = some b → (Value.slice ka N kc).ownBlock ≠ some b) := fun b => own_unlike hl hk (by decide) b
  have c1 : (m : Int) ≤ 64 := by omega
  clear hN hxl hf
  go_enter Try.func9, Try.ntmps9
  go_wp2_with fail
  go_loopw [8] (fun i wr => ∃ k : Nat, k ≤ m ∧ i = .int .i64 k ∧ wr.ownsRow 0 3 1 (.slice ao m m) m (mk k mark ++ (xs.map (Value.int .i64)).drop k) ∧ Turns (fun i => (Value.slice ao m m).ownBlock = some i) w wr) (fun i _ => m + 1 - (intOf i).toNat)
  case atStart => exact ⟨0, Nat.zero_le _, rfl, by simpa using hl, Turns.refl _ _⟩
  case round =>
    obtain ⟨k, hkm, rfl, o1, t1⟩ := hrel
    by_cases hlt : k < m
    · have d1 : (k : Int) < m := by omega
      obtain ⟨g, rfl⟩ : ∃ g, ao = some ⟨g, 0, none⟩ := by
        rcases own_shape o1 with ⟨q, q2⟩ | ⟨g, cap, q, _⟩
        · omega
        · cases q; exact ⟨g, rfl⟩
      obtain ⟨y1, y2⟩ := own_there o1 k (by omega)
      obtain ⟨z, hz⟩ := Option.isSome_iff_exists.1 y1
      have o2 := (o1.stored k (.int .i64 mark)).1
      rw [rep_set _ k _ (by rw [HXL.out]; exact hlt)] at o2
      have t2 := t1.trans (Turns.cell wr g k (.int .i64 mark)) (fun i _ q => by rw [q]; rfl)
      clear y1 o1 t1 hl
      go_wp2_with fail
      go_roundw
      case rel => exact ⟨k + 1, by omega, by go_num, o2, t2⟩
      case measure => simp [intOf]; omega
    · obtain rfl : k = m := by omega
      rw [List.drop_eq_nil_of_le (by rw [HXL.out]; exact Nat.le_refl _), List.append_nil] at o1
      have k1 := own_turns hk t1 (fun b hb q => HT.out b q hb)
      clear hl
      have b3 : k + 1 ≤ maxLen := by unfold maxLen; omega
      obtain ⟨w1, hw1⟩ : ∃ w1, w1 = wr := ⟨wr, rfl⟩
      subst hw1
      go_wp2_with (at_builtin; refine wpList_append_own_split _ rfl _ _ 34 rfl 0 3 i0 (.int .i64 0) 1 8 Try.underlying34 hi hz0 hz1 hz2 rfl (by decide) _ k _ rfl (World.ownsRow.alloc o1 _) ⟨w1.heap.size, 0, none⟩ 1 1 [.int .i64 mark] (by decide) rfl rfl (cell_one_new _ _ _) (by intro u hu; simp at hu; subst hu; rfl) b3 (by omega) (Nat.zero_le _) ?_; intro v2 w2 o2 l2)
      obtain ⟨e2, gr2⟩ := Fl.new (x := .nilFunc) HF.out (Or.inr ⟨_, o2⟩) l2
      rw [mk_succ] at o2
      have e2' : ∀ b, v2.ownBlock = some b → w1.heap.size ≤ b := fun b hb => by have := e2 b hb; simp at this; omega
      have B2 : Below w1.heap.size w1 w2 := ((Below.refl _ w1).alloc (Nat.le_refl _) _).grown gr2 (by simp) (fun b hb => (by cases hb))
      replace o2 := own_up o2 (base := w.heap.size) (fun b hb => Nat.le_trans t1.size (e2' b hb))
      have oL := own_later o1 B2
      have k2 := own_later k1 B2
      have t2 := t1.trans (Below.turns B2 (fun i => (Value.slice ao k k).ownBlock = some i)) (fun _ _ q => q)
      obtain ⟨a2, c2, rfl⟩ := own_slice o2
      clear l2 e2 e2' gr2 B2 o1 k1 t1
      go_wp2_with fail
      go_loopw [10, 11] (fun gv i wr => ∃ q : Nat, q ≤ 80 ∧ i = .int .i64 q ∧ wr.ownsRow 0 3 1 gv (k + q) (mk (k + q) mark) ∧ ((q = 0 ∧ gv = .slice ao k k) ∨ ∀ b, gv.ownBlock = some b → w2.heap.size ≤ b) ∧ Below w2.heap.size w2 wr) (fun _ i _ => 81 - (intOf i).toNat)
      case atStart => exact ⟨0, by omega, rfl, oL, Or.inl ⟨rfl, rfl⟩, Below.refl _ _⟩
      case round =>
        obtain ⟨q, hq, rfl, o3, e3, B3⟩ := hrel
        obtain ⟨a3, c3, hgv⟩ := own_slice o3
        subst hgv
        have E3 : Hid ((q = 0 ∧ Value.slice a3 (k + q) c3 = .slice ao k k) ∨ ∀ b, (Value.slice a3 (k + q) c3).ownBlock = some b → w2.heap.size ≤ b) := e3
        clear e3
        by_cases hq8 : q < 80
        · have d1 : (q : Int) < 80 := by omega
          have b4 : k + q + 1 ≤ maxLen := by unfold maxLen; omega
          go_wp2_with (at_builtin; refine wpList_append_own_split _ rfl _ _ 34 rfl 0 3 i0 (.int .i64 0) 1 8 Try.underlying34 hi hz0 hz1 hz2 rfl (by decide) _ (k + q) _ rfl (World.ownsRow.alloc o3 _) ⟨wr.heap.size, 0, none⟩ 1 1 [.int .i64 mark] (by decide) rfl rfl (cell_one_new _ _ _) (by intro u hu; simp at hu; subst hu; rfl) b4 (by omega) (Nat.zero_le _) ?_; intro v4 w4 o4 l4)
          have R4 : (∀ b, v4.ownBlock = some b → w2.heap.size ≤ b) ∧ Below w2.heap.size w2 w4 := by
            have hs := B3.size
            rcases E3.out with ⟨q0, e0⟩ | e0
            · subst q0
              obtain ⟨e4, gr4⟩ := Fl.new (x := .nilFunc) (v := .slice a3 (k + 0) c3) (m := k + 0) ⟨e0, HF.out.n⟩ (Or.inr ⟨_, o4⟩) l4
              exact ⟨fun b hb => by have := e4 b hb; simp at this; omega, (B3.alloc hs _).grown gr4 (by simp; omega) (fun b hb => (by cases hb))⟩
            · rcases l4 with ⟨g, cap, h1, h2, h3⟩ | ⟨cap', h1, h2⟩
              · cases h1
                exact ⟨fun b hb => by rw [h2] at hb; exact e0 b hb, (B3.alloc hs _).grown h3 (by simp; omega) (fun b hb => e0 b (by rw [← hb]; rfl))⟩
              · exact ⟨fun b hb => by rw [h1] at hb; cases hb; simp; omega, (B3.alloc hs _).grown h2 (by simp; omega) (fun b hb => (by cases hb))⟩
          rw [mk_succ] at o4
          have HR4 : Hid ((∀ b, v4.ownBlock = some b → w2.heap.size ≤ b) ∧ Below w2.heap.size w2 w4) := R4
          have HO4 : Hid (w4.ownsRow 0 3 1 v4 (k + q + 1) (mk (k + q + 1) mark)) := o4
          clear l4 R4 o3 B3 E3 o4
          go_roundw
          case rel => exact ⟨q + 1, by omega, by go_num, HO4.out, Or.inr HR4.out.1, HR4.out.2⟩
          case measure => simp [intOf]; omega
        · obtain rfl : q = 80 := by omega
          have e3 : ∀ b, (Value.slice a3 (k + 80) c3).ownBlock = some b → w2.heap.size ≤ b := by
            rcases E3.out with ⟨q0, _⟩ | e0
            · omega
            · exact e0
          have hs2 := t2.size
          replace o3 := own_up o3 (base := w.heap.size) (fun b hb => Nat.le_trans hs2 (e3 b hb))
          replace oL := own_later oL B3
          replace o2 := own_later o2 B3
          replace k2 := own_later k2 B3
          replace t2 := t2.trans (Below.turns B3 (fun i => (Value.slice ao k k).ownBlock = some i)) (fun _ _ q => q)
          have hT0 := t2.mono (G := fun i => (Value.slice ao k k).ownBlock = some i ∨ (Value.slice ka N kc).ownBlock = some i) (fun _ _ q => Or.inl q)
          have kb0 : ∀ b, (Value.slice ka N kc).ownBlock = some b → (Value.slice ka N kc).ownBlock = some b ∨ w.heap.size ≤ b := fun b hb => Or.inl hb
          clear e3 E3 B3 hs2 t2
          obtain ⟨W0, hW0⟩ : ∃ x, x = wr := ⟨wr, rfl⟩
          subst hW0
          go_wp2_with (first
            | (at_builtin
               refine wpList_append_lies _ rfl _ _ 29 rfl 0 60 j0 (.agg #[.slice none 0 0, .int .i64 0, .int .i64 0]) 3 40 Try.underlying29 ji jz0 jz1 jz2 rfl (by decide) _ (N) _ rfl (World.ownsRow.alloc k2 _) ⟨W0.heap.size, 0, none⟩ 1 1 [.slice ao k k, .int .i64 mark, .int .i64 k] rfl rfl (World.news_of_block (heap_alloc_new _ _)) (by intro u hu; simp at hu; rcases hu with rfl | rfl | rfl <;> rfl) (by decide) (by unfold maxLen; omega) (by omega) (Nat.zero_le _) _ rfl ?_; intro h0 d0 W1 n0 gr0 at0 lt0
               have u0 := (Turns.alloc _ W0 _).trans (Turns.grown (F := fun i => (Value.slice ka N kc).ownBlock = some i) gr0 (fun b hb => hb)) (fun _ _ h => h)
               have oL0 := own_turns oL u0 (fun b hb => own_unlike oL k2 (by decide) b hb)
               have oA0 := own_turns o2 u0 (fun b hb => own_unlike o2 k2 (by decide) b hb)
               have oB0 := own_turns o3 u0 (fun b hb => own_unlike o3 k2 (by decide) b hb)
               have kb1 : ∀ b, (Value.slice (some ⟨h0, 0, none⟩) (N + 1) d0).ownBlock = some b → (Value.slice ka N kc).ownBlock = some b ∨ w.heap.size ≤ b := fun b hb => by
                 cases hb
                 rcases at0 with q | q
                 · exact kb0 _ q
                 · right; show w.heap.size ≤ h0; have := hT0.size; simp at q; omega
               have hT1 := hT0.trans u0 (fun i hi q => by
                 rcases kb0 i q with r | r
                 · exact Or.inr r
                 · omega)
               clear u0 gr0 at0 lt0 hT0 kb0 k2 oL o2 o3)
            | (at_builtin
               refine wpList_append_lies _ rfl _ _ 29 rfl 0 60 j0 (.agg #[.slice none 0 0, .int .i64 0, .int .i64 0]) 3 40 Try.underlying29 ji jz0 jz1 jz2 rfl (by decide) _ (N + 1) _ rfl (World.ownsRow.alloc n0 _) ⟨W1.heap.size, 0, none⟩ 1 1 [.slice a2 (k + 1) c2, .int .i64 mark, .int .i64 ((k : Int) + 1)] rfl rfl (World.news_of_block (heap_alloc_new _ _)) (by intro u hu; simp at hu; rcases hu with rfl | rfl | rfl <;> rfl) (by decide) (by unfold maxLen; omega) (by omega) (Nat.zero_le _) _ rfl ?_; intro h1 d1 W2 n1 gr1 at1 lt1
               have u1 := (Turns.alloc _ W1 _).trans (Turns.grown (F := fun i => (Value.slice (some ⟨h0, 0, none⟩) (N + 1) d0).ownBlock = some i) gr1 (fun b hb => hb)) (fun _ _ h => h)
               have oL1 := own_turns oL0 u1 (fun b hb => own_unlike oL0 n0 (by decide) b hb)
               have oA1 := own_turns oA0 u1 (fun b hb => own_unlike oA0 n0 (by decide) b hb)
               have oB1 := own_turns oB0 u1 (fun b hb => own_unlike oB0 n0 (by decide) b hb)
               have kb2 : ∀ b, (Value.slice (some ⟨h1, 0, none⟩) (N + 1 + 1) d1).ownBlock = some b → (Value.slice ka N kc).ownBlock = some b ∨ w.heap.size ≤ b := fun b hb => by
                 cases hb
                 rcases at1 with q | q
                 · exact kb1 _ q
                 · right; show w.heap.size ≤ h1; have := hT1.size; simp at q; omega
               have hT2 := hT1.trans u1 (fun i hi q => by
                 rcases kb1 i q with r | r
                 · exact Or.inr r
                 · omega)
               clear u1 gr1 at1 lt1 hT1 kb1 n0 oL0 oA0 oB0)
            | (at_builtin
               refine wpList_append_lies _ rfl _ _ 29 rfl 0 60 j0 (.agg #[.slice none 0 0, .int .i64 0, .int .i64 0]) 3 40 Try.underlying29 ji jz0 jz1 jz2 rfl (by decide) _ (N + 1 + 1) _ rfl (World.ownsRow.alloc n1 _) ⟨W2.heap.size, 0, none⟩ 1 1 [.slice a3 (k + 80) c3, .int .i64 mark, .int .i64 ((k : Int) + 80)] rfl rfl (World.news_of_block (heap_alloc_new _ _)) (by intro u hu; simp at hu; rcases hu with rfl | rfl | rfl <;> rfl) (by decide) (by unfold maxLen; omega) (by omega) (Nat.zero_le _) _ rfl ?_; intro h2 d2 W3 n2 gr2 at2 lt2
               have u2 := (Turns.alloc _ W2 _).trans (Turns.grown (F := fun i => (Value.slice (some ⟨h1, 0, none⟩) (N + 1 + 1) d1).ownBlock = some i) gr2 (fun b hb => hb)) (fun _ _ h => h)
               have oL2 := own_turns oL1 u2 (fun b hb => own_unlike oL1 n1 (by decide) b hb)
               have oA2 := own_turns oA1 u2 (fun b hb => own_unlike oA1 n1 (by decide) b hb)
               have oB2 := own_turns oB1 u2 (fun b hb => own_unlike oB1 n1 (by decide) b hb)
               have kb3 : ∀ b, (Value.slice (some ⟨h2, 0, none⟩) (N + 1 + 1 + 1) d2).ownBlock = some b → (Value.slice ka N kc).ownBlock = some b ∨ w.heap.size ≤ b := fun b hb => by
                 cases hb
                 rcases at2 with q | q
                 · exact kb2 _ q
                 · right; show w.heap.size ≤ h2; have := hT2.size; simp at q; omega
               have hT3 := hT2.trans u2 (fun i hi q => by
                 rcases kb2 i q with r | r
                 · exact Or.inr r
                 · omega)
               clear u2 gr2 at2 lt2 hT2 kb2 n1 oL1 oA1 oB1))
          go_ret
          refine ⟨_, _, _, rfl, ?_, oL2, oA2, oB2, hT3, kb3⟩
          rw [HN.out]
          simpa [ce] using n2
end Go.Proofs.Ytkfdneohkgmmbab
