/- The book and the lists that were handed out, beside one another. -/
import Derived.Test.YtlcjkbhcbiggcaaGreatDoorMK
import Derived.Test.YtlcjkbhcbiggcaaGreatDoorMW
import Derived.Test.YtlcjkbhcbiggcaaGreatDoorKY
namespace Go.Proofs.YtlcjkbhcbiggcaaGreatDoor
open Go.RowKit Go.Maps
set_option maxRecDepth 100000

/-- A statement's world, its book, the lists that were handed out (their blocks: D), and other lists (their blocks: Y). -/
def Nd (w0 w : World) (wb N kb bb : Nat) (c : Kc) (i q s : Nat) (es : List (Value × Nat)) (D Y : Nat → Prop) : Prop :=
  ∃ ks m T L G F v lv gv kv u, Sk w0 w wb N kb c i ks m T L G F v lv gv ∧ Mk w bb kv es D ∧ G.length ≤ s ∧ m ≤ s ∧ u ≤ q ∧ Ky N u T ks ∧ (∀ b, D b ∨ Y b → w0.heap.size ≤ b ∧ ¬ ftS F kb lv gv b ∧ b ≠ wb ∧ b < w.heap.size)
/-- Lists whose blocks lie in Y read as before. -/
def Kps (Y : Nat → Prop) (w w' : World) : Prop := ∀ base e s n v xs, w.ownsRow base e s v n xs → (∀ b, v.ownBlock = some b → Y b) → w'.ownsRow base e s v n xs
theorem Kps.of {X Y : Nat → Prop} {w w' : World} (t : Turns X w w') (h : ∀ b, Y b → ¬ X b) : Kps Y w w' := fun _ _ _ _ _ _ o hb => own_turns o t (fun b q => h b (hb b q))
theorem Nd.skr {w0 w w' : World} {wb N kb bb : Nat} {c : Kc} {i q s : Nat} {es : List (Value × Nat)} {D Y : Nat → Prop} {ks : List Nat} {m : Nat} {T : Nat → Rec} {L : List Ino} {G : List Int} {F : Nat → Prop} {v : Nat → List Int} {lv gv kv : Value} {u : Nat}
    (_ : Sk w0 w wb N kb c i ks m T L G F v lv gv) (hM : Mk w bb kv es D) (hG : G.length ≤ s) (hm : m ≤ s) (hu : u ≤ q) (hK : Ky N u T ks) (hD : ∀ b, D b ∨ Y b → w0.heap.size ≤ b ∧ ¬ ftS F kb lv gv b ∧ b ≠ wb ∧ b < w.heap.size) (r : SkR w0 w w' wb N kb c i ks m T G F lv gv) :
    Nd w0 w' wb N kb bb c i (q + 1) (s + 1) es D Y ∧ Kps (fun b => D b ∨ Y b) w w' := by
  obtain ⟨o, L', G', F', v', lv', gv', s', t, f, g, ho⟩ := r
  obtain ⟨u', hu', hK'⟩ := hK.step ho
  refine ⟨⟨_, _, _, _, _, _, _, _, _, kv, u', s', hM.turns t (fun b hb => (hD b (Or.inl hb)).2.1), by omega, by omega, by omega, hK', fun b hb => ?_⟩, Kps.of t (fun b hb => (hD b hb).2.1)⟩
  obtain ⟨a1, a2, a3, a4⟩ := hD b hb
  refine ⟨a1, fun q => ?_, a3, Nat.lt_of_lt_of_le a4 t.size⟩
  rcases f b q with r | r
  · exact a2 r
  · omega
theorem nd_steps {w0 w : World} {wb N kb bb : Nat} {c : Kc} {i q s : Nat} {es : List (Value × Nat)} {D Y : Nat → Prop} (h : Nd w0 w wb N kb bb c i q s es D Y) (hc : c.seq = 1) (hq : q ≤ 80) (hs : s ≤ 1000) (p : Opn) :
    Calls Tryz.prog 10 #[.pointer (some ⟨kb, 0, none⟩), .pointer (some ⟨wb, 0, none⟩), opV p] w fun e w' => e = .returned (.bool true) ∧ Nd w0 w' wb N kb bb c i (q + 1) (s + 1) es D Y ∧ Kps (fun b => D b ∨ Y b) w w' := by
  obtain ⟨ks, m, T, L, G, F, v, lv, gv, kv, u, h1, h2, h3, h4, h5, h6, h7⟩ := h
  have hk := h6.ln
  refine (steps_any h1 p (by rw [hc]; decide) (by omega) (by omega) (by omega)).mono ?_
  rintro e w' ⟨rfl, r⟩
  exact ⟨rfl, Nd.skr h1 h2 h3 h4 h5 h6 h7 r⟩
theorem nd_sees {w0 w : World} {wb N kb bb : Nat} {c : Kc} {i q s : Nat} {es : List (Value × Nat)} {D Y : Nat → Prop} (h : Nd w0 w wb N kb bb c i q s es D Y) :
    Calls Tryz.prog 14 #[.pointer (some ⟨kb, 0, none⟩), .pointer (some ⟨wb, 0, none⟩)] w fun e w' => e = .returned (.bool true) ∧ Nd w0 w' wb N kb bb c i (q + 1) (s + 1) es D Y := by
  obtain ⟨ks, m, T, L, G, F, v, lv, gv, kv, u, h1, h2, h3, h4, h5, h6, h7⟩ := h
  refine (sees_any h1).mono ?_
  rintro e w' ⟨rfl, r⟩
  exact ⟨rfl, (Nd.skr h1 h2 h3 h4 h5 h6 h7 r).1⟩
theorem nd_whole {w0 w : World} {wb N kb bb : Nat} {c : Kc} {i q s : Nat} {es : List (Value × Nat)} {D Y : Nat → Prop} (h : Nd w0 w wb N kb bb c i q s es D Y) :
    Calls Tryz.prog 15 #[.pointer (some ⟨bb, 0, none⟩)] w fun e w' => e = .returned (.bool true) ∧ w' = w := by
  obtain ⟨ks, m, T, L, G, F, v, lv, gv, kv, u, h1, h2, h3, h4, h5, h6, h7⟩ := h
  exact mwhole_any h2
theorem nd_all {w0 w : World} {wb N kb bb : Nat} {c : Kc} {i q s : Nat} {es : List (Value × Nat)} {D Y : Nat → Prop} (h : Nd w0 w wb N kb bb c i q s es D Y) :
    Calls Tryz.prog 11 #[.pointer (some ⟨wb, 0, none⟩)] w fun e w' => ∃ uv ls, e = .returned (.tuple #[uv, .int .i64 0]) ∧ w'.ownsRow w.heap.size 38 13 uv ls.length (inLs ls) ∧ ls.length ≤ 256 ∧ Nd w0 w' wb N kb bb c i q (s + 1) es D (fun b => Y b ∨ uv.ownBlock = some b) ∧ Kps (fun b => D b ∨ Y b) w w' ∧ w.heap.size ≤ w'.heap.size := by
  obtain ⟨ks, m, T, L, G, F, v, lv, gv, kv, u, h1, h2, h3, h4, h5, h6, h7⟩ := h
  refine (all9_any h1.st).mono ?_
  rintro e w' ⟨uv, rfl, o, z⟩
  have t1 : Turns F w w' := z.2
  have hN := h1.st.n2
  have hl := used_len T N
  have hw := heap_lt h1.st.B
  have hb0 := h1.st.bel
  have hbw := hb0.size
  have hsz := t1.size
  have s1 : St w0 w' wb N c i F v ks (m + 1) T := { h1.st with B := h1.st.B.turns t1 h1.st.nF, tv := z.1.later (fun _ q => q) z.1.lt (Nat.le_succ _), bel := hb0.trans (t1.below h1.st.fnew hb0.size) }
  refine ⟨uv, used T N, rfl, o, by omega, ⟨ks, m + 1, T, L, G, F, v, lv, gv, kv, u, ⟨s1, h1.bo.turns t1 h1.nF, h1.nF, h1.ok⟩, h2.turns t1 (fun b hb e => (h7 b (Or.inl hb)).2.1 (Or.inl e)), by omega, by omega, h5, h6, fun b hb => ?_⟩, Kps.of t1 (fun b hb e => (h7 b hb).2.1 (Or.inl e)), hsz⟩
  have hold : D b ∨ Y b → w0.heap.size ≤ b ∧ ¬ ftS F kb lv gv b ∧ b ≠ wb ∧ b < w'.heap.size := fun hb => by
    obtain ⟨a1, a2, a3, a4⟩ := h7 b hb
    exact ⟨a1, a2, a3, by omega⟩
  rcases hb with hb | hb | hb
  · exact hold (Or.inl hb)
  · exact hold (Or.inr hb)
  · have hb2 := o.lt b hb
    refine ⟨by omega, fun q => ?_, by omega, hb2.2⟩
    rcases q with q | q
    · have := h1.st.tv.lt b q
      omega
    · have := (h1.bo.lt q).2
      omega
/-- New memory beside it: a list of one's own. -/
theorem Nd.below {w0 w w' : World} {wb N kb bb : Nat} {c : Kc} {i q s : Nat} {es : List (Value × Nat)} {D Y Y' : Nat → Prop} (h : Nd w0 w wb N kb bb c i q s es D Y) (b : Below w.heap.size w w') (hY : ∀ x, Y' x → Y x ∨ w.heap.size ≤ x ∧ x < w'.heap.size) : Nd w0 w' wb N kb bb c i q s es D Y' := by
  obtain ⟨ks, m, T, L, G, F, v, lv, gv, kv, u, h1, h2, h3, h4, h5, h6, h7⟩ := h
  have hw := heap_lt h1.st.B
  have hbw := h1.st.bel.size
  have hsz := b.size
  refine ⟨ks, m, T, L, G, F, v, lv, gv, kv, u, h1.below b, h2.below b, h3, h4, h5, h6, fun x hx => ?_⟩
  have hold : D x ∨ Y x → w0.heap.size ≤ x ∧ ¬ ftS F kb lv gv x ∧ x ≠ wb ∧ x < w'.heap.size := fun hb => by
    obtain ⟨a1, a2, a3, a4⟩ := h7 x hb
    exact ⟨a1, a2, a3, by omega⟩
  rcases hx with hx | hx
  · exact hold (Or.inl hx)
  · rcases hY x hx with r | ⟨r1, r2⟩
    · exact hold (Or.inr r)
    · refine ⟨by omega, fun q => ?_, by omega, r2⟩
      rcases q with q | q
      · have := h1.st.tv.lt x q
        omega
      · have := (h1.bo.lt q).2
        omega
theorem nd_keep {w0 w : World} {wb N kb bb : Nat} {c : Kc} {i q s : Nat} {es : List (Value × Nat)} {D Y Y' : Nat → Prop} (h : Nd w0 w wb N kb bb c i q s es D Y) (k : Nat) (hk : es.length = 2 * k) (he : es.length + 2 ≤ 1000) (uv : Value) (n : Nat) (ls : List Ino) (o : w.ownsRow 0 38 13 uv n (inLs ls)) (hls : ls.length = n) (hn : n ≤ 256) (huY : ∀ b, uv.ownBlock = some b → Y b ∧ ¬ D b) (hY' : ∀ b, Y' b → Y b ∧ uv.ownBlock ≠ some b ∧ ¬ D b) :
    Calls Tryz.prog 12 #[.pointer (some ⟨bb, 0, none⟩), uv] w fun e w' => e = .returned (.tuple #[]) ∧ ∃ es' D', Nd w0 w' wb N kb bb c i q s es' D' Y' ∧ es'.length = 2 * (k + 1) ∧ Kps Y' w w' ∧ ∀ b, Y' b → ¬ D' b := by
  obtain ⟨ks, m, T, L, G, F, v, lv, gv, kv, u, h1, h2, h3, h4, h5, h6, h7⟩ := h
  refine (mkeep_any h2 k hk uv n ls o hls (fun b hb => (huY b hb).2) hn he).mono ?_
  rintro e w' ⟨rfl, kv', g, D', M', t, hD'⟩
  have hw := heap_lt h1.st.B
  have hb0 := h1.st.bel
  have hbw := hb0.size
  have hsz := t.size
  have hX : ∀ b, D b ∨ uv.ownBlock = some b → w0.heap.size ≤ b ∧ ¬ ftS F kb lv gv b ∧ b ≠ wb ∧ b < w.heap.size := fun b hb => h7 b (hb.imp id (fun q => (huY b q).1))
  have hbl : Below w0.heap.size w w' := t.below (fun b hb => (hX b hb).1) hbw
  refine ⟨rfl, _, D', ⟨ks, m, T, L, G, F, v, lv, gv, kv', u, h1.keep t (fun b hf hx => (hX b hx).2.1 hf) (fun hx => (hX wb hx).2.2.1 rfl) hbl, M', h3, h4, h5, h6, fun b hb => ?_⟩, by simp; omega, Kps.of t (fun b hb hx => ?_), fun b hb hd => ?_⟩
  · rcases hb with hb | hb
    · have hlt := M'.lt b hb
      rcases hD' b hb with r | r | r
      · obtain ⟨a1, a2, a3, _⟩ := hX b (Or.inl r)
        exact ⟨a1, a2, a3, hlt⟩
      · obtain ⟨a1, a2, a3, _⟩ := hX b (Or.inr r)
        exact ⟨a1, a2, a3, hlt⟩
      · refine ⟨by omega, fun q => ?_, by omega, hlt⟩
        rcases q with q | q
        · have := h1.st.tv.lt b q
          omega
        · have := (h1.bo.lt q).2
          omega
    · obtain ⟨a1, a2, a3, a4⟩ := h7 b (Or.inr (hY' b hb).1)
      exact ⟨a1, a2, a3, by omega⟩
  · rcases hx with hx | hx
    · exact (hY' b hb).2.2 hx
    · exact (hY' b hb).2.1 hx
  · have hb4 := (h7 b (Or.inr (hY' b hb).1)).2.2.2
    rcases hD' b hd with r | r | r
    · exact (hY' b hb).2.2 r
    · exact (hY' b hb).2.1 r
    · omega
end Go.Proofs.YtlcjkbhcbiggcaaGreatDoor
