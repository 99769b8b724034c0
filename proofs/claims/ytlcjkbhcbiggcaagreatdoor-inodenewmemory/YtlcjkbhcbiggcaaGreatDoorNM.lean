/- InodeNewMemory. -/
import Derived.Test.YtlcjkbhcbiggcaaGreatDoorND
import Derived.Test.YtlcjkbhcbiggcaaGreatDoorCL
namespace Go.Proofs.YtlcjkbhcbiggcaaGreatDoor
open Go.RowKit Go.Maps
set_option maxRecDepth 100000

/-- A list of steps that came in. -/
structure Ols (w : World) (a : Option Addr) (n c : Nat) (ps : List Opn) : Prop where
  len : ps.length = n
  el : ∀ (j : Nat) p, ps[j]? = some p → ∃ b o, a = some ⟨b, o, none⟩ ∧ w.rangeAt b (o + j * 17) (opA p).toList
theorem Ols.below {w w' : World} {a : Option Addr} {n c : Nat} {ps : List Opn} (h : Ols w a n c ps) (b : Below w.heap.size w w') : Ols w' a n c ps :=
  ⟨h.len, fun j p hp => by
    obtain ⟨x, o, e, hr⟩ := h.el j p hp
    exact ⟨x, o, e, fun k v hv => by
      have := hr k v hv
      exact (b.cell (World.block_lt_of_cell? w _ this)).trans this⟩⟩
theorem inLs_one (ls : List Ino) : ∀ u ∈ inLs ls, u.oneCell' = true := by
  intro u hu
  obtain ⟨x, _, hx⟩ := List.mem_flatMap.1 hu
  exact (Array.all_eq_true_iff_forall_mem.1 (inA_one x)) u (by simpa using hx)
theorem Nd.start {w0 w2 : World} {wb N : Nat} {c : Kc} {F : Nat → Prop} (s2 : St w0 w2 wb N c 0 F (fun _ => zB) [] 0 (fun _ => rec0)) :
    Nd w0 ((w2.alloc (.cells #[.slice none 0 0, .slice none 0 0] 30)).alloc (.cells #[.slice none 0 0] 34)) wb N w2.heap.size (w2.heap.size + 1) c 0 0 0 [] (fun b => b = w2.heap.size + 1) (fun _ => False) := by
  have b1 : Below w2.heap.size w2 (w2.alloc (.cells #[.slice none 0 0, .slice none 0 0] 30)) := (Below.refl _ w2).alloc (Nat.le_refl _) _
  have b2 : Below (w2.alloc (.cells #[.slice none 0 0, .slice none 0 0] 30)).heap.size (w2.alloc (.cells #[.slice none 0 0, .slice none 0 0] 30)) ((w2.alloc (.cells #[.slice none 0 0, .slice none 0 0] 30)).alloc (.cells #[.slice none 0 0] 34)) := (Below.refl _ _).alloc (Nat.le_refl _) _
  have hz : (w2.alloc (.cells #[.slice none 0 0, .slice none 0 0] 30)).heap.size = w2.heap.size + 1 := by simp
  have x1 := heap_alloc_last w2 (.cells #[.slice none 0 0, .slice none 0 0] 30)
  have x2 := heap_alloc_last (w2.alloc (.cells #[.slice none 0 0, .slice none 0 0] 30)) (.cells #[.slice none 0 0] 34)
  rw [hz] at x2
  have x1' := (b2.block w2.heap.size (by omega)).trans x1
  have hb0 := s2.bel.size
  have hwl := heap_lt s2.B
  have h3 := (b2.size)
  have hz3 : ((w2.alloc (.cells #[.slice none 0 0, .slice none 0 0] 30)).alloc (.cells #[.slice none 0 0] 34)).heap.size = w2.heap.size + 2 := by simp
  refine ⟨[], 0, fun _ => rec0, [], [], F, _, .slice none 0 0, .slice none 0 0, .slice none 0 0, 0, ⟨(s2.below b1).below b2, ⟨x1', ⟨by simp [inLs], Or.inl ⟨rfl, rfl⟩⟩, ⟨by simp, Or.inl ⟨rfl, rfl⟩⟩, hb0⟩, fun b hb hf => ?_, Bok.zero N s2.n2⟩, ⟨x2, ⟨by simp, Or.inl ⟨rfl, rfl⟩⟩, rfl, fun b hb => by simp [Value.ownBlock] at hb, fun i e he => by simp at he, fun b hb => by rw [hb, hz3]; omega, by simp⟩, by simp, by omega, by omega, Ky.zero N, fun b hb => ?_⟩
  · rcases hb with hb | hb | hb
    · have := s2.tv.lt b hf
      omega
    · simp [Value.ownBlock] at hb
    · simp [Value.ownBlock] at hb
  · rcases hb with hb | hb
    · refine ⟨by omega, fun q => ?_, by omega, by rw [hb, hz3]; omega⟩
      rcases q with q | q | q | q
      · have := s2.tv.lt b q
        omega
      · omega
      · simp [Value.ownBlock] at q
      · simp [Value.ownBlock] at q
    · exact hb.elim
theorem Nd.dlt {w0 w : World} {wb N kb bb : Nat} {c : Kc} {i q s : Nat} {es : List (Value × Nat)} {D Y : Nat → Prop} (h : Nd w0 w wb N kb bb c i q s es D Y) {b : Nat} (hb : D b ∨ Y b) : b < w.heap.size := by
  obtain ⟨ks, m, T, L, G, F, v, lv, gv, kv, u, h1, h2, h3, h4, h5, h6, h7⟩ := h
  exact (h7 b hb).2.2.2
theorem Nd.bel {w0 w : World} {wb N kb bb : Nat} {c : Kc} {i q s : Nat} {es : List (Value × Nat)} {D Y : Nat → Prop} (h : Nd w0 w wb N kb bb c i q s es D Y) : Below w0.heap.size w0 w := by
  obtain ⟨ks, m, T, L, G, F, v, lv, gv, kv, u, h1, h2, h3, h4, h5, h6, h7⟩ := h
  exact h1.st.bel
/-- What the loop holds. -/
def NmI (w0 w : World) (wb N kb bb : Nat) (c : Kc) (k : Nat) : Prop := ∃ es D, Nd w0 w wb N kb bb c 0 (2 * k) (4 * k) es D (fun _ => False) ∧ es.length = 2 * (2 * k)
attribute [local go_sem ↓ 100000] op_load
set_option maxHeartbeats 8000000 in
theorem newMem_any (slots : Int) (a : Option Addr) (n cp : Nat) (ps : List Opn) (w : World) (hB : Bds w) {er : Nat → Addr} (hE : Errs w er) (hO : Ols w a n cp ps) :
    Calls Tryz.prog 3 #[.int .i64 slots, .slice a n cp] w fun e w' => e = .returned (.bool true) ∧ Below w.heap.size w w' := by
  obtain ⟨i0, hi, hz0, hz1, hz2⟩ := infoI_parts
  go_enter Tryz.func3, Tryz.ntmps3
  go_wp2_with fail
  refine (first9_ok w hB hE).mono ?_
  rintro e w1 ⟨rfl, b1⟩
  by_cases h1 : slots < 2
  · have d1 : decide (slots < 2) = true := decide_eq_true h1
    go_wp2
    go_ret
    exact ⟨rfl, b1⟩
  by_cases h2 : 256 < slots
  · have d1 : decide (slots < 2) = false := decide_eq_false h1
    have d2 : decide (256 < slots) = true := decide_eq_true h2
    go_wp2
    go_ret
    exact ⟨rfl, b1⟩
  have hB1 := hB.later b1 (Nat.le_refl _)
  have hE1 := hE.below b1 (Nat.le_refl _)
  obtain ⟨N, rfl⟩ : ∃ N : Nat, slots = (N : Nat) := ⟨slots.toNat, by omega⟩
  have d1 : decide ((N : Int) < 2) = false := decide_eq_false h1
  have d2 : decide ((256 : Int) < (N : Int)) = false := decide_eq_false h2
  go_wp2_with fail
  refine (begin9_ok (N := N) (by omega) (by omega) w1 hB1 hE1).mono ?_
  rintro e w2 ⟨wb, c, F, rfl, s2, hsq, _, _⟩
  have HN : Hid (NmI w1 ((w2.alloc (.cells #[.slice none 0 0, .slice none 0 0] 30)).alloc (.cells #[.slice none 0 0] 34)) wb N w2.heap.size (w2.heap.size + 1) c 0) := ⟨_, _, Nd.start s2, rfl⟩
  have HO : Hid (Ols w a n cp ps) := hO
  clear s2 d1 d2 hO hB1 hE1
  go_wp2_with fail
  generalize w2.heap.size = kb at *
  go_loopw [9] (fun y wr => ∃ k : Nat, k ≤ n ∧ k ≤ 40 ∧ y = .int .i64 k ∧ Hid (NmI w1 wr wb N kb (kb + 1) c k)) (fun y _ => 41 - (intOf y).toNat)
  case atStart => exact ⟨0, Nat.zero_le _, by omega, rfl, HN⟩
  case round =>
    clear HN
    obtain ⟨k, hkn, hk4, rfl, HI⟩ := hrel
    by_cases c0 : k < n
    · have c0i : (k : Int) < (n : Int) := by omega
      by_cases c1 : k < 40
      · have c1i : (k : Int) < 40 := by omega
        obtain ⟨es, D, h3, hes⟩ := HI.out
        obtain ⟨p, hp⟩ : ∃ p, ps[k]? = some p := ⟨_, List.getElem?_eq_getElem (by rw [HO.out.len]; exact c0)⟩
        obtain ⟨ob, oo, rfl, hr⟩ := (HO.out.below (b1.trans ((h3.bel).mono b1.size))).el k p hp
        have e1 := OpLoad.mid hr rfl
        clear hr hp HI
        go_wp2_with fail
        refine (nd_steps h3 hsq (by omega) (by omega) p).mono ?_
        rintro e w3 ⟨rfl, h4, _⟩
        clear h3 e1
        go_wp2_with fail
        refine (nd_all h4).mono ?_
        rintro e w4 ⟨uv, us, rfl, o4, l4, h5, _, s4⟩
        have z4 : Hid (∀ b, uv.ownBlock = some b → w3.heap.size ≤ b ∧ b < w4.heap.size) := fun b hb => o4.lt b hb
        have z3 : Hid (∀ b, D b → b < w3.heap.size) := fun b hb => h4.dlt (Or.inl hb)
        obtain ⟨ua, uc, hu⟩ := own_slice9 o4
        subst hu
        clear h4
        go_wp2_with fail
        refine (nd_all h5).mono ?_
        rintro e w5 ⟨mv, ms, rfl, o5, l5, h6, k5, s5⟩
        have o4' := k5 _ _ _ _ _ _ o4 (fun b hb => Or.inr (Or.inr hb))
        have z5 : Hid (∀ b, mv.ownBlock = some b → w4.heap.size ≤ b ∧ b < w5.heap.size) := fun b hb => o5.lt b hb
        obtain ⟨ma, mc, hmv⟩ := own_slice9 o5
        subst hmv
        clear h5 k5 o4
        go_wp2_with (at_builtin; refine wpList_append_clone _ rfl _ _ 27 rfl _ 38 i0 (.agg #[.int .i64 0, .int .i64 0, .int .i64 0, .int .i64 0, .int .i64 0, .int .i64 0, .int .i64 0, .int .i64 0, .int .i64 0, .int .i64 0, .int .i64 0, .int .i64 0, .int .i64 0]) 13 104 Tryz.underlying27 hi hz0 hz1 hz2 rfl (by decide) _ ms.length (inLs ms) rfl rfl o5 (inLs_one ms) (by unfold maxLen; omega) (by omega) ?_; intro v6 w6 o6 b6; have o5' := own_on o5 b6; have o4b := own_on o4' b6)
        have z6 : Hid (∀ b, v6.ownBlock = some b → w5.heap.size ≤ b ∧ b < w6.heap.size) := fun b hb => o6.lt b hb
        have h7 : Nd w1 w6 wb N kb (kb + 1) c 0 (2 * k + 1) (4 * k + 1 + 1 + 1) es D (fun b => (Value.slice ua us.length uc).ownBlock = some b ∨ (Value.slice ma ms.length mc).ownBlock = some b ∨ v6.ownBlock = some b) := h6.below b6 (fun x hx => by
          rcases hx with hx | hx | hx
          · exact Or.inl (Or.inl (Or.inr hx))
          · exact Or.inl (Or.inr hx)
          · exact Or.inr (z6.out x hx))
        obtain ⟨wa, wc, hwv⟩ := own_slice9 o6
        subst hwv
        clear h6 b6 o4' o5
        refine (nd_keep (Y' := fun b => (Value.slice ma ms.length mc).ownBlock = some b ∨ (Value.slice wa ms.length wc).ownBlock = some b) h7 (2 * k) hes (by omega) (.slice ua us.length uc) us.length us (ownsRow_mono o4b (Nat.zero_le _)) rfl l4 (fun b hb => ⟨Or.inl hb, fun hd => by have := z3.out b hd; have := z4.out b hb; omega⟩) (fun b hb => ?_)).mono ?_
        · rcases hb with hb | hb
          · have := z5.out b hb
            exact ⟨Or.inr (Or.inl hb), fun e => by have := z4.out b e; omega, fun hd => by have := z3.out b hd; omega⟩
          · have := z6.out b hb
            exact ⟨Or.inr (Or.inr hb), fun e => by have := z4.out b e; omega, fun hd => by have := z3.out b hd; omega⟩
        rintro e w7 ⟨rfl, es2, D2, h8, he2, k8, y8⟩
        have o5c := k8 _ _ _ _ _ _ o5' (fun b hb => Or.inl hb)
        have o6c := k8 _ _ _ _ _ _ o6 (fun b hb => Or.inr hb)
        clear h7 k8 o4b o5' o6
        go_wp2_with fail
        refine (sames_any (L := ms) (ownsRow_mono o5c (Nat.zero_le _)) (ownsRow_mono o6c (Nat.zero_le _)) (by omega)).mono ?_
        rintro e w8 ⟨rfl, b8⟩
        have h9 : Nd w1 w8 wb N kb (kb + 1) c 0 (2 * k + 1) (4 * k + 1 + 1 + 1) es2 D2 (fun b => (Value.slice ma ms.length mc).ownBlock = some b) := h8.below b8 (fun x hx => Or.inl (Or.inl hx))
        have o5d := own_on o5c b8
        have y9 : Hid (∀ b, (Value.slice ma ms.length mc).ownBlock = some b → ¬ D2 b) := fun b hb => y8 b (Or.inl hb)
        clear h8 b8 o5c o6c y8
        go_wp2_with fail
        refine (nd_keep (Y' := fun _ => False) h9 (2 * k + 1) (by omega) (by omega) (.slice ma ms.length mc) ms.length ms (ownsRow_mono o5d (Nat.zero_le _)) rfl l5 (fun b hb => ⟨hb, y9.out b hb⟩) (fun b hb => hb.elim)).mono ?_
        rintro e w9 ⟨rfl, es3, D3, h10, he3, _, _⟩
        clear h9 o5d
        go_wp2_with fail
        refine (nd_sees h10).mono ?_
        rintro e w10 ⟨rfl, h11⟩
        clear h10
        go_wp2_with fail
        refine (nd_whole h11).mono ?_
        rintro e w11 ⟨rfl, rfl⟩
        have HI : Hid (NmI w1 w11 wb N kb (kb + 1) c (k + 1)) := ⟨es3, D3, by
          have e1 : 2 * k + 1 + 1 = 2 * (k + 1) := by omega
          have e2 : 4 * k + 1 + 1 + 1 + 1 = 4 * (k + 1) := by omega
          rw [e1, e2] at h11
          exact h11, by omega⟩
        clear h11
        go_wp2_with fail
        exact ⟨⟨k + 1, by omega, by omega, rfl, HI⟩, by simp [intOf]; omega⟩
      · have c1i : ¬ (k : Int) < 40 := by omega
        obtain ⟨es, D, h3, _⟩ := HI.out
        have b3 := b1.trans (h3.bel.mono b1.size)
        clear h3 HI
        go_wp2
        go_ret
        exact ⟨rfl, b3⟩
    · have c0i : ¬ (k : Int) < (n : Int) := by omega
      obtain ⟨es, D, h3, _⟩ := HI.out
      have b3 := b1.trans (h3.bel.mono b1.size)
      clear h3 HI
      go_wp2
      go_ret
      exact ⟨rfl, b3⟩
end Go.Proofs.YtlcjkbhcbiggcaaGreatDoor
