/- What a commit holds while it works, whatever it meets; what the device holds behind it. -/
import Derived.Test.YtlcjkbhcbiggcaaGreatDoorPk12
import Derived.Deep.AppendLies
namespace Go.Proofs.YtlcjkbhcbiggcaaGreatDoor
open Go.RowKit Go.Maps
set_option maxRecDepth 100000

/-- What a commit holds while it works: the journal, its map of what is away, the transaction's map, and what their blocks hold. -/
structure Cn (w0 w : World) (F X : Nat → Prop) (wb d : Nat) (ec : Int) (S : DevS) (k N : Nat) (jb st sz : Nat) (seq : Int) (place : Nat) (free : Int) (bm : Nat) (op : Option Nat) (nd : Nat) (a : List (Nat × Nat)) (bs ns : Nat) (m : List (Nat × Nat)) (f fa : Nat → List Int) : Prop where
  g : Wn w0 w F X wb d ec S k N
  J : Jb w jb d st sz seq place free bm op
  A : Mp w bm nd a
  M : Mp w bs ns m
  V : Vals w f m
  VA : Vals w fa a
  xj : X jb ∧ jb ≠ wb
  xa : X bm ∧ bm ≠ wb
  xm : X bs ∧ bs ≠ wb
  xv : ∀ p ∈ m, X p.2 ∧ p.2 ≠ wb
  xva : ∀ p ∈ a, X p.2 ∧ p.2 ≠ wb
theorem Cn.turn {w0 w w' : World} {F X Y : Nat → Prop} {wb d : Nat} {ec ec' : Int} {S S' : DevS} {k N N' : Nat} {jb st sz : Nat} {seq : Int} {place : Nat} {free : Int} {bm : Nat} {op : Option Nat} {nd : Nat} {a : List (Nat × Nat)} {bs ns : Nat} {m : List (Nat × Nat)} {f fa : Nat → List Int} (h : Cn w0 w F X wb d ec S k N jb st sz seq place free bm op nd a bs ns m f fa) (t : Turns Y w w') (hY : ∀ i, X i → i ≠ wb → ¬ Y i) (g' : Wn w0 w' F X wb d ec' S' k N') : Cn w0 w' F X wb d ec' S' k N' jb st sz seq place free bm op nd a bs ns m f fa :=
  ⟨g', (t.block jb (heap_lt h.J) (hY jb h.xj.1 h.xj.2)).trans h.J, h.A.turns t (hY bm h.xa.1 h.xa.2), h.M.turns t (hY bs h.xm.1 h.xm.2), h.V.turns t (fun p hp => hY p.2 (h.xv p hp).1 (h.xv p hp).2), h.VA.turns t (fun p hp => hY p.2 (h.xva p hp).1 (h.xva p hp).2), h.xj, h.xa, h.xm, h.xv, h.xva⟩
theorem Cn.below {w0 w w' : World} {F X : Nat → Prop} {wb d : Nat} {ec : Int} {S : DevS} {k N : Nat} {jb st sz : Nat} {seq : Int} {place : Nat} {free : Int} {bm : Nat} {op : Option Nat} {nd : Nat} {a : List (Nat × Nat)} {bs ns : Nat} {m : List (Nat × Nat)} {f fa : Nat → List Int} (h : Cn w0 w F X wb d ec S k N jb st sz seq place free bm op nd a bs ns m f fa) (b : Below w.heap.size w w') : Cn w0 w' F X wb d ec S k N jb st sz seq place free bm op nd a bs ns m f fa :=
  h.turn (Below.turns b (fun _ => False)) (fun _ _ _ q => q) (h.g.below b)
/-- New blocks are not the device's. -/
theorem Cn.add {w0 w w' : World} {F X : Nat → Prop} {wb d : Nat} {ec : Int} {S : DevS} {k N : Nat} {jb st sz : Nat} {seq : Int} {place : Nat} {free : Int} {bm : Nat} {op : Option Nat} {nd : Nat} {a : List (Nat × Nat)} {bs ns : Nat} {m : List (Nat × Nat)} {f fa : Nat → List Int} (h : Cn w0 w F X wb d ec S k N jb st sz seq place free bm op nd a bs ns m f fa) (b : Below w.heap.size w w') : Cn w0 w' F (fun i => X i ∨ (w.heap.size ≤ i ∧ i < w'.heap.size)) wb d ec S k N jb st sz seq place free bm op nd a bs ns m f fa := by
  have h' := h.below b
  exact ⟨h.g.add b, h'.J, h'.A, h'.M, h'.V, h'.VA, ⟨Or.inl h.xj.1, h.xj.2⟩, ⟨Or.inl h.xa.1, h.xa.2⟩, ⟨Or.inl h.xm.1, h.xm.2⟩, fun p hp => ⟨Or.inl (h.xv p hp).1, (h.xv p hp).2⟩, fun p hp => ⟨Or.inl (h.xva p hp).1, (h.xva p hp).2⟩⟩
theorem Cn.less {w0 w : World} {F X Y : Nat → Prop} {wb d : Nat} {ec : Int} {S : DevS} {k N : Nat} {jb st sz : Nat} {seq : Int} {place : Nat} {free : Int} {bm : Nat} {op : Option Nat} {nd : Nat} {a : List (Nat × Nat)} {bs ns : Nat} {m : List (Nat × Nat)} {f fa : Nat → List Int} (h : Cn w0 w F X wb d ec S k N jb st sz seq place free bm op nd a bs ns m f fa) (hY : ∀ i, Y i → X i) (hw : Y wb) (hj : Y jb) (ha : Y bm) (hm : Y bs) (hv : ∀ p ∈ m, Y p.2) (hva : ∀ p ∈ a, Y p.2) : Cn w0 w F Y wb d ec S k N jb st sz seq place free bm op nd a bs ns m f fa :=
  ⟨h.g.less hY hw, h.J, h.A, h.M, h.V, h.VA, ⟨hj, h.xj.2⟩, ⟨ha, h.xa.2⟩, ⟨hm, h.xm.2⟩, fun p hp => ⟨hv p hp, (h.xv p hp).2⟩, fun p hp => ⟨hva p hp, (h.xva p hp).2⟩⟩
/-- A block is written, or all is flushed. -/
theorem Cn.did {w0 w w' : World} {F X G : Nat → Prop} {wb d : Nat} {ec ec' : Int} {S S' : DevS} {k N N' : Nat} {jb st sz : Nat} {seq : Int} {place : Nat} {free : Int} {bm : Nat} {op : Option Nat} {nd : Nat} {a : List (Nat × Nat)} {bs ns : Nat} {m : List (Nat × Nat)} {f fa : Nat → List Int} (h : Cn w0 w F X wb d ec S k N jb st sz seq place free bm op nd a bs ns m f fa) (hG : ∀ i, G i → F i ∨ w0.heap.size ≤ i) (hX : ∀ i, X i → ¬ G i) (q : Did w w' wb d ec' S' k N' G) : Cn w0 w' F X wb d ec' S' k N' jb st sz seq place free bm op nd a bs ns m f fa :=
  h.turn (Did.tr q) (fun i hi hw r => r.elim (hX i hi) hw) (h.g.did hG hX q).1
/-- What stands behind a commit. -/
structure Cnd (w0 w : World) (F X : Nat → Prop) (wb d : Nat) (ec : Int) (S : DevS) (k N : Nat) (jb st sz : Nat) (seq : Int) (place : Nat) (free : Int) (bm : Nat) (op : Option Nat) (nd : Nat) (a : List (Nat × Nat)) (bs ns : Nat) (m : List (Nat × Nat)) (f fa : Nat → List Int) : Prop where
  wk : ∃ ev, ErrV ev ec ∧ Wk w wb d ev
  dv : ∃ G, Dev w d 0 S k N G ∧ (∀ i, G i → F i ∨ w0.heap.size ≤ i) ∧ ∀ i, X i → ¬ G i
  J : Jb w jb d st sz (seq + 1) ((place + m.length + 2) % (sz - 1) : Nat) (free - (m.length + 2)) bm op
  A : Mp w bm (nd + m.length) (mmerge a m)
  M : Mp w bs ns m
  V : Vals w f m
  VA : Vals w fa a
  tr : Turns (fun i => F i ∨ i = wb ∨ i = bm ∨ i = jb) w0 w
theorem Cn.pass {w0 w w' : World} {F X : Nat → Prop} {wb d : Nat} {ec : Int} {S : DevS} {k N : Nat} {jb st sz : Nat} {seq : Int} {place : Nat} {free : Int} {bm : Nat} {op : Option Nat} {nd : Nat} {a : List (Nat × Nat)} {bs ns : Nat} {m : List (Nat × Nat)} {f fa : Nat → List Int} (h : Cn w0 w F X wb d ec S k N jb st sz seq place free bm op nd a bs ns m f fa) (J : Jb w' jb d st sz (seq + 1) ((place + m.length + 2) % (sz - 1) : Nat) (free - (m.length + 2)) bm op) (A : Mp w' bm (nd + m.length) (mmerge a m)) (M : Mp w' bs ns m) (t : Turns (fun i => i = bm ∨ i = jb) w w') : Cnd w0 w' F X wb d ec S k N jb st sz seq place free bm op nd a bs ns m f fa := by
  obtain ⟨G, D, hG, hX⟩ := h.g.dv
  have nJ : ∀ (g : Nat) (bs : List Int), w.heap[g]? = some (bl bs) → ¬ (g = bm ∨ g = jb) := fun g bs hg e => by
    rcases e with rfl | rfl
    · exact mp_no_bl h.A hg
    · have := h.J; unfold Jb at this; rw [hg] at this; simp [bl] at this
  obtain ⟨ev, hev, hwk⟩ := h.g.wk
  refine ⟨⟨ev, hev, hwk.turns t (fun e => e.elim h.xa.2.symm h.xj.2.symm)⟩, ⟨G, D.turns t (fun i hi e => ?_), hG, hX⟩, J, A, M, h.V.turns t (fun p hp => nJ p.2 _ (h.V p hp).1), h.VA.turns t (fun p hp => nJ p.2 _ (h.VA p hp).1), (h.g.tr.mono (G := fun i => F i ∨ i = wb ∨ i = bm ∨ i = jb) (fun i _ e => e.imp id Or.inl)).trans t (fun i _ e => Or.inr (Or.inr e))⟩
  · rcases e with rfl | rfl
    · exact hX _ h.xa.1 hi
    · exact hX _ h.xj.1 hi
theorem Cn.cj {w0 w : World} {F X : Nat → Prop} {wb d : Nat} {ec : Int} {S : DevS} {k N : Nat} {jb st sz : Nat} {seq : Int} {place : Nat} {free : Int} {bm : Nat} {op : Option Nat} {nd : Nat} {a : List (Nat × Nat)} {bs ns : Nat} {m : List (Nat × Nat)} {f fa : Nat → List Int} (h : Cn w0 w F X wb d ec S k N jb st sz seq place free bm op nd a bs ns m f fa) : Cj w0 w F X wb d ec S k N jb st sz seq place free bm op nd a fa := ⟨h.g, h.J, h.A, h.VA, h.xj, h.xa, h.xva⟩
theorem Cm.any {w0 w : World} {F X : Nat → Prop} {wb d : Nat} {S : DevS} {k N : Nat} {jb st sz : Nat} {seq : Int} {place : Nat} {free : Int} {bm : Nat} {op : Option Nat} {nd : Nat} {a : List (Nat × Nat)} {bs ns : Nat} {m : List (Nat × Nat)} {f fa : Nat → List Int} (h : Cm w0 w F X wb d S k N jb st sz seq place free bm op nd a bs ns m f fa) : Cn w0 w F X wb d 0 S k N jb st sz seq place free bm op nd a bs ns m f fa := ⟨h.g.any, h.J, h.A, h.M, h.V, h.VA, h.xj, h.xa, h.xm, h.xv, h.xva⟩
/-- Behind a checkpoint. -/
theorem Cn.ck {w0 w w' : World} {F X : Nat → Prop} {wb d : Nat} {ec ec' : Int} {S S' : DevS} {k N N' : Nat} {jb st sz : Nat} {seq : Int} {place : Nat} {free free' : Int} {bm bm' : Nat} {op : Option Nat} {nd : Nat} {a : List (Nat × Nat)} {bs ns : Nat} {m : List (Nat × Nat)} {f fa : Nat → List Int} (h : Cn w0 w F X wb d ec S k N jb st sz seq place free bm op nd a bs ns m f fa) (hj : jb ≠ bs) (c : Cj w0 w' (fun i => F i ∨ i = jb) (fun i => X i ∨ i = bm') wb d ec' S' k N' jb st sz seq place free' bm' op 0 [] (fun _ => [])) (t : Save X wb jb w w') : Cn w0 w' (fun i => F i ∨ i = jb) (fun i => X i ∨ i = bm') wb d ec' S' k N' jb st sz seq place free' bm' op 0 [] bs ns m f (fun _ => []) := by
  have nJ : ∀ p ∈ m, p.2 ≠ jb := fun p hp e => by
    have h1 := (h.V p hp).1
    have h2 := h.J
    unfold Jb at h2
    rw [e, h2] at h1
    simp [bl] at h1
  exact ⟨c.g, c.J, c.A, h.M.turns t (fun r => (r h.xm.1).elim h.xm.2 (fun e => hj e.symm)), h.V.turns t (fun p hp r => (r (h.xv p hp).1).elim (h.xv p hp).2 (nJ p hp)), c.VA, c.xj, c.xa, ⟨Or.inl h.xm.1, h.xm.2⟩, fun p hp => ⟨Or.inl (h.xv p hp).1, (h.xv p hp).2⟩, (fun p hp => by cases hp)⟩
/-- One block of the log. -/
def putP (k : Nat) (p : Int × DevS) (st sz place i : Nat) (bs : List Int) : Int × DevS := pW k p (st + 1 + (place + i) % (sz - 1)) bs
/-- The descriptor and the first i blocks. -/
def hidP (k : Nat) (p : Int × DevS) (st sz place : Nat) (seq : Int) (f : Nat → List Int) (m : List (Nat × Nat)) : Nat → Int × DevS
  | 0 => putP k p st sz place 0 (desB seq (lnsOf f m))
  | i + 1 => putP k (hidP k p st sz place seq f m i) st sz place (i + 1) (hidB (f ((m.map (·.1)).getD i 0)) (flagN (f ((m.map (·.1)).getD i 0))))
/-- A commit. -/
def comP (k : Nat) (p : Int × DevS) (st sz place : Nat) (seq : Int) (f : Nat → List Int) (m : List (Nat × Nat)) : Int × DevS := pF (putP k (pF (hidP k p st sz place seq f m m.length)) st sz place (m.length + 1) (comB seq))
end Go.Proofs.YtlcjkbhcbiggcaaGreatDoor

/- commit by its contract, where there is room, whatever it meets. -/
namespace Go.Proofs.YtlcjkbhcbiggcaaGreatDoor
open Go.RowKit Go.Maps
set_option maxRecDepth 100000

set_option maxHeartbeats 8000000 in
theorem commit_room {w0 w : World} {F X : Nat → Prop} {wb d : Nat} {ec : Int} {S : DevS} {k N : Nat} {jb st sz nd ns bs : Nat} {seq free : Int} {place bm : Nat} {op : Option Nat} {a m : List (Nat × Nat)} {f fa : Nat → List Int} (h : Cn w0 w F X wb d ec S k N jb st sz seq place free bm op nd a bs ns m f fa) (hl1 : 1 ≤ m.length) (hl : m.length ≤ 24) (ha : Low a) (hm : Low m) (hf : (m.length : Int) + 2 ≤ free) (hf2 : free ≤ 10000)
    (h1 : 27 ≤ sz) (h2 : st + sz ≤ k) (hk : k ≤ 4096) (hN : N ≤ 1000000000) (hp : place ≤ 4096) (hs : 0 ≤ seq ∧ seq ≤ 4611686018427387905) (hnd : nd ≤ 100000) (hne : bm ≠ bs) (hj1 : jb ≠ bm) (hj2 : jb ≠ bs) :
    Calls Tryz.prog 149 #[.pointer (some ⟨jb, 0, none⟩), .map (some bs), .pointer (some ⟨wb, 0, none⟩)] w fun e w' => e = .returned (.tuple #[]) ∧ Cnd w0 w' F X wb d (comP k (ec, S) st sz place seq f m).1 (comP k (ec, S) st sz place seq f m).2 k (N + m.length + 2) jb st sz seq place free bm op nd a bs ns m f fa := by
  obtain ⟨i0, hi0, hz0, hz1, hz2⟩ := info_parts Tryz.infoLine
  obtain ⟨c0, c1, c2, c3, c4, c5, c6, c7, c8, fz⟩ := h.J.cells
  have hsz : (Maps.size (mD m) : Int) = (m.length : Int) := by simp [mD, Maps.size_eq]
  have hlnd : ∀ (ty : TypeId), (Builtin.len_ #[96] ty #[.map (some bs)]).run Tryz.prog w.drew = .ok (.int .i64 m.length) w.drew := fun ty => by
    have := (map_turns h.M.own (Turns.drewN (fun _ => False) w 1) id).len Tryz.underlying96 ty
    rwa [hsz] at this
  have hw1 : IntKind.i64.wrap ((m.length : Int) + 2) = m.length + 2 := Go.IntWalk.i64_in _ ⟨by omega, by omega⟩
  have hnf : ¬ free < (m.length : Int) + 2 := by omega
  go_enter Tryz.func149, Tryz.ntmps149
  go_wp2_with fail
  go_region_held3 (fun w' => w'.cell? ⟨jb, 5, none⟩ = some (.int .i64 free) ∧ ∀ (ty : TypeId), (Builtin.len_ #[96] ty #[.map (some bs)]).run Tryz.prog w' = .ok (.int .i64 m.length) w')
    (first | exact ⟨c5, hlnd⟩)
    (fail)
  clear hlnd c0 c1 c2 c3 c4 c5 c6 c7 c8 fz
  have hD : Below w.heap.size w w.drew := ⟨rfl, rfl, rfl, Nat.le_refl _, fun _ _ => rfl⟩
  go_wp2_with fail
  refine (rising_any (h.below hD).M (by omega)).mono ?_
  rintro e w1 ⟨g1, q1, rfl, O1, b1⟩
  replace b1 := hD.trans b1
  have C1x : X wb ∧ X jb ∧ X bm ∧ X bs ∧ (∀ p ∈ m, X p.2) ∧ (∀ p ∈ a, X p.2) := ⟨h.g.xw, h.xj.1, h.xa.1, h.xm.1, fun p hp => (h.xv p hp).1, fun p hp => (h.xva p hp).1⟩
  have C1 := h.below b1
  obtain ⟨L, hL⟩ : ∃ L, m.length = L := ⟨_, rfl⟩
  have HL : Hid (m.length = L) := hL
  have hLi : (L : Int) ≤ 24 := by omega
  rw [hL] at O1 hl hl1 hf ⊢
  clear hL hw1 hnf hsz
  go_wp2_with fail
  go_loopw [6, 25] (fun v i wr => ∃ p : Nat, p ≤ L ∧ i = .int .i64 p ∧ wr.ownsRow w1.heap.size 250 2 v p (lnC (lnsOf f (m.take p))) ∧ Below w1.heap.size w1 wr) (fun _ i _ => L - (intOf i).toNat)
  case atStart => exact ⟨0, Nat.zero_le _, rfl, ⟨rfl, Or.inl ⟨rfl, rfl⟩⟩, Below.refl _ _⟩
  case round =>
    obtain ⟨p, hpL, rfl, hrow, hbw⟩ := hrel
    have Cr := C1.below hbw
    obtain ⟨la, lc, rfl⟩ := row_slice hrow
    by_cases hlt : p < L
    · have hpi : (p : Int) < L := by omega
      have hpm : p < m.length := by rw [HL.out]; exact hlt
      have x1 : wr.cell? ⟨g1, p, none⟩ = some (.int .i64 (m[p].1 : Nat)) := by
        have hO := own_on O1 hbw
        rcases hO.2 with ⟨q, _⟩ | ⟨g, cap, cur, q, _, hh, _, _, _, ht⟩
        · cases q
        · cases q
          have e : (m.map fun p => Value.int .i64 (p.1 : Int))[p]? = some (.int .i64 (m[p].1 : Nat)) := by simp [hpm]
          rw [← ht, List.getElem?_take] at e
          simp only [World.cell?, hh]
          rw [← Array.getElem?_toList]
          split at e
          · exact e
          · cases e
      have hlu := Cr.M.at hm p hpm
      have hV := Cr.V m[p] (List.getElem_mem hpm)
      have hsn := lnsOf_take f m p hpm
      obtain ⟨⟨b, g⟩, hbg⟩ : ∃ bg, m[p] = bg := ⟨_, rfl⟩
      have hlow := hm m[p] (List.getElem_mem hpm)
      rw [hbg] at x1 hlu hV hsn hlow
      simp only at x1 hlu hV hsn hlow
      have HSN : Hid (lnsOf f (m.take (p + 1)) = lnsOf f (m.take p) ++ [(b, flagN (f b))]) := hsn
      clear hbg hsn
      have hsw := hbw.size
      go_wp2_with (first
        | (go_at_call 201; refine (flagOf_any g _ _ hV.1 hV.2.1 hV.2.2).mono ?_; rintro e wn ⟨rfl, hwn⟩; subst wn)
        | (at_builtin; refine wpList_append_own _ rfl _ _ 248 rfl w1.heap.size 250 i0 (.agg #[.int .i64 0, .int .i64 0]) 2 16 Tryz.underlying248 hi0 hz0 hz1 hz2 rfl (by decide) _ _ _ rfl (hrow.alloc _) ⟨wr.heap.size, 0, none⟩ 1 1 [.int .i64 (b : Nat), .int .i64 (flagN (f b) : Nat)] rfl rfl (cell_two_new _ _ _ _) (by intro u hu; simp at hu; rcases hu with rfl | rfl <;> rfl) (by unfold maxLen; omega) (by omega) (by simp; omega) ?_; intro v' w3 hown3 hgrow3 hnil3))
      have hbw3 : Below w1.heap.size w1 w3 := (hbw.alloc hsw _).grown hgrow3 (by simp; omega) (fun b hb => (hrow.lt b hb).1)
      rw [← lnC_snoc _ (b, flagN (f b)), ← HSN.out] at hown3
      go_roundw
      case rel => exact ⟨p + 1, by omega, by go_num, hown3, hbw3⟩
      case measure => simp [intOf]; omega
    · have hpi : ¬ (p : Int) < L := by omega
      obtain rfl : p = L := by omega
      have hR : Lns wr (.slice la p lc) (lnsOf f m) := by
        refine ⟨?_⟩
        have e : m.take p = m := List.take_of_length_le (by rw [HL.out]; exact Nat.le_refl _)
        rw [e] at hrow
        rw [lnsOf_len, HL.out]
        exact own_zero hrow
      have hlnl : (lnsOf f m).length ≤ 24 := by rw [lnsOf_len, HL.out]; exact hl
      have hlns : ∀ p ∈ lnsOf f m, p.1 ≤ 4096 ∧ p.2 ≤ 2 := fun q hq => by
        obtain ⟨r, hr, rfl⟩ := List.mem_map.1 hq
        exact ⟨Nat.le_of_lt (hm r hr), flagN_le _⟩
      obtain ⟨gl, rfl, hgl⟩ : ∃ gl, la = some ⟨gl, 0, none⟩ ∧ w1.heap.size ≤ gl ∧ gl < wr.heap.size := by
        rcases hrow.2 with ⟨_, q⟩ | ⟨g, cap, cur, q, q2, hh, _⟩
        · omega
        · cases q; exact ⟨g, rfl, q2, heap_lt hh⟩
      have CY := (C1.add hbw).less (Y := fun i => X i ∨ i = gl) (fun i hi => hi.imp id (fun e => by subst e; exact hgl)) (Or.inl C1.g.xw) (Or.inl C1.xj.1) (Or.inl C1.xa.1) (Or.inl C1.xm.1) (fun p hp => Or.inl (C1.xv p hp).1) (fun p hp => Or.inl (C1.xva p hp).1)
      have hglw : gl ≠ wb := by have := C1.g.xl wb C1.g.xw; omega
      clear hrow O1 C1 b1 h Cr hgl
      have Cd := CY.below (w' := wr.drew) ⟨rfl, rfl, rfl, Nat.le_refl _, fun _ _ => rfl⟩
      have v3 := Cd.J.cells.c3
      have hRd : Lns wr.drew (.slice (some ⟨gl, 0, none⟩) p lc) (lnsOf f m) := hR.below ⟨rfl, rfl, rfl, Nat.le_refl _, fun _ _ => rfl⟩
      clear hR
      go_wp2_with fail
      go_region_held3 (fun w' => w'.cell? ⟨jb, 3, none⟩ = some (.int .i64 seq))
        (first | exact v3 | exact v4 | exact v5 | exact v6)
        (first
          | (go_at_call 202; refine (jat_any Cd.J (by omega) (by omega) 0 hp (by omega)).mono ?_; rintro e w4 ⟨rfl, b4⟩; have C4 := Cd.below b4; have v4 := C4.J.cells.c3)
          | (go_at_call 203; refine (descriptorBlock_any seq _ (lnsOf f m) w4 (hRd.below b4) hlnl hlns).mono ?_; rintro e w5 ⟨g5, rfl, l5, k5, b5⟩; have C5 := C4.add b5; have v5 := C5.J.cells.c3; obtain ⟨G5, D5, hG5, hX5⟩ := C5.g.dv; obtain ⟨ev5, hE5, hk5⟩ := C5.g.wk)
          | (go_at_call 70; refine (wkwrite_any D5 hk5 hE5 (hX5 wb C5.g.xw) ((st + 1 + (place + 0) % (sz - 1)) : Nat) (some ⟨g5, 0, none⟩) 512 512 _ (Lies.full k5 (desB_len seq _ hlnl)) (desB_by seq _) (fun ad e => by cases e; exact hX5 g5 (Or.inr ⟨l5, heap_lt k5⟩)) (by omega)).mono ?_; rintro e w6 ⟨rfl, q6⟩; have C6 := C5.did hG5 hX5 q6; have v6 := C6.J.cells.c3))
      have C7 := C6.less (Y := fun i => X i ∨ i = gl) (fun i hi => Or.inl hi) Cd.g.xw Cd.xj.1 Cd.xa.1 Cd.xm.1 (fun p hp => (Cd.xv p hp).1) (fun p hp => (Cd.xva p hp).1)
      have hR6 : Lns w6 (.slice (some ⟨gl, 0, none⟩) p lc) (lnsOf f m) := (hRd.below (b4.trans (b5.mono b4.size))).turns (Did.tr q6) (fun b hb r => by cases hb; exact r.elim (hX5 gl (Or.inl (Or.inr rfl))) hglw)
      have C8 : Cn w0 w6 F (fun i => X i ∨ i = gl) wb d (hidP k (ec, S) st sz place seq f m 0).1 (hidP k (ec, S) st sz place seq f m 0).2 k (N + 1) jb st sz seq place free bm op nd a bs ns m f fa := C7
      clear C7 C6 C5 C4 Cd CY q6 D5 hG5 hX5 hE5 hk5 hRd v3 v4 v5 v6 b4 b5 k5 l5
      go_wp2_with fail
      go_loopw [51] (fun i wr => ∃ t : Nat, t ≤ p ∧ i = .int .i64 t ∧ Cn w0 wr F (fun i => X i ∨ i = gl) wb d (hidP k (ec, S) st sz place seq f m t).1 (hidP k (ec, S) st sz place seq f m t).2 k (N + 1 + t) jb st sz seq place free bm op nd a bs ns m f fa ∧ Lns wr (.slice (some ⟨gl, 0, none⟩) p lc) (lnsOf f m)) (fun i _ => p - (intOf i).toNat)
      case atStart => exact ⟨0, Nat.zero_le _, rfl, C8, hR6⟩
      case round =>
        clear C8 hR6
        obtain ⟨t, htp, rfl, hC, hR⟩ := hrel
        obtain ⟨w7, hw7⟩ : ∃ w7, w7 = wr := ⟨wr, rfl⟩
        subst hw7
        by_cases hlt : t < p
        · have hti : (t : Int) < p := by omega
          have htm : t < m.length := by rw [HL.out]; exact hlt
          have hgt : (lnsOf f m)[t]? = some (m[t].1, flagN (f m[t].1)) := by simp [lnsOf, htm]
          obtain ⟨gl', lc', hgl', x0, x1⟩ := hR.get hgt
          have hge : gl' = gl := by
            injection hgl' with e1 _ _
            injection e1 with e1
            injection e1 with e1
            exact e1.symm
          rw [hge] at x0 x1
          clear hgl' hge
          have hgd : (m.map (·.1)).getD t 0 = m[t].1 := by simp [htm]
          have HS1 : Hid (hidP k (ec, S) st sz place seq f m (t + 1) = pW k (hidP k (ec, S) st sz place seq f m t) (st + 1 + (place + (t + 1)) % (sz - 1)) (hidB (f m[t].1) (flagN (f m[t].1)))) := by
            show putP _ _ _ _ _ _ _ = _
            rw [hgd]
            rfl
          generalize hidP k (ec, S) st sz place seq f m t = Z at *
          obtain ⟨W, hW⟩ : ∃ W, w7.alloc (.cells #[.int .i64 (m[t].1 : Nat), .int .i64 (flagN (f m[t].1) : Nat)] 250) = W := ⟨_, rfl⟩
          have bW : Below w7.heap.size w7 W := by rw [← hW]; exact (Below.refl _ w7).alloc (Nat.le_refl _) _
          have sW : W.heap.size = w7.heap.size + 1 := by rw [← hW]; simp
          have hbx : W.heap[w7.heap.size]? = some (.cells #[.int .i64 (m[t].1 : Nat), .int .i64 (flagN (f m[t].1) : Nat)] 250) := by rw [← hW]; exact (MapKept.heap_alloc w7 _).1
          have dW : Below W.heap.size W W.drew := ⟨rfl, rfl, rfl, Nat.le_refl _, fun _ _ => rfl⟩
          have CW := (hC.add bW).below dW
          have hlu := CW.M.at hm t htm
          have hV := CW.V m[t] (List.getElem_mem htm)
          obtain ⟨⟨b, g⟩, hbg⟩ : ∃ bg, m[t] = bg := ⟨_, rfl⟩
          have HLK : Hid (∀ w', Mp w' bs ns m → (Instr.lookup 96 (.map (some bs)) (.int .i64 (b : Nat)) false).run Tryz.prog w' = .ok (hv g) w') := fun w' h' => by
            have := h'.at hm t htm
            rwa [hbg] at this
          rw [hbg] at x0 x1 hlu hV hbx hW HS1
          simp only at x0 x1 hlu hV hbx hW
          clear hgt hgd hbg
          obtain ⟨q, hq⟩ : ∃ q, w7.heap.size = q := ⟨_, rfl⟩
          rw [hq] at hbx
          have hbc : ∀ w', w'.heap[q]? = some (.cells #[.int .i64 (b : Nat), .int .i64 (flagN (f b) : Nat)] 250) → Mp w' bs ns m → (w'.cell? ⟨q, 0, none⟩ = some (.int .i64 (b : Nat)) ∧ w'.cell? ⟨q, 1, none⟩ = some (.int .i64 (flagN (f b) : Nat)) ∧ (Instr.lookup 96 (.map (some bs)) (.int .i64 (b : Nat)) false).run Tryz.prog w' = .ok (hv g) w') := fun w' h1 h2 => ⟨by simp [World.cell?, h1], by simp [World.cell?, h1], HLK.out w' h2⟩
          have hqw : q ≠ wb := by have := hC.g.xl wb hC.g.xw; omega
          have k0 := hbc W.drew hbx CW.M
          go_wp2_with fail
          try rw [hW]
          try rw [hq]
          go_region_held3 (fun w' => w'.cell? ⟨q, 0, none⟩ = some (.int .i64 (b : Nat)) ∧ w'.cell? ⟨q, 1, none⟩ = some (.int .i64 (flagN (f b) : Nat)) ∧ (Instr.lookup 96 (.map (some bs)) (.int .i64 (b : Nat)) false).run Tryz.prog w' = .ok (hv g) w')
            (first | exact k0 | exact k4 | exact k5 | exact k6)
            (first
              | (go_at_call 202; refine (jat_succ CW.J (by omega) (by omega) t hp (by omega)).mono ?_; rintro e w4 ⟨rfl, b4⟩; have C4 := CW.below b4; have hbx4 := (b4.block q (heap_lt hbx)).trans hbx; have k4 := hbc w4 hbx4 C4.M)
              | (go_at_call 204; refine (hidden_any g (f b) (flagN (f b)) w4 ((b4.block g (heap_lt hV.1)).trans hV.1) hV.2.1 (flagN_le _)).mono ?_; rintro e w5 ⟨g5, rfl, l5, k5b, b5⟩; have C5 := C4.add b5; have hbx5 := (b5.block q (heap_lt hbx4)).trans hbx4; have k5 := hbc w5 hbx5 C5.M; obtain ⟨G5, D5, hG5, hX5⟩ := C5.g.dv; obtain ⟨ev5, hE5, hk5⟩ := C5.g.wk)
              | (go_at_call 70; refine (wkwrite_any D5 hk5 hE5 (hX5 wb C5.g.xw) ((st + 1 + (place + (t + 1)) % (sz - 1)) : Nat) (some ⟨g5, 0, none⟩) 512 512 _ (Lies.full k5b (hidB_len hV.2.1 _)) (hidB_by hV.2.2 _) (fun ad e => by cases e; exact hX5 g5 (Or.inr ⟨l5, heap_lt k5b⟩)) (by omega)).mono ?_; rintro e w6 ⟨rfl, q6⟩; have C6 := C5.did hG5 hX5 q6; have hbx6 := ((Did.tr q6).block q (heap_lt hbx5) (fun r => r.elim (hX5 q (Or.inl (Or.inr (by omega)))) hqw)).trans hbx5; have k6 := hbc w6 hbx6 C6.M))
          all_goals
            have C7 := C6.less (Y := fun i => X i ∨ i = gl) (fun i hi => Or.inl (Or.inl hi)) hC.g.xw hC.xj.1 hC.xa.1 hC.xm.1 (fun p hp => (hC.xv p hp).1) (fun p hp => (hC.xva p hp).1)
            have hR6 : Lns w6 (.slice (some ⟨gl, 0, none⟩) p lc) (lnsOf f m) := ((((hR.below bW).below dW).below b4).below b5).turns (Did.tr q6) (fun b hb r => by cases hb; exact r.elim (hX5 gl (Or.inl (Or.inl (Or.inr rfl)))) hglw)
            have C7' : Cn w0 w6 F (fun i => X i ∨ i = gl) wb d (hidP k (ec, S) st sz place seq f m (t + 1)).1 (hidP k (ec, S) st sz place seq f m (t + 1)).2 k (N + 1 + (t + 1)) jb st sz seq place free bm op nd a bs ns m f fa := by
              rw [HS1.out]
              exact C7
            clear C7 C6 C5 C4 CW q6 D5 hG5 hX5 hE5 hk5 hR hC k0 k4 k5 k6 b4 b5 k5b l5 hbx hbx4 hbx5 hbx6 hV x0 x1 hlu hbc bW dW hW sW
            go_wp2_with fail
            go_roundw
            case rel => exact ⟨t + 1, by omega, by go_num, C7', hR6⟩
            case measure => simp [intOf]; omega
        · have hti : ¬ (t : Int) < p := by omega
          obtain rfl : t = p := by omega
          have HSF : Hid (comP k (ec, S) st sz place seq f m = pF (pW k (pF (hidP k (ec, S) st sz place seq f m t)) (st + 1 + (place + (t + 1)) % (sz - 1)) (comB seq))) := by
            show comP k (ec, S) st sz place seq f m = _
            unfold comP
            rw [HL.out]
            rfl
          generalize hidP k (ec, S) st sz place seq f m t = Z at *
          have hCX := hC.less (Y := X) (fun i hi => Or.inl hi) C1x.1 C1x.2.1 C1x.2.2.1 C1x.2.2.2.1 C1x.2.2.2.2.1 C1x.2.2.2.2.2
          clear hC hR
          obtain ⟨G, D, hG, hX⟩ := hCX.g.dv
          obtain ⟨ev, hE, hk9⟩ := hCX.g.wk
          go_wp2_with fail
          refine (wkflush_any D hk9 hE (hX wb hCX.g.xw) (by omega)).mono ?_
          rintro e w8 ⟨rfl, q8⟩
          have C8 : Cn w0 w8 F X wb d (pF Z).1 (pF Z).2 k (N + 1 + t) jb st sz seq place free bm op nd a bs ns m f fa := hCX.did hG hX q8
          clear hCX q8 D hX hG hE hk9 G
          generalize pF Z = Z8 at *
          have Cd := C8.below (w' := w8.drew) ⟨rfl, rfl, rfl, Nat.le_refl _, fun _ _ => rfl⟩
          have v3 := Cd.J.cells.c3
          go_wp2_with fail
          go_region_held3 (fun w' => w'.cell? ⟨jb, 3, none⟩ = some (.int .i64 seq))
            (first | exact v3 | exact v4 | exact v5 | exact v6)
            (first
              | (go_at_call 202; refine (jat_succ Cd.J (by omega) (by omega) t hp (by omega)).mono ?_; rintro e w4 ⟨rfl, b4⟩; have C4 := Cd.below b4; have v4 := C4.J.cells.c3)
              | (go_at_call 205; refine (commitBlock_any seq w4).mono ?_; rintro e w5 ⟨g5, rfl, l5, k5, b5⟩; have C5 := C4.add b5; have v5 := C5.J.cells.c3; obtain ⟨G5, D5, hG5, hX5⟩ := C5.g.dv; obtain ⟨ev5, hE5, hk5⟩ := C5.g.wk)
              | (go_at_call 70; refine (wkwrite_any D5 hk5 hE5 (hX5 wb C5.g.xw) ((st + 1 + (place + (t + 1)) % (sz - 1)) : Nat) (some ⟨g5, 0, none⟩) 512 512 _ (Lies.full k5 (comB_len seq)) (comB_by seq) (fun ad e => by cases e; exact hX5 g5 (Or.inr ⟨l5, heap_lt k5⟩)) (by omega)).mono ?_; rintro e w6 ⟨rfl, q6⟩; have C6 := C5.did hG5 hX5 q6; have v6 := C6.J.cells.c3))
          have C9 : Cn w0 w6 F X wb d (pW k Z8 (st + 1 + (place + (t + 1)) % (sz - 1)) (comB seq)).1 (pW k Z8 (st + 1 + (place + (t + 1)) % (sz - 1)) (comB seq)).2 k (N + 1 + t + 1) jb st sz seq place free bm op nd a bs ns m f fa := C6.less (Y := X) (fun i hi => Or.inl hi) C1x.1 C1x.2.1 C1x.2.2.1 C1x.2.2.2.1 C1x.2.2.2.2.1 C1x.2.2.2.2.2
          clear C6 C5 C4 Cd C8 q6 D5 hG5 hX5 hE5 hk5 v3 v4 v5 v6 b4 b5 k5 l5
          generalize pW k Z8 (st + 1 + (place + (t + 1)) % (sz - 1)) (comB seq) = Z9 at *
          obtain ⟨G, D, hG, hX⟩ := C9.g.dv
          obtain ⟨ev, hE, hk9⟩ := C9.g.wk
          go_wp2_with fail
          refine (wkflush_any D hk9 hE (hX wb C9.g.xw) (by omega)).mono ?_
          rintro e wA ⟨rfl, qA⟩
          have CA : Cn w0 wA F X wb d (comP k (ec, S) st sz place seq f m).1 (comP k (ec, S) st sz place seq f m).2 k (N + 1 + t + 1) jb st sz seq place free bm op nd a bs ns m f fa := by
            rw [HSF.out]
            exact C9.did hG hX qA
          clear C9 qA D hX hG hE hk9 G
          go_wp2_with fail
          refine (pass_ok CA.J CA.A CA.M hne ha hm (by rw [HL.out]; omega) hj1 hj2 (by omega) hp hs (by omega) (by rw [HL.out]; omega)).mono ?_
          rintro e wB ⟨rfl, JB, AB, MB, tB⟩
          have CB := CA.pass JB AB MB tB
          go_wp2
          first | go_end0 | refine bodyPost_ret (results_none rfl _ _ _) rfl ?_
          refine ⟨rfl, ?_⟩
          rw [HL.out, show N + t + 2 = N + 1 + t + 1 by omega]
          exact CB
end Go.Proofs.YtlcjkbhcbiggcaaGreatDoor

/- commit by its contract, where a checkpoint comes first, whatever it meets. -/
namespace Go.Proofs.YtlcjkbhcbiggcaaGreatDoor
open Go.RowKit Go.Maps
set_option maxRecDepth 100000

set_option maxHeartbeats 8000000 in
theorem commit_full {w0 w : World} {F X : Nat → Prop} {wb d : Nat} {ec : Int} {S : DevS} {k N : Nat} {jb st sz nd ns bs : Nat} {seq free : Int} {place bm : Nat} {op : Option Nat} {a m : List (Nat × Nat)} {f fa : Nat → List Int} (h : Cn w0 w F X wb d ec S k N jb st sz seq place free bm op nd a bs ns m f fa) (hl1 : 1 ≤ m.length) (hl : m.length ≤ 24) (ha9 : Low a) (hm : Low m) (hf : free < (m.length : Int) + 2) (ha0 : 0 < a.length) (hal : a.length ≤ 4096)
    (h1 : 27 ≤ sz) (h2 : st + sz ≤ k) (hk : k ≤ 4096) (hN : N ≤ 1000000000) (hp : place ≤ 4096) (hs : 0 ≤ seq ∧ seq ≤ 4611686018427387905) (hj2 : jb ≠ bs) :
    Calls Tryz.prog 149 #[.pointer (some ⟨jb, 0, none⟩), .map (some bs), .pointer (some ⟨wb, 0, none⟩)] w fun e w' => e = .returned (.tuple #[]) ∧ ∃ bm9, w.heap.size ≤ bm9 ∧ Cnd w0 w' (fun i => F i ∨ i = jb) (fun i => X i ∨ i = bm9) wb d (comP k (ckP k (ec, S) fa a st seq place) st sz place seq f m).1 (comP k (ckP k (ec, S) fa a st seq place) st sz place seq f m).2 k (N + a.length + 1 + m.length + 2) jb st sz seq place (sz - 1) bm9 op 0 [] bs ns m f (fun _ => []) := by
  obtain ⟨i0, hi0, hz0, hz1, hz2⟩ := info_parts Tryz.infoLine
  obtain ⟨c0, c1, c2, c3, c4, c5, c6, c7, c8, fz⟩ := h.J.cells
  have hsz : (Maps.size (mD m) : Int) = (m.length : Int) := by simp [mD, Maps.size_eq]
  have hlnd : ∀ (ty : TypeId), (Builtin.len_ #[96] ty #[.map (some bs)]).run Tryz.prog w.drew = .ok (.int .i64 m.length) w.drew := fun ty => by
    have := (map_turns h.M.own (Turns.drewN (fun _ => False) w 1) id).len Tryz.underlying96 ty
    rwa [hsz] at this
  have hw1 : IntKind.i64.wrap ((m.length : Int) + 2) = m.length + 2 := Go.IntWalk.i64_in _ ⟨by omega, by omega⟩
  have hnf : free < (m.length : Int) + 2 := by omega
  go_enter Tryz.func149, Tryz.ntmps149
  go_wp2_with fail
  go_region_held3 (fun w' => w'.cell? ⟨jb, 5, none⟩ = some (.int .i64 free) ∧ ∀ (ty : TypeId), (Builtin.len_ #[96] ty #[.map (some bs)]).run Tryz.prog w' = .ok (.int .i64 m.length) w')
    (first | exact ⟨c5, hlnd⟩)
    (fail)
  clear hlnd c0 c1 c2 c3 c4 c5 c6 c7 c8 fz
  have hD : Below w.heap.size w w.drew := ⟨rfl, rfl, rfl, Nat.le_refl _, fun _ _ => rfl⟩
  go_wp2_with fail
  refine (checkpoint_any (h.below hD).cj ha0 ha9 hal (by omega) (by omega)).mono ?_
  rintro e wK ⟨rfl, bm9, lbm, CK, tK⟩
  have h9 := (h.below hD).ck hj2 CK tK
  have lb9 : w.heap.size ≤ bm9 := lbm
  have lj9 := h.g.xl jb h.xj.1
  have ls9 := h.g.xl bs h.xm.1
  have hne : bm9 ≠ bs := by omega
  have hj1 : jb ≠ bm9 := by omega
  have ha : Low ([] : List (Nat × Nat)) := fun p hp => by cases hp
  clear h CK tK hnf lj9 ls9
  obtain ⟨pK, hpK⟩ : ∃ p, ckP k (ec, S) fa a st seq place = p := ⟨_, rfl⟩
  obtain ⟨N9, hN9⟩ : ∃ N9, N + a.length + 1 = N9 := ⟨_, rfl⟩
  have HPK : Hid (ckP k (ec, S) fa a st seq place = pK) := hpK
  have HN9 : Hid (N + a.length + 1 = N9) := hN9
  rw [hpK, hN9] at h9
  clear hpK
  obtain ⟨F9, hF9⟩ : ∃ F9 : Nat → Prop, F9 = fun i => F i ∨ i = jb := ⟨_, rfl⟩
  obtain ⟨X9, hX9⟩ : ∃ X9 : Nat → Prop, X9 = fun i => X i ∨ i = bm9 := ⟨_, rfl⟩
  have HFX : Hid ((fun i => F i ∨ i = jb) = F9 ∧ (fun i => X i ∨ i = bm9) = X9) := ⟨hF9.symm, hX9.symm⟩
  rw [← hF9, ← hX9] at h9
  clear hF9 hX9
  go_wp2_with fail
  refine (rising_any h9.M (by omega)).mono ?_
  rintro e w1 ⟨g1, q1, rfl, O1, b1⟩
  have C1x : X9 wb ∧ X9 jb ∧ X9 bm9 ∧ X9 bs ∧ (∀ p ∈ m, X9 p.2) ∧ (∀ p ∈ ([] : List (Nat × Nat)), X9 p.2) := ⟨h9.g.xw, h9.xj.1, h9.xa.1, h9.xm.1, fun p hp => (h9.xv p hp).1, fun p hp => (h9.xva p hp).1⟩
  have C1 := h9.below b1
  obtain ⟨L, hL⟩ : ∃ L, m.length = L := ⟨_, rfl⟩
  have HL : Hid (m.length = L) := hL
  have hLi : (L : Int) ≤ 24 := by omega
  rw [hL] at O1 hl hl1 hf ⊢
  clear hL hw1 hsz
  go_wp2_with fail
  go_loopw [6, 25] (fun v i wr => ∃ p : Nat, p ≤ L ∧ i = .int .i64 p ∧ wr.ownsRow w1.heap.size 250 2 v p (lnC (lnsOf f (m.take p))) ∧ Below w1.heap.size w1 wr) (fun _ i _ => L - (intOf i).toNat)
  case atStart => exact ⟨0, Nat.zero_le _, rfl, ⟨rfl, Or.inl ⟨rfl, rfl⟩⟩, Below.refl _ _⟩
  case round =>
    obtain ⟨p, hpL, rfl, hrow, hbw⟩ := hrel
    have Cr := C1.below hbw
    obtain ⟨la, lc, rfl⟩ := row_slice hrow
    by_cases hlt : p < L
    · have hpi : (p : Int) < L := by omega
      have hpm : p < m.length := by rw [HL.out]; exact hlt
      have x1 : wr.cell? ⟨g1, p, none⟩ = some (.int .i64 (m[p].1 : Nat)) := by
        have hO := own_on O1 hbw
        rcases hO.2 with ⟨q, _⟩ | ⟨g, cap, cur, q, _, hh, _, _, _, ht⟩
        · cases q
        · cases q
          have e : (m.map fun p => Value.int .i64 (p.1 : Int))[p]? = some (.int .i64 (m[p].1 : Nat)) := by simp [hpm]
          rw [← ht, List.getElem?_take] at e
          simp only [World.cell?, hh]
          rw [← Array.getElem?_toList]
          split at e
          · exact e
          · cases e
      have hlu := Cr.M.at hm p hpm
      have hV := Cr.V m[p] (List.getElem_mem hpm)
      have hsn := lnsOf_take f m p hpm
      obtain ⟨⟨b, g⟩, hbg⟩ : ∃ bg, m[p] = bg := ⟨_, rfl⟩
      have hlow := hm m[p] (List.getElem_mem hpm)
      rw [hbg] at x1 hlu hV hsn hlow
      simp only at x1 hlu hV hsn hlow
      have HSN : Hid (lnsOf f (m.take (p + 1)) = lnsOf f (m.take p) ++ [(b, flagN (f b))]) := hsn
      clear hbg hsn
      have hsw := hbw.size
      go_wp2_with (first
        | (go_at_call 201; refine (flagOf_any g _ _ hV.1 hV.2.1 hV.2.2).mono ?_; rintro e wn ⟨rfl, hwn⟩; subst wn)
        | (at_builtin; refine wpList_append_own _ rfl _ _ 248 rfl w1.heap.size 250 i0 (.agg #[.int .i64 0, .int .i64 0]) 2 16 Tryz.underlying248 hi0 hz0 hz1 hz2 rfl (by decide) _ _ _ rfl (hrow.alloc _) ⟨wr.heap.size, 0, none⟩ 1 1 [.int .i64 (b : Nat), .int .i64 (flagN (f b) : Nat)] rfl rfl (cell_two_new _ _ _ _) (by intro u hu; simp at hu; rcases hu with rfl | rfl <;> rfl) (by unfold maxLen; omega) (by omega) (by simp; omega) ?_; intro v' w3 hown3 hgrow3 hnil3))
      have hbw3 : Below w1.heap.size w1 w3 := (hbw.alloc hsw _).grown hgrow3 (by simp; omega) (fun b hb => (hrow.lt b hb).1)
      rw [← lnC_snoc _ (b, flagN (f b)), ← HSN.out] at hown3
      go_roundw
      case rel => exact ⟨p + 1, by omega, by go_num, hown3, hbw3⟩
      case measure => simp [intOf]; omega
    · have hpi : ¬ (p : Int) < L := by omega
      obtain rfl : p = L := by omega
      have hR : Lns wr (.slice la p lc) (lnsOf f m) := by
        refine ⟨?_⟩
        have e : m.take p = m := List.take_of_length_le (by rw [HL.out]; exact Nat.le_refl _)
        rw [e] at hrow
        rw [lnsOf_len, HL.out]
        exact own_zero hrow
      have hlnl : (lnsOf f m).length ≤ 24 := by rw [lnsOf_len, HL.out]; exact hl
      have hlns : ∀ p ∈ lnsOf f m, p.1 ≤ 4096 ∧ p.2 ≤ 2 := fun q hq => by
        obtain ⟨r, hr, rfl⟩ := List.mem_map.1 hq
        exact ⟨Nat.le_of_lt (hm r hr), flagN_le _⟩
      obtain ⟨gl, rfl, hgl⟩ : ∃ gl, la = some ⟨gl, 0, none⟩ ∧ w1.heap.size ≤ gl ∧ gl < wr.heap.size := by
        rcases hrow.2 with ⟨_, q⟩ | ⟨g, cap, cur, q, q2, hh, _⟩
        · omega
        · cases q; exact ⟨g, rfl, q2, heap_lt hh⟩
      have CY := (C1.add hbw).less (Y := fun i => X9 i ∨ i = gl) (fun i hi => hi.imp id (fun e => by subst e; exact hgl)) (Or.inl C1.g.xw) (Or.inl C1.xj.1) (Or.inl C1.xa.1) (Or.inl C1.xm.1) (fun p hp => Or.inl (C1.xv p hp).1) (fun p hp => Or.inl (C1.xva p hp).1)
      have hglw : gl ≠ wb := by have := C1.g.xl wb C1.g.xw; omega
      clear hrow O1 C1 b1 h9 Cr hgl
      have Cd := CY.below (w' := wr.drew) ⟨rfl, rfl, rfl, Nat.le_refl _, fun _ _ => rfl⟩
      have v3 := Cd.J.cells.c3
      have hRd : Lns wr.drew (.slice (some ⟨gl, 0, none⟩) p lc) (lnsOf f m) := hR.below ⟨rfl, rfl, rfl, Nat.le_refl _, fun _ _ => rfl⟩
      clear hR
      go_wp2_with fail
      go_region_held3 (fun w' => w'.cell? ⟨jb, 3, none⟩ = some (.int .i64 seq))
        (first | exact v3 | exact v4 | exact v5 | exact v6)
        (first
          | (go_at_call 202; refine (jat_any Cd.J (by omega) (by omega) 0 hp (by omega)).mono ?_; rintro e w4 ⟨rfl, b4⟩; have C4 := Cd.below b4; have v4 := C4.J.cells.c3)
          | (go_at_call 203; refine (descriptorBlock_any seq _ (lnsOf f m) w4 (hRd.below b4) hlnl hlns).mono ?_; rintro e w5 ⟨g5, rfl, l5, k5, b5⟩; have C5 := C4.add b5; have v5 := C5.J.cells.c3; obtain ⟨G5, D5, hG5, hX5⟩ := C5.g.dv; obtain ⟨ev5, hE5, hk5⟩ := C5.g.wk)
          | (go_at_call 70; refine (wkwrite_any D5 hk5 hE5 (hX5 wb C5.g.xw) ((st + 1 + (place + 0) % (sz - 1)) : Nat) (some ⟨g5, 0, none⟩) 512 512 _ (Lies.full k5 (desB_len seq _ hlnl)) (desB_by seq _) (fun ad e => by cases e; exact hX5 g5 (Or.inr ⟨l5, heap_lt k5⟩)) (by omega)).mono ?_; rintro e w6 ⟨rfl, q6⟩; have C6 := C5.did hG5 hX5 q6; have v6 := C6.J.cells.c3))
      have C7 := C6.less (Y := fun i => X9 i ∨ i = gl) (fun i hi => Or.inl hi) Cd.g.xw Cd.xj.1 Cd.xa.1 Cd.xm.1 (fun p hp => (Cd.xv p hp).1) (fun p hp => (Cd.xva p hp).1)
      have hR6 : Lns w6 (.slice (some ⟨gl, 0, none⟩) p lc) (lnsOf f m) := (hRd.below (b4.trans (b5.mono b4.size))).turns (Did.tr q6) (fun b hb r => by cases hb; exact r.elim (hX5 gl (Or.inl (Or.inr rfl))) hglw)
      have C8 : Cn w0 w6 F9 (fun i => X9 i ∨ i = gl) wb d (hidP k pK st sz place seq f m 0).1 (hidP k pK st sz place seq f m 0).2 k (N9 + 1) jb st sz seq place (sz - 1) bm9 op 0 [] bs ns m f (fun _ => []) := C7
      clear C7 C6 C5 C4 Cd CY q6 D5 hG5 hX5 hE5 hk5 hRd v3 v4 v5 v6 b4 b5 k5 l5
      go_wp2_with fail
      go_loopw [51] (fun i wr => ∃ t : Nat, t ≤ p ∧ i = .int .i64 t ∧ Cn w0 wr F9 (fun i => X9 i ∨ i = gl) wb d (hidP k pK st sz place seq f m t).1 (hidP k pK st sz place seq f m t).2 k (N9 + 1 + t) jb st sz seq place (sz - 1) bm9 op 0 [] bs ns m f (fun _ => []) ∧ Lns wr (.slice (some ⟨gl, 0, none⟩) p lc) (lnsOf f m)) (fun i _ => p - (intOf i).toNat)
      case atStart => exact ⟨0, Nat.zero_le _, rfl, C8, hR6⟩
      case round =>
        clear C8 hR6
        obtain ⟨t, htp, rfl, hC, hR⟩ := hrel
        obtain ⟨w7, hw7⟩ : ∃ w7, w7 = wr := ⟨wr, rfl⟩
        subst hw7
        by_cases hlt : t < p
        · have hti : (t : Int) < p := by omega
          have htm : t < m.length := by rw [HL.out]; exact hlt
          have hgt : (lnsOf f m)[t]? = some (m[t].1, flagN (f m[t].1)) := by simp [lnsOf, htm]
          obtain ⟨gl', lc', hgl', x0, x1⟩ := hR.get hgt
          have hge : gl' = gl := by
            injection hgl' with e1 _ _
            injection e1 with e1
            injection e1 with e1
            exact e1.symm
          rw [hge] at x0 x1
          clear hgl' hge
          have hgd : (m.map (·.1)).getD t 0 = m[t].1 := by simp [htm]
          have HS1 : Hid (hidP k pK st sz place seq f m (t + 1) = pW k (hidP k pK st sz place seq f m t) (st + 1 + (place + (t + 1)) % (sz - 1)) (hidB (f m[t].1) (flagN (f m[t].1)))) := by
            show putP _ _ _ _ _ _ _ = _
            rw [hgd]
            rfl
          generalize hidP k pK st sz place seq f m t = Z at *
          obtain ⟨W, hW⟩ : ∃ W, w7.alloc (.cells #[.int .i64 (m[t].1 : Nat), .int .i64 (flagN (f m[t].1) : Nat)] 250) = W := ⟨_, rfl⟩
          have bW : Below w7.heap.size w7 W := by rw [← hW]; exact (Below.refl _ w7).alloc (Nat.le_refl _) _
          have sW : W.heap.size = w7.heap.size + 1 := by rw [← hW]; simp
          have hbx : W.heap[w7.heap.size]? = some (.cells #[.int .i64 (m[t].1 : Nat), .int .i64 (flagN (f m[t].1) : Nat)] 250) := by rw [← hW]; exact (MapKept.heap_alloc w7 _).1
          have dW : Below W.heap.size W W.drew := ⟨rfl, rfl, rfl, Nat.le_refl _, fun _ _ => rfl⟩
          have CW := (hC.add bW).below dW
          have hlu := CW.M.at hm t htm
          have hV := CW.V m[t] (List.getElem_mem htm)
          obtain ⟨⟨b, g⟩, hbg⟩ : ∃ bg, m[t] = bg := ⟨_, rfl⟩
          have HLK : Hid (∀ w', Mp w' bs ns m → (Instr.lookup 96 (.map (some bs)) (.int .i64 (b : Nat)) false).run Tryz.prog w' = .ok (hv g) w') := fun w' h' => by
            have := h'.at hm t htm
            rwa [hbg] at this
          rw [hbg] at x0 x1 hlu hV hbx hW HS1
          simp only at x0 x1 hlu hV hbx hW
          clear hgt hgd hbg
          obtain ⟨q, hq⟩ : ∃ q, w7.heap.size = q := ⟨_, rfl⟩
          rw [hq] at hbx
          have hbc : ∀ w', w'.heap[q]? = some (.cells #[.int .i64 (b : Nat), .int .i64 (flagN (f b) : Nat)] 250) → Mp w' bs ns m → (w'.cell? ⟨q, 0, none⟩ = some (.int .i64 (b : Nat)) ∧ w'.cell? ⟨q, 1, none⟩ = some (.int .i64 (flagN (f b) : Nat)) ∧ (Instr.lookup 96 (.map (some bs)) (.int .i64 (b : Nat)) false).run Tryz.prog w' = .ok (hv g) w') := fun w' h1 h2 => ⟨by simp [World.cell?, h1], by simp [World.cell?, h1], HLK.out w' h2⟩
          have hqw : q ≠ wb := by have := hC.g.xl wb hC.g.xw; omega
          have k0 := hbc W.drew hbx CW.M
          go_wp2_with fail
          try rw [hW]
          try rw [hq]
          go_region_held3 (fun w' => w'.cell? ⟨q, 0, none⟩ = some (.int .i64 (b : Nat)) ∧ w'.cell? ⟨q, 1, none⟩ = some (.int .i64 (flagN (f b) : Nat)) ∧ (Instr.lookup 96 (.map (some bs)) (.int .i64 (b : Nat)) false).run Tryz.prog w' = .ok (hv g) w')
            (first | exact k0 | exact k4 | exact k5 | exact k6)
            (first
              | (go_at_call 202; refine (jat_succ CW.J (by omega) (by omega) t hp (by omega)).mono ?_; rintro e w4 ⟨rfl, b4⟩; have C4 := CW.below b4; have hbx4 := (b4.block q (heap_lt hbx)).trans hbx; have k4 := hbc w4 hbx4 C4.M)
              | (go_at_call 204; refine (hidden_any g (f b) (flagN (f b)) w4 ((b4.block g (heap_lt hV.1)).trans hV.1) hV.2.1 (flagN_le _)).mono ?_; rintro e w5 ⟨g5, rfl, l5, k5b, b5⟩; have C5 := C4.add b5; have hbx5 := (b5.block q (heap_lt hbx4)).trans hbx4; have k5 := hbc w5 hbx5 C5.M; obtain ⟨G5, D5, hG5, hX5⟩ := C5.g.dv; obtain ⟨ev5, hE5, hk5⟩ := C5.g.wk)
              | (go_at_call 70; refine (wkwrite_any D5 hk5 hE5 (hX5 wb C5.g.xw) ((st + 1 + (place + (t + 1)) % (sz - 1)) : Nat) (some ⟨g5, 0, none⟩) 512 512 _ (Lies.full k5b (hidB_len hV.2.1 _)) (hidB_by hV.2.2 _) (fun ad e => by cases e; exact hX5 g5 (Or.inr ⟨l5, heap_lt k5b⟩)) (by omega)).mono ?_; rintro e w6 ⟨rfl, q6⟩; have C6 := C5.did hG5 hX5 q6; have hbx6 := ((Did.tr q6).block q (heap_lt hbx5) (fun r => r.elim (hX5 q (Or.inl (Or.inr (by omega)))) hqw)).trans hbx5; have k6 := hbc w6 hbx6 C6.M))
          all_goals
            have C7 := C6.less (Y := fun i => X9 i ∨ i = gl) (fun i hi => Or.inl (Or.inl hi)) hC.g.xw hC.xj.1 hC.xa.1 hC.xm.1 (fun p hp => (hC.xv p hp).1) (fun p hp => (hC.xva p hp).1)
            have hR6 : Lns w6 (.slice (some ⟨gl, 0, none⟩) p lc) (lnsOf f m) := ((((hR.below bW).below dW).below b4).below b5).turns (Did.tr q6) (fun b hb r => by cases hb; exact r.elim (hX5 gl (Or.inl (Or.inl (Or.inr rfl)))) hglw)
            have C7' : Cn w0 w6 F9 (fun i => X9 i ∨ i = gl) wb d (hidP k pK st sz place seq f m (t + 1)).1 (hidP k pK st sz place seq f m (t + 1)).2 k (N9 + 1 + (t + 1)) jb st sz seq place (sz - 1) bm9 op 0 [] bs ns m f (fun _ => []) := by
              rw [HS1.out]
              exact C7
            clear C7 C6 C5 C4 CW q6 D5 hG5 hX5 hE5 hk5 hR hC k0 k4 k5 k6 b4 b5 k5b l5 hbx hbx4 hbx5 hbx6 hV x0 x1 hlu hbc bW dW hW sW
            go_wp2_with fail
            go_roundw
            case rel => exact ⟨t + 1, by omega, by go_num, C7', hR6⟩
            case measure => simp [intOf]; omega
        · have hti : ¬ (t : Int) < p := by omega
          obtain rfl : t = p := by omega
          have HSF : Hid (comP k pK st sz place seq f m = pF (pW k (pF (hidP k pK st sz place seq f m t)) (st + 1 + (place + (t + 1)) % (sz - 1)) (comB seq))) := by
            show comP k pK st sz place seq f m = _
            unfold comP
            rw [HL.out]
            rfl
          generalize hidP k pK st sz place seq f m t = Z at *
          have hCX := hC.less (Y := X9) (fun i hi => Or.inl hi) C1x.1 C1x.2.1 C1x.2.2.1 C1x.2.2.2.1 C1x.2.2.2.2.1 C1x.2.2.2.2.2
          clear hC hR
          obtain ⟨G, D, hG, hX⟩ := hCX.g.dv
          obtain ⟨ev, hE, hk9⟩ := hCX.g.wk
          go_wp2_with fail
          refine (wkflush_any D hk9 hE (hX wb hCX.g.xw) (by omega)).mono ?_
          rintro e w8 ⟨rfl, q8⟩
          have C8 : Cn w0 w8 F9 X9 wb d (pF Z).1 (pF Z).2 k (N9 + 1 + t) jb st sz seq place (sz - 1) bm9 op 0 [] bs ns m f (fun _ => []) := hCX.did hG hX q8
          clear hCX q8 D hX hG hE hk9 G
          generalize pF Z = Z8 at *
          have Cd := C8.below (w' := w8.drew) ⟨rfl, rfl, rfl, Nat.le_refl _, fun _ _ => rfl⟩
          have v3 := Cd.J.cells.c3
          go_wp2_with fail
          go_region_held3 (fun w' => w'.cell? ⟨jb, 3, none⟩ = some (.int .i64 seq))
            (first | exact v3 | exact v4 | exact v5 | exact v6)
            (first
              | (go_at_call 202; refine (jat_succ Cd.J (by omega) (by omega) t hp (by omega)).mono ?_; rintro e w4 ⟨rfl, b4⟩; have C4 := Cd.below b4; have v4 := C4.J.cells.c3)
              | (go_at_call 205; refine (commitBlock_any seq w4).mono ?_; rintro e w5 ⟨g5, rfl, l5, k5, b5⟩; have C5 := C4.add b5; have v5 := C5.J.cells.c3; obtain ⟨G5, D5, hG5, hX5⟩ := C5.g.dv; obtain ⟨ev5, hE5, hk5⟩ := C5.g.wk)
              | (go_at_call 70; refine (wkwrite_any D5 hk5 hE5 (hX5 wb C5.g.xw) ((st + 1 + (place + (t + 1)) % (sz - 1)) : Nat) (some ⟨g5, 0, none⟩) 512 512 _ (Lies.full k5 (comB_len seq)) (comB_by seq) (fun ad e => by cases e; exact hX5 g5 (Or.inr ⟨l5, heap_lt k5⟩)) (by omega)).mono ?_; rintro e w6 ⟨rfl, q6⟩; have C6 := C5.did hG5 hX5 q6; have v6 := C6.J.cells.c3))
          have C9 : Cn w0 w6 F9 X9 wb d (pW k Z8 (st + 1 + (place + (t + 1)) % (sz - 1)) (comB seq)).1 (pW k Z8 (st + 1 + (place + (t + 1)) % (sz - 1)) (comB seq)).2 k (N9 + 1 + t + 1) jb st sz seq place (sz - 1) bm9 op 0 [] bs ns m f (fun _ => []) := C6.less (Y := X9) (fun i hi => Or.inl hi) C1x.1 C1x.2.1 C1x.2.2.1 C1x.2.2.2.1 C1x.2.2.2.2.1 C1x.2.2.2.2.2
          clear C6 C5 C4 Cd C8 q6 D5 hG5 hX5 hE5 hk5 v3 v4 v5 v6 b4 b5 k5 l5
          generalize pW k Z8 (st + 1 + (place + (t + 1)) % (sz - 1)) (comB seq) = Z9 at *
          obtain ⟨G, D, hG, hX⟩ := C9.g.dv
          obtain ⟨ev, hE, hk9⟩ := C9.g.wk
          go_wp2_with fail
          refine (wkflush_any D hk9 hE (hX wb C9.g.xw) (by omega)).mono ?_
          rintro e wA ⟨rfl, qA⟩
          have CA : Cn w0 wA F9 X9 wb d (comP k pK st sz place seq f m).1 (comP k pK st sz place seq f m).2 k (N9 + 1 + t + 1) jb st sz seq place (sz - 1) bm9 op 0 [] bs ns m f (fun _ => []) := by
            rw [HSF.out]
            exact C9.did hG hX qA
          clear C9 qA D hX hG hE hk9 G
          go_wp2_with fail
          refine (pass_ok CA.J CA.A CA.M hne ha hm (by rw [HL.out]; omega) hj1 hj2 (by omega) hp hs (by omega) (by rw [HL.out]; omega)).mono ?_
          rintro e wB ⟨rfl, JB, AB, MB, tB⟩
          have CB := CA.pass JB AB MB tB
          go_wp2
          first | go_end0 | refine bodyPost_ret (results_none rfl _ _ _) rfl ?_
          refine ⟨rfl, bm9, lb9, ?_⟩
          rw [HFX.out.1, HFX.out.2, HPK.out, HN9.out]
          rw [HL.out, show N9 + t + 2 = N9 + 1 + t + 1 by omega]
          exact CB
end Go.Proofs.YtlcjkbhcbiggcaaGreatDoor
