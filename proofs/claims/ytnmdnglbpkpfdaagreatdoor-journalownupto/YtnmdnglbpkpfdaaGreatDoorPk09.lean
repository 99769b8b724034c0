/- What a commit holds while it works; what the device holds behind it. -/
import Derived.Test.YtnmdnglbpkpfdaaGreatDoorPk08
import Derived.Deep.AppendLies
import Derived.Deep.RegionHeldLaw
import Derived.Lib.SliceRun
import Derived.Deep.Upon
import Derived.BigQuiet
import Derived.Test.YtnmdnglbpkpfdaaGreatDoorPk05
namespace Go.Proofs.YtnmdnglbpkpfdaaGreatDoor
open Go.RowKit Go.Maps
set_option maxRecDepth 100000
theorem own_on {w w' : World} {base e s n : Nat} {v : Value} {xs : List Value} (h : w.ownsRow base e s v n xs) (hb : Below w.heap.size w w') : w'.ownsRow base e s v n xs := by
  obtain ⟨h1, h2⟩ := h
  refine ⟨h1, ?_⟩
  rcases h2 with h2 | ⟨g, cap, cur, hv, hg, hh, r⟩
  · exact Or.inl h2
  · exact Or.inr ⟨g, cap, cur, hv, hg, (hb.block g (heap_lt hh)).trans hh, r⟩
theorem own_zero {w : World} {base e s n : Nat} {v : Value} {xs : List Value} (h : w.ownsRow base e s v n xs) : w.ownsRow 0 e s v n xs := by
  obtain ⟨h1, h2⟩ := h
  refine ⟨h1, ?_⟩
  rcases h2 with h2 | ⟨g, cap, cur, hv, hg, r⟩
  · exact Or.inl h2
  · exact Or.inr ⟨g, cap, cur, hv, Nat.zero_le _, r⟩
theorem Lns.below {w w' : World} {lv : Value} {ls : List (Nat × Nat)} (h : Lns w lv ls) (hb : Below w.heap.size w w') : Lns w' lv ls := ⟨own_on h.row hb⟩
theorem Lns.turns {F : Nat → Prop} {w w' : World} {lv : Value} {ls : List (Nat × Nat)} (h : Lns w lv ls) (t : Turns F w w') (hF : ∀ b, lv.ownBlock = some b → ¬ F b) : Lns w' lv ls := ⟨own_turns h.row t hF⟩
theorem flagN_le (bs : List Int) : flagN bs ≤ 2 := by unfold flagN; split <;> (try split) <;> omega
/-- The lines of a descriptor: each block with its flag. -/
def lnsOf (f : Nat → List Int) (m : List (Nat × Nat)) : List (Nat × Nat) := m.map fun p => (p.1, flagN (f p.1))
theorem lnsOf_len (f : Nat → List Int) (m : List (Nat × Nat)) : (lnsOf f m).length = m.length := by simp [lnsOf]
theorem lnsOf_take (f : Nat → List Int) (m : List (Nat × Nat)) (p : Nat) (h : p < m.length) : lnsOf f (m.take (p + 1)) = lnsOf f (m.take p) ++ [(m[p].1, flagN (f m[p].1))] := by
  unfold lnsOf
  rw [List.take_succ_eq_append_getElem h, List.map_append]
  rfl
theorem lnC_snoc (l : List (Nat × Nat)) (p : Nat × Nat) : lnC (l ++ [p]) = lnC l ++ [.int .i64 p.1, .int .i64 p.2] := by simp [lnC]
/-- What a map's blocks hold. -/
def Vals (w : World) (f : Nat → List Int) (m : List (Nat × Nat)) : Prop := ∀ p ∈ m, w.heap[p.2]? = some (bl (f p.1)) ∧ (f p.1).length = 512 ∧ ∀ x ∈ f p.1, 0 ≤ x ∧ x ≤ 255
theorem Vals.turns {F : Nat → Prop} {w w' : World} {f : Nat → List Int} {m : List (Nat × Nat)} (h : Vals w f m) (t : Turns F w w') (hF : ∀ p ∈ m, ¬ F p.2) : Vals w' f m := fun p hp => ⟨(t.block _ (heap_lt (h p hp).1) (hF p hp)).trans (h p hp).1, (h p hp).2⟩
theorem Vals.below {w w' : World} {f : Nat → List Int} {m : List (Nat × Nat)} (h : Vals w f m) (b : Below w.heap.size w w') : Vals w' f m := h.turns (Below.turns b (fun _ => False)) (fun _ _ q => q)
/-- A map's element, without asking whether it is there. -/
theorem Mp.look1 {w : World} {bm n : Nat} {m : List (Nat × Nat)} (h : Mp w bm n m) (b : Nat) (hb : b < 4096) : (Instr.lookup 99 (.map (some bm)) (.int .i64 b) false).run Tryz.prog w = .ok (((lk m b).map hv).getD (.slice none 0 0)) w := by
  obtain ⟨v, ps, hrun, hv'⟩ := h.own.lookup law3 Tryz.underlying99 (zeroB w) (zd := .held (.slice none 0 0)) (zp := []) rfl (int_key b hb)
  rw [hrun]
  rw [mD_at] at hv'
  cases e : lk m b with
  | none => rw [e] at hv'; simp [RV] at hv'; rw [hv'.1]; rfl
  | some g => rw [e] at hv'; simp [RV] at hv'; rw [hv'.1]; rfl
theorem Mp.at {w : World} {bm n : Nat} {m : List (Nat × Nat)} (h : Mp w bm n m) (hm : Low m) (p : Nat) (hp : p < m.length) : (Instr.lookup 99 (.map (some bm)) (.int .i64 (m[p].1 : Nat)) false).run Tryz.prog w = .ok (hv m[p].2) w := by
  have := h.look1 m[p].1 (hm _ (List.getElem_mem hp))
  rwa [lk_mem h.ris (List.getElem_mem hp)] at this
/-- One block of the log is written. -/
def putL (S : DevS) (st sz place i : Nat) (bs : List Int) : DevS := wrote (burnt S) (st + 1 + (place + i) % (sz - 1)) bs
/-- The descriptor and the first i blocks of a transaction are written. -/
def hidS (S : DevS) (st sz place : Nat) (seq : Int) (f : Nat → List Int) (m : List (Nat × Nat)) : Nat → DevS
  | 0 => putL S st sz place 0 (desB seq (lnsOf f m))
  | i + 1 => putL (hidS S st sz place seq f m i) st sz place (i + 1) (hidB (f ((m.map (·.1)).getD i 0)) (flagN (f ((m.map (·.1)).getD i 0))))
/-- What a device holds behind a commit. -/
def comS (S : DevS) (st sz place : Nat) (seq : Int) (f : Nat → List Int) (m : List (Nat × Nat)) : DevS := flushed (burnt (putL (flushed (burnt (hidS S st sz place seq f m m.length))) st sz place (m.length + 1) (comB seq)))
theorem Lasts.putL {S : DevS} {n : Nat} (h : Lasts S (n + 1)) (st sz place i : Nat) (bs : List Int) : Lasts (putL S st sz place i bs) n := h.burnt.wrote _ _
theorem hidS_lasts {S : DevS} {st sz place : Nat} {seq : Int} {f : Nat → List Int} {m : List (Nat × Nat)} : ∀ (i n : Nat), Lasts S (i + 1 + n) → Lasts (hidS S st sz place seq f m i) n
  | 0, n, h => Lasts.putL (by rwa [show n + 1 = 0 + 1 + n by omega]) _ _ _ _ _
  | i + 1, n, h => Lasts.putL (hidS_lasts i (n + 1) (by rwa [show i + 1 + (n + 1) = i + 1 + 1 + n by omega])) _ _ _ _ _
theorem desB_len (seq : Int) (ls : List (Nat × Nat)) (h : ls.length ≤ 24) : (desB seq ls).length = 512 := fillB_len (by simp [desH, lnB_len, be_length]; omega)
theorem lnB_by (ls : List (Nat × Nat)) : ∀ x ∈ lnB ls, 0 ≤ x ∧ x ≤ 255 := by
  intro x hx
  obtain ⟨p, _, hx⟩ := List.mem_flatMap.1 hx
  rcases List.mem_append.1 hx with hx | hx
  · exact be_by _ _ x hx
  · exact be_by _ _ x hx
theorem desB_by (seq : Int) (ls : List (Nat × Nat)) : ∀ x ∈ desB seq ls, 0 ≤ x ∧ x ≤ 255 := fillB_by (fun x hx => by
  simp only [desH, List.mem_append] at hx
  rcases hx with ((hx | hx) | hx) | hx
  · simp at hx; omega
  · exact be_by _ _ x hx
  · exact be_by _ _ x hx
  · exact lnB_by ls x hx)
theorem comB_len (seq : Int) : (comB seq).length = 512 := fillB_len (by simp [be_length])
theorem comB_by (seq : Int) : ∀ x ∈ comB seq, 0 ≤ x ∧ x ≤ 255 := fillB_by (fun x hx => by
  simp only [List.mem_append] at hx
  rcases hx with (hx | hx) | hx
  · simp at hx; omega
  · exact be_by _ _ x hx
  · exact be_by _ _ x hx)
theorem hidB_len {bs : List Int} (h : bs.length = 512) (f : Nat) : (hidB bs f).length = 512 := by
  unfold hidB
  split
  · exact h
  · simp [h]
theorem hidB_by {bs : List Int} (h : ∀ x ∈ bs, 0 ≤ x ∧ x ≤ 255) (f : Nat) : ∀ x ∈ hidB bs f, 0 ≤ x ∧ x ≤ 255 := by
  unfold hidB
  split
  · exact h
  · intro x hx
    rcases List.mem_append.1 hx with hx | hx
    · simp at hx; omega
    · exact h x (List.mem_of_mem_drop hx)
/-- What a commit holds while it works: the journal, its map of what is away, the transaction's map, and what their blocks hold. -/
structure Cm (w0 w : World) (F X : Nat → Prop) (wb d : Nat) (S : DevS) (k N : Nat) (jb st sz : Nat) (seq : Int) (place : Nat) (free : Int) (bm : Nat) (op : Option Nat) (nd : Nat) (a : List (Nat × Nat)) (bs ns : Nat) (m : List (Nat × Nat)) (f fa : Nat → List Int) : Prop where
  g : Wg w0 w F X wb d S k N
  J : Jb w jb d st sz seq place free bm op
  A : Mp w bm nd a
  M : Mp w bs ns m
  V : Vals w f m
  VA : Vals w fa a
  xj : X jb ∧ jb ≠ wb
  xa : X bm ∧ bm ≠ wb
  xm : X bs ∧ bs ≠ wb
  xv : ∀ p ∈ m, X p.2 ∧ p.2 ≠ wb
  xva : ∀ p ∈ a, X p.2 ∧ p.2 ≠ wb
theorem Cm.turn {w0 w w' : World} {F X Y : Nat → Prop} {wb d : Nat} {S S' : DevS} {k N N' : Nat} {jb st sz : Nat} {seq : Int} {place : Nat} {free : Int} {bm : Nat} {op : Option Nat} {nd : Nat} {a : List (Nat × Nat)} {bs ns : Nat} {m : List (Nat × Nat)} {f fa : Nat → List Int} (h : Cm w0 w F X wb d S k N jb st sz seq place free bm op nd a bs ns m f fa) (t : Turns Y w w') (hY : ∀ i, X i → i ≠ wb → ¬ Y i) (g' : Wg w0 w' F X wb d S' k N') : Cm w0 w' F X wb d S' k N' jb st sz seq place free bm op nd a bs ns m f fa :=
  ⟨g', (t.block jb (heap_lt h.J) (hY jb h.xj.1 h.xj.2)).trans h.J, h.A.turns t (hY bm h.xa.1 h.xa.2), h.M.turns t (hY bs h.xm.1 h.xm.2), h.V.turns t (fun p hp => hY p.2 (h.xv p hp).1 (h.xv p hp).2), h.VA.turns t (fun p hp => hY p.2 (h.xva p hp).1 (h.xva p hp).2), h.xj, h.xa, h.xm, h.xv, h.xva⟩
theorem Cm.below {w0 w w' : World} {F X : Nat → Prop} {wb d : Nat} {S : DevS} {k N : Nat} {jb st sz : Nat} {seq : Int} {place : Nat} {free : Int} {bm : Nat} {op : Option Nat} {nd : Nat} {a : List (Nat × Nat)} {bs ns : Nat} {m : List (Nat × Nat)} {f fa : Nat → List Int} (h : Cm w0 w F X wb d S k N jb st sz seq place free bm op nd a bs ns m f fa) (b : Below w.heap.size w w') : Cm w0 w' F X wb d S k N jb st sz seq place free bm op nd a bs ns m f fa :=
  h.turn (Below.turns b (fun _ => False)) (fun _ _ _ q => q) (h.g.below b)
/-- New blocks are not the device's. -/
theorem Cm.add {w0 w w' : World} {F X : Nat → Prop} {wb d : Nat} {S : DevS} {k N : Nat} {jb st sz : Nat} {seq : Int} {place : Nat} {free : Int} {bm : Nat} {op : Option Nat} {nd : Nat} {a : List (Nat × Nat)} {bs ns : Nat} {m : List (Nat × Nat)} {f fa : Nat → List Int} (h : Cm w0 w F X wb d S k N jb st sz seq place free bm op nd a bs ns m f fa) (b : Below w.heap.size w w') : Cm w0 w' F (fun i => X i ∨ (w.heap.size ≤ i ∧ i < w'.heap.size)) wb d S k N jb st sz seq place free bm op nd a bs ns m f fa := by
  have h' := h.below b
  exact ⟨h.g.add b, h'.J, h'.A, h'.M, h'.V, h'.VA, ⟨Or.inl h.xj.1, h.xj.2⟩, ⟨Or.inl h.xa.1, h.xa.2⟩, ⟨Or.inl h.xm.1, h.xm.2⟩, fun p hp => ⟨Or.inl (h.xv p hp).1, (h.xv p hp).2⟩, fun p hp => ⟨Or.inl (h.xva p hp).1, (h.xva p hp).2⟩⟩
theorem Cm.less {w0 w : World} {F X Y : Nat → Prop} {wb d : Nat} {S : DevS} {k N : Nat} {jb st sz : Nat} {seq : Int} {place : Nat} {free : Int} {bm : Nat} {op : Option Nat} {nd : Nat} {a : List (Nat × Nat)} {bs ns : Nat} {m : List (Nat × Nat)} {f fa : Nat → List Int} (h : Cm w0 w F X wb d S k N jb st sz seq place free bm op nd a bs ns m f fa) (hY : ∀ i, Y i → X i) (hw : Y wb) (hj : Y jb) (ha : Y bm) (hm : Y bs) (hv : ∀ p ∈ m, Y p.2) (hva : ∀ p ∈ a, Y p.2) : Cm w0 w F Y wb d S k N jb st sz seq place free bm op nd a bs ns m f fa :=
  ⟨h.g.less hY hw, h.J, h.A, h.M, h.V, h.VA, ⟨hj, h.xj.2⟩, ⟨ha, h.xa.2⟩, ⟨hm, h.xm.2⟩, fun p hp => ⟨hv p hp, (h.xv p hp).2⟩, fun p hp => ⟨hva p hp, (h.xva p hp).2⟩⟩
/-- A block is written, or all is flushed. -/
theorem Cm.wrt {w0 w w' : World} {F X G : Nat → Prop} {wb d : Nat} {S S' : DevS} {k N N' : Nat} {jb st sz : Nat} {seq : Int} {place : Nat} {free : Int} {bm : Nat} {op : Option Nat} {nd : Nat} {a : List (Nat × Nat)} {bs ns : Nat} {m : List (Nat × Nat)} {f fa : Nat → List Int} (h : Cm w0 w F X wb d S k N jb st sz seq place free bm op nd a bs ns m f fa) (hG : ∀ i, G i → F i ∨ w0.heap.size ≤ i) (hX : ∀ i, X i → ¬ G i) (q : Wrt w w' wb d S' k N' G) : Cm w0 w' F X wb d S' k N' jb st sz seq place free bm op nd a bs ns m f fa :=
  h.turn q.tr (fun i hi hw r => r.elim (hX i hi) hw) (h.g.wrt hG hX q).1
/-- What stands behind a commit. -/
structure Cmd (w0 w : World) (F X : Nat → Prop) (wb d : Nat) (S : DevS) (k N : Nat) (jb st sz : Nat) (seq : Int) (place : Nat) (free : Int) (bm : Nat) (op : Option Nat) (nd : Nat) (a : List (Nat × Nat)) (bs ns : Nat) (m : List (Nat × Nat)) (f fa : Nat → List Int) : Prop where
  wk : Wk w wb d .nilIface
  dv : ∃ G, Dev w d 0 S k N G ∧ (∀ i, G i → F i ∨ w0.heap.size ≤ i) ∧ ∀ i, X i → ¬ G i
  J : Jb w jb d st sz (seq + 1) ((place + m.length + 2) % (sz - 1) : Nat) (free - (m.length + 2)) bm op
  A : Mp w bm (nd + m.length) (mmerge a m)
  M : Mp w bs ns m
  V : Vals w f m
  VA : Vals w fa a
  tr : Turns (fun i => F i ∨ i = wb ∨ i = bm ∨ i = jb) w0 w
theorem mp_no_bl {w : World} {bm n : Nat} {m : List (Nat × Nat)} (h : Mp w bm n m) {bs : List Int} (hg : w.heap[bm]? = some (bl bs)) : False := by
  obtain ⟨es, clock, hb, _⟩ := h.own
  rw [hg] at hb
  simp [bl] at hb
theorem Cm.pass {w0 w w' : World} {F X : Nat → Prop} {wb d : Nat} {S : DevS} {k N : Nat} {jb st sz : Nat} {seq : Int} {place : Nat} {free : Int} {bm : Nat} {op : Option Nat} {nd : Nat} {a : List (Nat × Nat)} {bs ns : Nat} {m : List (Nat × Nat)} {f fa : Nat → List Int} (h : Cm w0 w F X wb d S k N jb st sz seq place free bm op nd a bs ns m f fa) (J : Jb w' jb d st sz (seq + 1) ((place + m.length + 2) % (sz - 1) : Nat) (free - (m.length + 2)) bm op) (A : Mp w' bm (nd + m.length) (mmerge a m)) (M : Mp w' bs ns m) (t : Turns (fun i => i = bm ∨ i = jb) w w') : Cmd w0 w' F X wb d S k N jb st sz seq place free bm op nd a bs ns m f fa := by
  obtain ⟨G, D, hG, hX⟩ := h.g.dv
  have nJ : ∀ (g : Nat) (bs : List Int), w.heap[g]? = some (bl bs) → ¬ (g = bm ∨ g = jb) := fun g bs hg e => by
    rcases e with rfl | rfl
    · exact mp_no_bl h.A hg
    · have := h.J; unfold Jb at this; rw [hg] at this; simp [bl] at this
  refine ⟨h.g.wk.turns t (fun e => e.elim h.xa.2.symm h.xj.2.symm), ⟨G, D.turns t (fun i hi e => ?_), hG, hX⟩, J, A, M, h.V.turns t (fun p hp => nJ p.2 _ (h.V p hp).1), h.VA.turns t (fun p hp => nJ p.2 _ (h.VA p hp).1), (h.g.tr.mono (G := fun i => F i ∨ i = wb ∨ i = bm ∨ i = jb) (fun i _ e => e.imp id Or.inl)).trans t (fun i _ e => Or.inr (Or.inr e))⟩
  · rcases e with rfl | rfl
    · exact hX _ h.xa.1 hi
    · exact hX _ h.xj.1 hi
theorem jat_succ {w : World} {jb d st sz : Nat} {seq free : Int} {place bm : Nat} {op : Option Nat} (h : Jb w jb d st sz seq place free bm op) (h1 : 2 ≤ sz ∧ sz ≤ 4096) (h2 : st ≤ 4096) (t : Nat) (hp : place ≤ 4096) (hb : t + 1 ≤ 4096) :
    Calls Tryz.prog 89 #[.pointer (some ⟨jb, 0, none⟩), .int .i64 (IntKind.i64.wrap ((t : Int) + 1))] w fun e w' => e = .returned (.int .i64 (st + 1 + (place + (t + 1)) % (sz - 1) : Nat)) ∧ Below w.heap.size w w' := by
  have := jat_any h h1 h2 (t + 1) hp hb
  rw [Go.IntWalk.i64_in _ ⟨by omega, by omega⟩]
  exact this
end Go.Proofs.YtnmdnglbpkpfdaaGreatDoor

/- commit by its contract, where there is room and nothing fails. -/
namespace Go.Proofs.YtnmdnglbpkpfdaaGreatDoor
open Go.RowKit Go.Maps
set_option maxRecDepth 100000
theorem Tryz.infoLine : (Tryz.prog.info? 154).map (fun i => (i.zero, i.size, i.bytes)) = some (some (.agg #[.int .i64 0, .int .i64 0]), 2, 16) := by kernel_rfl
set_option maxHeartbeats 8000000 in
theorem jcommit_ok {w0 w : World} {F X : Nat → Prop} {wb d : Nat} {S : DevS} {k N : Nat} {jb st sz nd ns bs : Nat} {seq free : Int} {place bm : Nat} {op : Option Nat} {a m : List (Nat × Nat)} {f fa : Nat → List Int} (h : Cm w0 w F X wb d S k N jb st sz seq place free bm op nd a bs ns m f fa) (hl1 : 1 ≤ m.length) (hl : m.length ≤ 24) (ha : Low a) (hm : Low m) (hf : (m.length : Int) + 2 ≤ free) (hf2 : free ≤ 10000)
    (h1 : 27 ≤ sz) (h2 : st + sz ≤ k) (hk : k ≤ 4096) (hS : Lasts S (m.length + 4)) (hN : N ≤ 1000000000) (hp : place ≤ 4096) (hs : 0 ≤ seq ∧ seq ≤ 4611686018427387905) (hnd : nd ≤ 100000) (hne : bm ≠ bs) (hj1 : jb ≠ bm) (hj2 : jb ≠ bs) :
    Calls Tryz.prog 52 #[.pointer (some ⟨jb, 0, none⟩), .map (some bs), .pointer (some ⟨wb, 0, none⟩)] w fun e w' => e = .returned (.tuple #[]) ∧ Cmd w0 w' F X wb d (comS S st sz place seq f m) k (N + m.length + 2) jb st sz seq place free bm op nd a bs ns m f fa := by
  obtain ⟨i0, hi0, hz0, hz1, hz2⟩ := info_parts Tryz.infoLine
  obtain ⟨c0, c1, c2, c3, c4, c5, c6, c7, c8, fz⟩ := h.J.cells
  have hsz : (Maps.size (mD m) : Int) = (m.length : Int) := by simp [mD, Maps.size_eq]
  have hlnd : ∀ (ty : TypeId), (Builtin.len_ #[99] ty #[.map (some bs)]).run Tryz.prog w.drew = .ok (.int .i64 m.length) w.drew := fun ty => by
    have := (map_turns h.M.own (Turns.drewN (fun _ => False) w 1) id).len Tryz.underlying99 ty
    rwa [hsz] at this
  have hw1 : IntKind.i64.wrap ((m.length : Int) + 2) = m.length + 2 := Go.IntWalk.i64_in _ ⟨by omega, by omega⟩
  have hnf : ¬ free < (m.length : Int) + 2 := by omega
  go_enter Tryz.func52, Tryz.ntmps52
  go_wp2_with fail
  go_region_held3 (fun w' => w'.cell? ⟨jb, 5, none⟩ = some (.int .i64 free) ∧ ∀ (ty : TypeId), (Builtin.len_ #[99] ty #[.map (some bs)]).run Tryz.prog w' = .ok (.int .i64 m.length) w')
    (first | exact ⟨c5, hlnd⟩)
    (fail)
  clear hlnd c0 c1 c2 c3 c4 c5 c6 c7 c8 fz
  have hD : Below w.heap.size w w.drew := ⟨rfl, rfl, rfl, Nat.le_refl _, fun _ _ => rfl⟩
  go_wp2_with fail
  refine (rising_any (h.below hD).M (by omega)).mono ?_
  rintro e w1 ⟨g1, q1, rfl, O1, b1⟩
  replace b1 := hD.trans b1
  have C1x : X wb ∧ X jb ∧ X bm ∧ X bs ∧ (∀ p ∈ m, X p.2) ∧ (∀ p ∈ a, X p.2) := ⟨h.g.xw, h.xj.1, h.xa.1, h.xm.1, fun p hp => (h.xv p hp).1, fun p hp => (h.xva p hp).1⟩
  have C1 := h.below b1
  obtain ⟨L, hL⟩ : ∃ L, m.length = L := ⟨_, rfl⟩
  have HL : Hid (m.length = L) := hL
  have hLi : (L : Int) ≤ 24 := by omega
  rw [hL] at O1 hl hl1 hf hS ⊢
  clear hL hw1 hnf hsz
  go_wp2_with fail
  go_loopw [6, 25] (fun v i wr => ∃ p : Nat, p ≤ L ∧ i = .int .i64 p ∧ wr.ownsRow w1.heap.size 154 2 v p (lnC (lnsOf f (m.take p))) ∧ Below w1.heap.size w1 wr) (fun _ i _ => L - (intOf i).toNat)
  case atStart => exact ⟨0, Nat.zero_le _, rfl, ⟨rfl, Or.inl ⟨rfl, rfl⟩⟩, Below.refl _ _⟩
  case round =>
    obtain ⟨p, hpL, rfl, hrow, hbw⟩ := hrel
    have Cr := C1.below hbw
    obtain ⟨la, lc, rfl⟩ := row_slice hrow
    by_cases hlt : p < L
    · have hpi : (p : Int) < L := by omega
      have hpm : p < m.length := by rw [HL.out]; exact hlt
      have x1 : wr.cell? ⟨g1, p, none⟩ = some (.int .i64 (m[p].1 : Nat)) := by
        have hO := own_on O1 hbw
        rcases hO.2 with ⟨q, _⟩ | ⟨g, cap, cur, q, _, hh, _, _, _, ht⟩
        · cases q
        · cases q
          have e : (m.map fun p => Value.int .i64 (p.1 : Int))[p]? = some (.int .i64 (m[p].1 : Nat)) := by simp [hpm]
          rw [← ht, List.getElem?_take] at e
          simp only [World.cell?, hh]
          rw [← Array.getElem?_toList]
          split at e
          · exact e
          · cases e
      have hlu := Cr.M.at hm p hpm
      have hV := Cr.V m[p] (List.getElem_mem hpm)
      have hsn := lnsOf_take f m p hpm
      obtain ⟨⟨b, g⟩, hbg⟩ : ∃ bg, m[p] = bg := ⟨_, rfl⟩
      have hlow := hm m[p] (List.getElem_mem hpm)
      rw [hbg] at x1 hlu hV hsn hlow
      simp only at x1 hlu hV hsn hlow
      have HSN : Hid (lnsOf f (m.take (p + 1)) = lnsOf f (m.take p) ++ [(b, flagN (f b))]) := hsn
      clear hbg hsn
      have hsw := hbw.size
      go_wp2_with (first
        | (go_at_call 88; refine (flagOf_any g _ _ hV.1 hV.2.1 hV.2.2).mono ?_; rintro e wn ⟨rfl, hwn⟩; subst wn)
        | (at_builtin; refine wpList_append_own _ rfl _ _ 151 rfl w1.heap.size 154 i0 (.agg #[.int .i64 0, .int .i64 0]) 2 16 Tryz.underlying151 hi0 hz0 hz1 hz2 rfl (by decide) _ _ _ rfl (hrow.alloc _) ⟨wr.heap.size, 0, none⟩ 1 1 [.int .i64 (b : Nat), .int .i64 (flagN (f b) : Nat)] rfl rfl (cell_two_new _ _ _ _) (by intro u hu; simp at hu; rcases hu with rfl | rfl <;> rfl) (by unfold maxLen; omega) (by omega) (by simp; omega) ?_; intro v' w3 hown3 hgrow3 hnil3))
      have hbw3 : Below w1.heap.size w1 w3 := (hbw.alloc hsw _).grown hgrow3 (by simp; omega) (fun b hb => (hrow.lt b hb).1)
      rw [← lnC_snoc _ (b, flagN (f b)), ← HSN.out] at hown3
      go_roundw
      case rel => exact ⟨p + 1, by omega, by go_num, hown3, hbw3⟩
      case measure => simp [intOf]; omega
    · have hpi : ¬ (p : Int) < L := by omega
      obtain rfl : p = L := by omega
      have hR : Lns wr (.slice la p lc) (lnsOf f m) := by
        refine ⟨?_⟩
        have e : m.take p = m := List.take_of_length_le (by rw [HL.out]; exact Nat.le_refl _)
        rw [e] at hrow
        rw [lnsOf_len, HL.out]
        exact own_zero hrow
      have hlnl : (lnsOf f m).length ≤ 24 := by rw [lnsOf_len, HL.out]; exact hl
      have hlns : ∀ p ∈ lnsOf f m, p.1 ≤ 4096 ∧ p.2 ≤ 2 := fun q hq => by
        obtain ⟨r, hr, rfl⟩ := List.mem_map.1 hq
        exact ⟨Nat.le_of_lt (hm r hr), flagN_le _⟩
      obtain ⟨gl, rfl, hgl⟩ : ∃ gl, la = some ⟨gl, 0, none⟩ ∧ w1.heap.size ≤ gl ∧ gl < wr.heap.size := by
        rcases hrow.2 with ⟨_, q⟩ | ⟨g, cap, cur, q, q2, hh, _⟩
        · omega
        · cases q; exact ⟨g, rfl, q2, heap_lt hh⟩
      have CY := (C1.add hbw).less (Y := fun i => X i ∨ i = gl) (fun i hi => hi.imp id (fun e => by subst e; exact hgl)) (Or.inl C1.g.xw) (Or.inl C1.xj.1) (Or.inl C1.xa.1) (Or.inl C1.xm.1) (fun p hp => Or.inl (C1.xv p hp).1) (fun p hp => Or.inl (C1.xva p hp).1)
      have hglw : gl ≠ wb := by have := C1.g.xl wb C1.g.xw; omega
      clear hrow O1 C1 b1 h Cr hgl
      have Cd := CY.below (w' := wr.drew) ⟨rfl, rfl, rfl, Nat.le_refl _, fun _ _ => rfl⟩
      have v3 := Cd.J.cells.c3
      have hRd : Lns wr.drew (.slice (some ⟨gl, 0, none⟩) p lc) (lnsOf f m) := hR.below ⟨rfl, rfl, rfl, Nat.le_refl _, fun _ _ => rfl⟩
      clear hR
      go_wp2_with fail
      go_region_held3 (fun w' => w'.cell? ⟨jb, 3, none⟩ = some (.int .i64 seq))
        (first | exact v3 | exact v4 | exact v5 | exact v6)
        (first
          | (go_at_call 89; refine (jat_any Cd.J (by omega) (by omega) 0 hp (by omega)).mono ?_; rintro e w4 ⟨rfl, b4⟩; have C4 := Cd.below b4; have v4 := C4.J.cells.c3)
          | (go_at_call 90; refine (descriptorBlock_any seq _ (lnsOf f m) w4 (hRd.below b4) hlnl hlns).mono ?_; rintro e w5 ⟨g5, rfl, l5, k5, b5⟩; have C5 := C4.add b5; have v5 := C5.J.cells.c3; obtain ⟨G5, D5, hG5, hX5⟩ := C5.g.dv)
          | (go_at_call 80; refine (wkwrite_ok D5 C5.g.wk (hX5 wb C5.g.xw) (m := p + 3) hS (st + 1 + (place + 0) % (sz - 1)) (by have := Nat.mod_lt (place + 0) (show 0 < sz - 1 by omega); omega) (some ⟨g5, 0, none⟩) 512 _ (Lies.full k5 (desB_len seq _ hlnl)) (desB_by seq _) (fun ad e => by cases e; exact hX5 g5 (Or.inr ⟨l5, heap_lt k5⟩)) (by omega)).mono ?_; rintro e w6 ⟨rfl, q6⟩; have C6 := C5.wrt hG5 hX5 q6; have v6 := C6.J.cells.c3))
      have C7 := C6.less (Y := fun i => X i ∨ i = gl) (fun i hi => Or.inl hi) Cd.g.xw Cd.xj.1 Cd.xa.1 Cd.xm.1 (fun p hp => (Cd.xv p hp).1) (fun p hp => (Cd.xva p hp).1)
      have hR6 : Lns w6 (.slice (some ⟨gl, 0, none⟩) p lc) (lnsOf f m) := (hRd.below (b4.trans (b5.mono b4.size))).turns q6.tr (fun b hb r => by cases hb; exact r.elim (hX5 gl (Or.inl (Or.inr rfl))) hglw)
      have C8 : Cm w0 w6 F (fun i => X i ∨ i = gl) wb d (hidS S st sz place seq f m 0) k (N + 1) jb st sz seq place free bm op nd a bs ns m f fa := C7
      clear C7 C6 C5 C4 Cd CY q6 D5 hG5 hX5 hRd v3 v4 v5 v6 b4 b5 k5 l5
      go_wp2_with fail
      go_loopw [51] (fun i wr => ∃ t : Nat, t ≤ p ∧ i = .int .i64 t ∧ Cm w0 wr F (fun i => X i ∨ i = gl) wb d (hidS S st sz place seq f m t) k (N + 1 + t) jb st sz seq place free bm op nd a bs ns m f fa ∧ Lns wr (.slice (some ⟨gl, 0, none⟩) p lc) (lnsOf f m)) (fun i _ => p - (intOf i).toNat)
      case atStart => exact ⟨0, Nat.zero_le _, rfl, C8, hR6⟩
      case round =>
        clear C8 hR6
        obtain ⟨t, htp, rfl, hC, hR⟩ := hrel
        obtain ⟨w7, hw7⟩ : ∃ w7, w7 = wr := ⟨wr, rfl⟩
        subst hw7
        by_cases hlt : t < p
        · have hti : (t : Int) < p := by omega
          have htm : t < m.length := by rw [HL.out]; exact hlt
          have hgt : (lnsOf f m)[t]? = some (m[t].1, flagN (f m[t].1)) := by simp [lnsOf, htm]
          obtain ⟨gl', lc', hgl', x0, x1⟩ := hR.get hgt
          have hge : gl' = gl := by
            injection hgl' with e1 _ _
            injection e1 with e1
            injection e1 with e1
            exact e1.symm
          rw [hge] at x0 x1
          clear hgl' hge
          have hla : Lasts (hidS S st sz place seq f m t) (p - t + 1 + 1) := hidS_lasts t _ (hS.mono (by omega))
          have hgd : (m.map (·.1)).getD t 0 = m[t].1 := by simp [htm]
          have HS1 : Hid (hidS S st sz place seq f m (t + 1) = wrote (burnt (hidS S st sz place seq f m t)) (st + 1 + (place + (t + 1)) % (sz - 1)) (hidB (f m[t].1) (flagN (f m[t].1)))) := by
            show putL _ _ _ _ _ _ = _
            rw [hgd]
            rfl
          generalize hidS S st sz place seq f m t = Z at *
          obtain ⟨W, hW⟩ : ∃ W, w7.alloc (.cells #[.int .i64 (m[t].1 : Nat), .int .i64 (flagN (f m[t].1) : Nat)] 154) = W := ⟨_, rfl⟩
          have bW : Below w7.heap.size w7 W := by rw [← hW]; exact (Below.refl _ w7).alloc (Nat.le_refl _) _
          have sW : W.heap.size = w7.heap.size + 1 := by rw [← hW]; simp
          have hbx : W.heap[w7.heap.size]? = some (.cells #[.int .i64 (m[t].1 : Nat), .int .i64 (flagN (f m[t].1) : Nat)] 154) := by rw [← hW]; exact (MapKept.heap_alloc w7 _).1
          have dW : Below W.heap.size W W.drew := ⟨rfl, rfl, rfl, Nat.le_refl _, fun _ _ => rfl⟩
          have CW := (hC.add bW).below dW
          have hlu := CW.M.at hm t htm
          have hV := CW.V m[t] (List.getElem_mem htm)
          obtain ⟨⟨b, g⟩, hbg⟩ : ∃ bg, m[t] = bg := ⟨_, rfl⟩
          have HLK : Hid (∀ w', Mp w' bs ns m → (Instr.lookup 99 (.map (some bs)) (.int .i64 (b : Nat)) false).run Tryz.prog w' = .ok (hv g) w') := fun w' h' => by
            have := h'.at hm t htm
            rwa [hbg] at this
          rw [hbg] at x0 x1 hlu hV hbx hW HS1
          simp only at x0 x1 hlu hV hbx hW
          clear hgt hgd hbg
          obtain ⟨q, hq⟩ : ∃ q, w7.heap.size = q := ⟨_, rfl⟩
          rw [hq] at hbx
          have hbc : ∀ w', w'.heap[q]? = some (.cells #[.int .i64 (b : Nat), .int .i64 (flagN (f b) : Nat)] 154) → Mp w' bs ns m → (w'.cell? ⟨q, 0, none⟩ = some (.int .i64 (b : Nat)) ∧ w'.cell? ⟨q, 1, none⟩ = some (.int .i64 (flagN (f b) : Nat)) ∧ (Instr.lookup 99 (.map (some bs)) (.int .i64 (b : Nat)) false).run Tryz.prog w' = .ok (hv g) w') := fun w' h1 h2 => ⟨by simp [World.cell?, h1], by simp [World.cell?, h1], HLK.out w' h2⟩
          have hqw : q ≠ wb := by have := hC.g.xl wb hC.g.xw; omega
          have k0 := hbc W.drew hbx CW.M
          go_wp2_with fail
          try rw [hW]
          try rw [hq]
          go_region_held3 (fun w' => w'.cell? ⟨q, 0, none⟩ = some (.int .i64 (b : Nat)) ∧ w'.cell? ⟨q, 1, none⟩ = some (.int .i64 (flagN (f b) : Nat)) ∧ (Instr.lookup 99 (.map (some bs)) (.int .i64 (b : Nat)) false).run Tryz.prog w' = .ok (hv g) w')
            (first | exact k0 | exact k4 | exact k5 | exact k6)
            (first
              | (go_at_call 89; refine (jat_succ CW.J (by omega) (by omega) t hp (by omega)).mono ?_; rintro e w4 ⟨rfl, b4⟩; have C4 := CW.below b4; have hbx4 := (b4.block q (heap_lt hbx)).trans hbx; have k4 := hbc w4 hbx4 C4.M)
              | (go_at_call 91; refine (hidden_any g (f b) (flagN (f b)) w4 ((b4.block g (heap_lt hV.1)).trans hV.1) hV.2.1 (flagN_le _)).mono ?_; rintro e w5 ⟨g5, rfl, l5, k5b, b5⟩; have C5 := C4.add b5; have hbx5 := (b5.block q (heap_lt hbx4)).trans hbx4; have k5 := hbc w5 hbx5 C5.M; obtain ⟨G5, D5, hG5, hX5⟩ := C5.g.dv)
              | (go_at_call 80; refine (wkwrite_ok D5 C5.g.wk (hX5 wb C5.g.xw) hla (st + 1 + (place + (t + 1)) % (sz - 1)) (by have := Nat.mod_lt (place + (t + 1)) (show 0 < sz - 1 by omega); omega) (some ⟨g5, 0, none⟩) 512 _ (Lies.full k5b (hidB_len hV.2.1 _)) (hidB_by hV.2.2 _) (fun ad e => by cases e; exact hX5 g5 (Or.inr ⟨l5, heap_lt k5b⟩)) (by omega)).mono ?_; rintro e w6 ⟨rfl, q6⟩; have C6 := C5.wrt hG5 hX5 q6; have hbx6 := (q6.tr.block q (heap_lt hbx5) (fun r => r.elim (hX5 q (Or.inl (Or.inr (by omega)))) hqw)).trans hbx5; have k6 := hbc w6 hbx6 C6.M))
          all_goals
            have C7 := C6.less (Y := fun i => X i ∨ i = gl) (fun i hi => Or.inl (Or.inl hi)) hC.g.xw hC.xj.1 hC.xa.1 hC.xm.1 (fun p hp => (hC.xv p hp).1) (fun p hp => (hC.xva p hp).1)
            have hR6 : Lns w6 (.slice (some ⟨gl, 0, none⟩) p lc) (lnsOf f m) := ((((hR.below bW).below dW).below b4).below b5).turns q6.tr (fun b hb r => by cases hb; exact r.elim (hX5 gl (Or.inl (Or.inl (Or.inr rfl)))) hglw)
            rw [← HS1.out] at C7
            clear C6 C5 C4 CW q6 D5 hG5 hX5 hR hC k0 k4 k5 k6 b4 b5 k5b l5 hbx hbx4 hbx5 hbx6 hV x0 x1 hlu hbc bW dW hW sW hla
            go_wp2_with fail
            go_roundw
            case rel => exact ⟨t + 1, by omega, by go_num, C7, hR6⟩
            case measure => simp [intOf]; omega
        · have hti : ¬ (t : Int) < p := by omega
          obtain rfl : t = p := by omega
          have hla : Lasts (hidS S st sz place seq f m t) 3 := hidS_lasts t _ (hS.mono (by omega))
          have HSF : Hid (comS S st sz place seq f m = flushed (burnt (wrote (burnt (flushed (burnt (hidS S st sz place seq f m t)))) (st + 1 + (place + (t + 1)) % (sz - 1)) (comB seq)))) := by
            show comS S st sz place seq f m = _
            unfold comS
            rw [HL.out]
            rfl
          generalize hidS S st sz place seq f m t = Z at *
          have hCX := hC.less (Y := X) (fun i hi => Or.inl hi) C1x.1 C1x.2.1 C1x.2.2.1 C1x.2.2.2.1 C1x.2.2.2.2.1 C1x.2.2.2.2.2
          clear hC hR
          obtain ⟨G, D, hG, hX⟩ := hCX.g.dv
          go_wp2_with fail
          refine (wkflush_ok D hCX.g.wk (hX wb hCX.g.xw) hla (by omega)).mono ?_
          rintro e w8 ⟨rfl, q8⟩
          have C8 := hCX.wrt hG hX q8
          have hl8 : Lasts (flushed (burnt Z)) 2 := hla.burnt.flushed
          clear hCX q8 D hX hG G
          generalize flushed (burnt Z) = Z8 at *
          have Cd := C8.below (w' := w8.drew) ⟨rfl, rfl, rfl, Nat.le_refl _, fun _ _ => rfl⟩
          have v3 := Cd.J.cells.c3
          go_wp2_with fail
          go_region_held3 (fun w' => w'.cell? ⟨jb, 3, none⟩ = some (.int .i64 seq))
            (first | exact v3 | exact v4 | exact v5 | exact v6)
            (first
              | (go_at_call 89; refine (jat_succ Cd.J (by omega) (by omega) t hp (by omega)).mono ?_; rintro e w4 ⟨rfl, b4⟩; have C4 := Cd.below b4; have v4 := C4.J.cells.c3)
              | (go_at_call 92; refine (commitBlock_any seq w4).mono ?_; rintro e w5 ⟨g5, rfl, l5, k5, b5⟩; have C5 := C4.add b5; have v5 := C5.J.cells.c3; obtain ⟨G5, D5, hG5, hX5⟩ := C5.g.dv)
              | (go_at_call 80; refine (wkwrite_ok D5 C5.g.wk (hX5 wb C5.g.xw) hl8 (st + 1 + (place + (t + 1)) % (sz - 1)) (by have := Nat.mod_lt (place + (t + 1)) (show 0 < sz - 1 by omega); omega) (some ⟨g5, 0, none⟩) 512 _ (Lies.full k5 (comB_len seq)) (comB_by seq) (fun ad e => by cases e; exact hX5 g5 (Or.inr ⟨l5, heap_lt k5⟩)) (by omega)).mono ?_; rintro e w6 ⟨rfl, q6⟩; have C6 := C5.wrt hG5 hX5 q6; have v6 := C6.J.cells.c3))
          have C9 := C6.less (Y := X) (fun i hi => Or.inl hi) C1x.1 C1x.2.1 C1x.2.2.1 C1x.2.2.2.1 C1x.2.2.2.2.1 C1x.2.2.2.2.2
          have hl9 : Lasts (wrote (burnt Z8) (st + 1 + (place + (t + 1)) % (sz - 1)) (comB seq)) 1 := hl8.burnt.wrote _ _
          clear C6 C5 C4 Cd C8 q6 D5 hG5 hX5 v3 v4 v5 v6 b4 b5 k5 l5
          generalize wrote (burnt Z8) (st + 1 + (place + (t + 1)) % (sz - 1)) (comB seq) = Z9 at *
          obtain ⟨G, D, hG, hX⟩ := C9.g.dv
          go_wp2_with fail
          refine (wkflush_ok D C9.g.wk (hX wb C9.g.xw) hl9 (by omega)).mono ?_
          rintro e wA ⟨rfl, qA⟩
          have CA := C9.wrt hG hX qA
          rw [← HSF.out] at CA
          clear C9 qA D hX hG G
          go_wp2_with fail
          refine (pass_ok CA.J CA.A CA.M hne ha hm (by rw [HL.out]; omega) hj1 hj2 (by omega) hp hs (by omega) (by rw [HL.out]; omega)).mono ?_
          rintro e wB ⟨rfl, JB, AB, MB, tB⟩
          have CB := CA.pass JB AB MB tB
          go_wp2
          first | go_end0 | refine bodyPost_ret (results_none rfl _ _ _) rfl ?_
          refine ⟨rfl, ?_⟩
          rw [HL.out, show N + t + 2 = N + 1 + t + 1 by omega]
          exact CB
end Go.Proofs.YtnmdnglbpkpfdaaGreatDoor

/- Commit by its contract, where there is room and nothing fails. -/
namespace Go.Proofs.YtnmdnglbpkpfdaaGreatDoor
open Go.RowKit Go.Maps
set_option maxRecDepth 100000
/-- An open transaction: its device, its journal, its own block, its maps and what their blocks hold; whose each block is. -/
structure Tx (w : World) (d : Nat) (S : DevS) (k N : Nat) (G : Nat → Prop) (jb st sz : Nat) (seq : Int) (place : Nat) (free : Int) (bm nd : Nat) (a : List (Nat × Nat)) (fa : Nat → List Int) (tb wm ns : Nat) (m : List (Nat × Nat)) (f : Nat → List Int) (sv : Value) (last : Int) : Prop where
  D : Dev w d 0 S k N G
  J : Jb w jb d st sz seq place free bm (some tb)
  T : Tb w tb jb wm sv last
  A : Mp w bm nd a
  VA : Vals w fa a
  M : Mp w wm ns m
  V : Vals w f m
  gj : ¬ G jb
  gt : ¬ G tb
  ga : ¬ G bm
  gm : ¬ G wm
  gv : ∀ p ∈ m, ¬ G p.2
  gva : ∀ p ∈ a, ¬ G p.2
  tj : tb ≠ jb
  tm : tb ≠ wm
  ta : tb ≠ bm
  jm : jb ≠ wm
  ja : jb ≠ bm
  am : bm ≠ wm
/-- A journal with no open transaction. -/
structure Jn (w : World) (d : Nat) (S : DevS) (k N : Nat) (G : Nat → Prop) (jb st sz : Nat) (seq : Int) (place : Nat) (free : Int) (bm nd : Nat) (a : List (Nat × Nat)) (fa : Nat → List Int) : Prop where
  D : Dev w d 0 S k N G
  J : Jb w jb d st sz seq place free bm none
  A : Mp w bm nd a
  VA : Vals w fa a
  gj : ¬ G jb
  ga : ¬ G bm
  gva : ∀ p ∈ a, ¬ G p.2
  ja : jb ≠ bm
/-- What is away once a transaction is in. -/
def mergeF (m : List (Nat × Nat)) (f fa : Nat → List Int) : Nat → List Int := fun b => if (lk m b).isSome then f b else fa b
theorem mmerge_mem : ∀ (m a : List (Nat × Nat)) (p : Nat × Nat), p ∈ mmerge a m → p ∈ m ∨ p ∈ a
  | [], a, p, h => Or.inr h
  | q :: m, a, p, h => by
    rcases mmerge_mem m (mput a q.1 q.2) p h with h | h
    · exact Or.inl (List.mem_cons_of_mem _ h)
    · rcases mput_mem h with h | h
      · exact Or.inl (by rw [h]; exact List.mem_cons_self)
      · exact Or.inr h
theorem Vals.merge {w : World} {a m : List (Nat × Nat)} {f fa : Nat → List Int} (ha : Rising a) (hm : Rising m) (hV : Vals w f m) (hVA : Vals w fa a) : Vals w (mergeF m f fa) (mmerge a m) := fun p hp => by
  have h1 := lk_mem (merge_rising ha m) hp
  rw [lk_merge m a p.1 ha hm] at h1
  unfold mergeF
  cases e : lk m p.1 with
  | some g =>
    rw [e] at h1
    simp at h1
    subst h1
    simpa using hV p (mem_lk e)
  | none =>
    rw [e] at h1
    simp at h1
    simpa using hVA p (mem_lk h1)
theorem Td.keep {F : Nat → Prop} {w w' : World} {tb : Nat} (h : Td w tb) (t : Turns F w w') (hF : ¬ F tb) : Td w' tb := (t.block tb (heap_lt h) hF).trans h
set_option maxHeartbeats 2000000 in
theorem txCommit_ok {w : World} {d : Nat} {S : DevS} {k N : Nat} {G : Nat → Prop} {jb st sz : Nat} {seq : Int} {place : Nat} {free : Int} {bm nd : Nat} {a : List (Nat × Nat)} {fa : Nat → List Int} {tb wm ns : Nat} {m : List (Nat × Nat)} {f : Nat → List Int} {sv : Value} {last : Int} (h : Tx w d S k N G jb st sz seq place free bm nd a fa tb wm ns m f sv last) (hl1 : 1 ≤ m.length) (hl : m.length ≤ 24) (ha : Low a) (hm : Low m) (hf : (m.length : Int) + 2 ≤ free) (hf2 : free ≤ 10000)
    (h1 : 27 ≤ sz) (h2 : st + sz ≤ k) (hk : k ≤ 4096) (hS : Lasts S (m.length + 4)) (hN : N ≤ 1000000000) (hp : place ≤ 4096) (hs : 0 ≤ seq ∧ seq ≤ 4611686018427387904) (hnd : nd ≤ 100000) :
    Calls Tryz.prog 14 #[.pointer (some ⟨tb, 0, none⟩)] w fun e w' => e = .returned (.int .i64 0) ∧ Td w' tb ∧ Turns (fun i => G i ∨ i = bm ∨ i = jb ∨ i = tb) w w' ∧ ∃ G', Jn w' d (comS S st sz place seq f m) k (N + m.length + 2) G' jb st sz (seq + 1) ((place + m.length + 2) % (sz - 1)) (free - (m.length + 2)) bm (nd + m.length) (mmerge a m) (mergeF m f fa) ∧ ∀ i, G' i → G i ∨ w.heap.size ≤ i := by
  have t0 := h.T.cells.c0
  have t1 := h.T.cells.c1
  go_enter Tryz.func14, Tryz.ntmps14
  go_wp2_with fail
  go_quiet (fail)
  go_wp2_with fail
  refine (close_ok (w := w.drewN _) h.T h.J h.tj).mono ?_
  rintro e w1 ⟨rfl, T1, J1, u1⟩
  have u1 : Turns (fun i => i = tb ∨ i = jb) w w1 := (Turns.drewN _ w _).trans u1 (fun _ _ h => h)
  have nv : ∀ (g : Nat) (l : List Int), w.heap[g]? = some (bl l) → ¬ (g = tb ∨ g = jb) := fun g l hg e => by
    rcases e with rfl | rfl
    · have := h.T; unfold Tb at this; rw [hg] at this; simp [bl] at this
    · have := h.J; unfold Jb at this; rw [hg] at this; simp [bl] at this
  have D1 := h.D.turns u1 (fun i hi h' => h'.elim (fun e => h.gt (e ▸ hi)) (fun e => h.gj (e ▸ hi)))
  have M1 := h.M.turns u1 (fun h' => h'.elim (fun e => h.tm e.symm) (fun e => h.jm e.symm))
  have A1 := h.A.turns u1 (fun h' => h'.elim (fun e => h.ta e.symm) (fun e => h.ja e.symm))
  have V1 := h.V.turns u1 (fun p hp => nv p.2 _ (h.V p hp).1)
  have VA1 := h.VA.turns u1 (fun p hp => nv p.2 _ (h.VA p hp).1)
  clear t0 t1 nv
  go_wp2_with fail
  refine (power_ok D1 J1 hS.on).mono ?_
  rintro e w2 ⟨rfl, q2⟩
  have M2 := M1.turns q2.2 h.gm
  have A2 := A1.turns q2.2 h.ga
  have V2 := V1.turns q2.2 h.gv
  have VA2 := VA1.turns q2.2 h.gva
  have T2 : Td w2 tb := T1.keep q2.2 h.gt
  have J2 : Jb w2 jb d st sz seq place free bm none := (q2.2.block jb (heap_lt J1) h.gj).trans J1
  have hsz : (Maps.size (mD m) : Int) = (m.length : Int) := by simp [mD, Maps.size_eq]
  have hln : ∀ (ty : TypeId), (Builtin.len_ #[99] ty #[.map (some wm)]).run Tryz.prog w2 = .ok (.int .i64 m.length) w2 := fun ty => by
    have := M2.own.len Tryz.underlying99 ty
    rwa [hsz] at this
  have tt : Turns (fun i => G i ∨ i = bm ∨ i = jb ∨ i = tb) w w2 := (u1.mono (fun _ _ h => Or.inr (Or.inr h.symm))).trans q2.2 (fun _ _ h => Or.inl h)
  have D2 := q2.1
  have hG2 := D2.lt
  have c3 := J2.cells.c3
  have c0 := J2.cells.c0
  have hm0 : ¬ (m.length : Int) = 0 := by omega
  have hs2 : ¬ (4611686018427387904 : Int) < seq := by omega
  clear D1 M1 T1 J1 u1 q2 hsz A1 V1 VA1
  go_wp2_with fail
  refine (begun_any D2).mono ?_
  rintro e w3 ⟨ev, rfl, hev, k3, q3⟩
  have he : begE S = 0 := by unfold begE; rw [if_neg (by simp [hS.on])]
  rw [he] at hev
  obtain ⟨_, rfl⟩ := hev.resolve_right (fun h => h.1 rfl)
  have g3 := Wg.start hG2 k3 q3
  obtain ⟨wb, hwb⟩ : ∃ wb, w2.heap.size = wb := ⟨_, rfl⟩
  have lj := heap_lt J2
  have lt := heap_lt T2
  have la := A2.own.lt
  have lm := M2.own.lt
  have t3 := q3.2
  have J3 : Jb w3 jb d st sz seq place free bm none := (t3.block jb lj h.gj).trans J2
  have A3 := A2.turns t3 h.ga
  have M3 := M2.turns t3 h.gm
  have V3 := V2.turns t3 h.gv
  have VA3 := VA2.turns t3 h.gva
  have C3 : Cm w2 w3 G (fun i => i = wb ∨ (i < wb ∧ ¬ G i)) wb d S k N jb st sz seq place free bm none nd a wm ns m f fa := by
    obtain ⟨G', D', hG', hX'⟩ := g3.dv
    rw [hwb] at g3
    refine ⟨⟨g3.wk, ⟨G, q3.1, fun _ hi => Or.inl hi, fun i hi r => hi.elim (fun e => by have := hG2 i r; omega) (fun e => e.2 r)⟩, fun i hi => by have := t3.size; have := heap_lt g3.wk; rcases hi with rfl | hi <;> omega, Or.inl rfl, g3.tr, g3.nw⟩, J3, A3, M3, V3, VA3, ⟨Or.inr ⟨by omega, h.gj⟩, by omega⟩, ⟨Or.inr ⟨by omega, h.ga⟩, by omega⟩, ⟨Or.inr ⟨by omega, h.gm⟩, by omega⟩, fun p hp => ?_, fun p hp => ?_⟩
    · have := heap_lt (V2 p hp).1
      exact ⟨Or.inr ⟨by omega, h.gv p hp⟩, by omega⟩
    · have := heap_lt (VA2 p hp).1
      exact ⟨Or.inr ⟨by omega, h.gva p hp⟩, by omega⟩
  clear c3 c0 hln g3 k3 q3 J3 A3 M3 V3 VA3
  try rw [hwb]
  go_wp2_with fail
  refine (jcommit_ok C3 hl1 hl ha hm hf hf2 h1 h2 hk hS hN hp (by omega) hnd h.am h.ja h.jm).mono ?_
  rintro e w4 ⟨rfl, C4⟩
  go_wp2_with fail
  refine (met_ok C4.wk).mono ?_
  rintro e w5 ⟨rfl, b5⟩
  have t4 := C4.tr
  obtain ⟨G4, D4, hG4, hX4⟩ := C4.dv
  have b5t := Below.turns b5 (fun _ => False)
  go_wp2
  go_ret
  have nT : ¬ (G tb ∨ tb = wb ∨ tb = bm ∨ tb = jb) := fun r => by
    rcases r with r | r | r | r
    · exact h.gt r
    · omega
    · exact h.ta r
    · exact h.tj r
  have T4 : Td w4 tb := T2.keep t4 nT
  refine ⟨rfl, T4.keep b5t id, ?_, G4, ⟨D4.turns b5t (fun _ _ => id), (b5.block jb (heap_lt C4.J)).trans C4.J, C4.A.turns b5t id, (Vals.merge h.A.ris h.M.ris C4.V C4.VA).below b5, hX4 jb (Or.inr ⟨by omega, h.gj⟩), hX4 bm (Or.inr ⟨by omega, h.ga⟩), fun p hp => ?_, h.ja⟩, fun i hi => ?_⟩
  · refine (tt.trans t4 (fun i hi r => ?_)).trans b5t (fun _ _ => False.elim)
    have := tt.size
    rcases r with r | r | r | r
    · exact Or.inl r
    · omega
    · exact Or.inr (Or.inl r)
    · exact Or.inr (Or.inr (Or.inl r))
  · rcases mmerge_mem m a p hp with hp | hp
    · have := heap_lt (V2 p hp).1
      exact hX4 p.2 (Or.inr ⟨by omega, h.gv p hp⟩)
    · have := heap_lt (VA2 p hp).1
      exact hX4 p.2 (Or.inr ⟨by omega, h.gva p hp⟩)
  · have := tt.size
    exact (hG4 i hi).imp id (fun r => by omega)
end Go.Proofs.YtnmdnglbpkpfdaaGreatDoor

/- Savepoints; maps.Clone by its contract. -/
namespace Go.Proofs.YtnmdnglbpkpfdaaGreatDoor
open Go.RowKit Go.Maps
set_option maxRecDepth 100000
/-- A savepoint: its mark; the box of the map that it keeps, the box of the transaction's pointer; the map, and what its blocks hold. -/
structure SvI where
  mark : Nat
  hb : Nat
  q : Nat
  hm : Nat
  hn : Nat
  m : List (Nat × Nat)
  f : Nat → List Int
def SvI.cells (s : SvI) : List Value := [.int .i64 (s.mark : Nat), .func (Fn.func 65) #[] #[.pointer (some ⟨s.hb, 0, none⟩), .pointer (some ⟨s.q, 0, none⟩)]]
def svC (l : List SvI) : List Value := l.flatMap SvI.cells
theorem Tx.same {w w' : World} {d : Nat} {S : DevS} {k N : Nat} {G : Nat → Prop} {jb st sz : Nat} {seq : Int} {place : Nat} {free : Int} {bm nd : Nat} {a : List (Nat × Nat)} {fa : Nat → List Int} {tb wm ns : Nat} {m : List (Nat × Nat)} {f : Nat → List Int} {sv : Value} {last : Int} (h : Tx w d S k N G jb st sz seq place free bm nd a fa tb wm ns m f sv last) (q : Same0 w w' d S k N G) : Tx w' d S k N G jb st sz seq place free bm nd a fa tb wm ns m f sv last :=
  { h with
    D := q.1
    J := (q.2.block jb (heap_lt h.J) h.gj).trans h.J
    T := (q.2.block tb (heap_lt h.T) h.gt).trans h.T
    A := h.A.turns q.2 h.ga
    VA := h.VA.turns q.2 h.gva
    M := h.M.turns q.2 h.gm
    V := h.V.turns q.2 h.gv }
theorem Tx.below {w w' : World} {d : Nat} {S : DevS} {k N : Nat} {G : Nat → Prop} {jb st sz : Nat} {seq : Int} {place : Nat} {free : Int} {bm nd : Nat} {a : List (Nat × Nat)} {fa : Nat → List Int} {tb wm ns : Nat} {m : List (Nat × Nat)} {f : Nat → List Int} {sv : Value} {last : Int} (h : Tx w d S k N G jb st sz seq place free bm nd a fa tb wm ns m f sv last) (b : Below w.heap.size w w') : Tx w' d S k N G jb st sz seq place free bm nd a fa tb wm ns m f sv last := h.same ⟨h.D.below b, Below.turns b G⟩
theorem own_typeJ {w : World} {base e s n q : Nat} {v : Value} {xs : List Value} {cs : Array Value} {t : Nat} {fz : Nat × Nat} (h : w.ownsRow base e s v n xs) (hq : w.heap[q]? = some (.cells cs t fz)) (ht : t ≠ e) : v.ownBlock ≠ some q := by
  intro he
  rcases h.2 with ⟨h1, _⟩ | ⟨g, cap, cur, h1, _, hh, _⟩
  · rw [h1] at he; cases he
  · rw [h1] at he; cases he
    rw [hh] at hq
    simp at hq
    exact ht hq.2.1.symm
theorem own_mapJ {w : World} {base e s n bm k : Nat} {v : Value} {xs : List Value} {m : List (Nat × Nat)} (h : w.ownsRow base e s v n xs) (hq : Mp w bm k m) : v.ownBlock ≠ some bm := by
  intro he
  obtain ⟨es, clock, hb, _⟩ := hq.own
  rcases h.2 with ⟨h1, _⟩ | ⟨g, cap, cur, h1, _, hh, _⟩
  · rw [h1] at he; cases he
  · rw [h1] at he; cases he
    rw [hh] at hb
    simp at hb
theorem mp_cells {w : World} {bm k b : Nat} {m : List (Nat × Nat)} {cs : Array Value} {t : Nat} {fz : Nat × Nat} (hq : Mp w bm k m) (hb : w.heap[b]? = some (.cells cs t fz)) : b ≠ bm := by
  rintro rfl
  obtain ⟨es, clock, h, _⟩ := hq.own
  rw [hb] at h
  simp at h
/-- Only blocks that are none of the transaction's, and its own block, have turned. -/
theorem Tx.move {w w' : World} {d : Nat} {S : DevS} {k N : Nat} {G : Nat → Prop} {jb st sz : Nat} {seq : Int} {place : Nat} {free : Int} {bm nd : Nat} {a : List (Nat × Nat)} {fa : Nat → List Int} {tb wm ns : Nat} {m : List (Nat × Nat)} {f : Nat → List Int} {sv : Value} {last : Int} {Y : Nat → Prop} {sv' : Value} {last' : Int} (h : Tx w d S k N G jb st sz seq place free bm nd a fa tb wm ns m f sv last) (t : Turns Y w w') (hG : ∀ i, G i → ¬ Y i) (hJ : ¬ Y jb) (hA : ¬ Y bm) (hM : ¬ Y wm) (hV : ∀ p ∈ m, ¬ Y p.2) (hVA : ∀ p ∈ a, ¬ Y p.2) (T' : Tb w' tb jb wm sv' last') : Tx w' d S k N G jb st sz seq place free bm nd a fa tb wm ns m f sv' last' :=
  { h with
    D := h.D.turns t hG
    J := (t.block jb (heap_lt h.J) hJ).trans h.J
    T := T'
    A := h.A.turns t hA
    VA := h.VA.turns t hVA
    M := h.M.turns t hM
    V := h.V.turns t hV }
/-- What a savepoint keeps. -/
structure Sp (w : World) (tb : Nat) (s : SvI) : Prop where
  h : w.heap[s.hb]? = some (.cells #[.map (some s.hm)] 99)
  q : w.heap[s.q]? = some (.cells #[.pointer (some ⟨tb, 0, none⟩)] 31)
  M : Mp w s.hm s.hn s.m
  V : Vals w s.f s.m
theorem Sp.turns {Y : Nat → Prop} {w w' : World} {tb : Nat} {s : SvI} (h : Sp w tb s) (t : Turns Y w w') (h1 : ¬ Y s.hb) (h2 : ¬ Y s.q) (h3 : ¬ Y s.hm) (h4 : ∀ p ∈ s.m, ¬ Y p.2) : Sp w' tb s :=
  ⟨(t.block _ (heap_lt h.h) h1).trans h.h, (t.block _ (heap_lt h.q) h2).trans h.q, h.M.turns t h3, h.V.turns t h4⟩
/-- A transaction's savepoints. -/
structure Svs (w : World) (G : Nat → Prop) (tb wm : Nat) (sv : Value) (l : List SvI) (la : Nat) : Prop where
  row : w.ownsRow 0 127 2 sv l.length (svC l)
  ris : l.Pairwise (fun a b => a.mark < b.mark)
  top : ∀ s ∈ l, s.mark ≤ la
  gr : ∀ b, sv.ownBlock = some b → ¬ G b
  sp : ∀ s ∈ l, Sp w tb s
  gs : ∀ s ∈ l, ¬ G s.hb ∧ ¬ G s.q ∧ ¬ G s.hm ∧ s.hm ≠ wm ∧ ∀ p ∈ s.m, ¬ G p.2
theorem Svs.turns {Y : Nat → Prop} {w w' : World} {G : Nat → Prop} {tb wm : Nat} {sv : Value} {l : List SvI} {la : Nat} (h : Svs w G tb wm sv l la) (t : Turns Y w w') (hr : ∀ b, sv.ownBlock = some b → ¬ Y b) (hs : ∀ s ∈ l, ¬ Y s.hb ∧ ¬ Y s.q ∧ ¬ Y s.hm ∧ ∀ p ∈ s.m, ¬ Y p.2) : Svs w' G tb wm sv l la :=
  { h with
    row := own_turns h.row t hr
    sp := fun s hs' => (h.sp s hs').turns t (hs s hs').1 (hs s hs').2.1 (hs s hs').2.2.1 (hs s hs').2.2.2 }
/-- What turns the device, the written map, or nothing old, leaves the savepoints. -/
theorem Svs.step {w w' : World} {G : Nat → Prop} {tb wm n : Nat} {sv : Value} {l : List SvI} {la : Nat} {m : List (Nat × Nat)} (h : Svs w G tb wm sv l la) (hM : Mp w wm n m) (t : Turns (fun i => G i ∨ i = wm) w w') : Svs w' G tb wm sv l la := by
  refine h.turns t (fun b hb q => q.elim (h.gr b hb) (fun e => own_mapJ h.row hM (by rw [hb, e]))) (fun s hs => ?_)
  obtain ⟨g1, g2, g3, g4, g5⟩ := h.gs s hs
  have p := h.sp s hs
  exact ⟨fun q => q.elim g1 (mp_cells hM p.h), fun q => q.elim g2 (mp_cells hM p.q), fun q => q.elim g3 g4, fun x hx q => q.elim (g5 x hx) (mp_cells hM (p.V x hx).1)⟩
theorem Svs.same {w w' : World} {G : Nat → Prop} {tb wm : Nat} {sv : Value} {l : List SvI} {la : Nat} (h : Svs w G tb wm sv l la) (t : Turns G w w') : Svs w' G tb wm sv l la :=
  h.turns t h.gr (fun s hs => ⟨(h.gs s hs).1, (h.gs s hs).2.1, (h.gs s hs).2.2.1, (h.gs s hs).2.2.2.2⟩)
end Go.Proofs.YtnmdnglbpkpfdaaGreatDoor

/- slices.Delete of the last savepoints, by its contract. -/
namespace Go.Proofs.YtnmdnglbpkpfdaaGreatDoor
open Go.RowKit Go.Maps
set_option maxRecDepth 100000
theorem Turns.setCells (g : Nat) : ∀ (vs : List Value) (o : Nat) (w : World), Turns (fun i => i = g) w (w.setCells g o vs)
  | [], _, w => Turns.refl _ w
  | v :: vs, o, w => (Turns.cell w g o v).trans (Turns.setCells g vs (o + 1) (w.setCell ⟨g, o, none⟩ v)) (fun _ _ h => h)
end Go.Proofs.YtnmdnglbpkpfdaaGreatDoor

/- Small functions of the statements of layer 7, by their contracts: num, block. -/
namespace Go.Proofs.YtnmdnglbpkpfdaaGreatDoor
open Go.RowKit Go.Maps
set_option maxRecDepth 100000
theorem num7 (x : Int) (w : World) : Calls Tryz.prog 15 #[.int .i64 x] w fun e w' => e = .returned (.int .i64 x) ∧ w' = w := by
  go_enter Tryz.func15, Tryz.ntmps15
  go_wp2
  go_ret
  exact ⟨rfl, rfl⟩
theorem cell_one7 (w : World) (x : Value) (t : TypeId) : ∀ j u, [x][j]? = some u → (w.alloc (.cells #[x] t)).cell? ((⟨w.heap.size, 0, none⟩ : Addr).add j) = some u := by
  intro j u hj
  match j, hj with
  | 0, hj => simp at hj; subst hj; simp [Addr.add]
/-- So many bytes, 512 of them. -/
def blkB (bs : List Int) : List Int := bs.take 512 ++ List.replicate (512 - bs.length) 0
theorem blkB_len (bs : List Int) : (blkB bs).length = 512 := by simp [blkB]; omega
theorem blkB_by {bs : List Int} (h : ∀ x ∈ bs, 0 ≤ x ∧ x ≤ 255) : ∀ x ∈ blkB bs, 0 ≤ x ∧ x ≤ 255 := fun x hx => by
  rcases List.mem_append.1 hx with hx | hx
  · exact h x (List.mem_of_mem_take hx)
  · have := List.eq_of_mem_replicate hx; omega
/-- A list of 512 bytes of one's own, from that block number on. -/
def B512 (w : World) (base : Nat) (v : Value) (bs : List Int) : Prop := w.ownsRow base 5 1 v 512 (bs.map (Value.int .u8))
set_option maxHeartbeats 2000000 in
theorem block7 (ao : Option Addr) (n c : Nat) (bs : List Int) (w : World) (hn : n ≤ 140737488355328) (hL : Lies w ao n c bs) :
    Calls Tryz.prog 28 #[.slice ao n c] w fun e w' => ∃ g cap, e = .returned (.slice (some ⟨g, 0, none⟩) 512 cap) ∧ B512 w' w.heap.size (.slice (some ⟨g, 0, none⟩) 512 cap) (blkB bs) ∧ Below w.heap.size w w' := by
  obtain ⟨i0, hi, hz0, hz1, hz2⟩ := info_parts Tryz.info5
  have hl := hL.hlen
  have hni : (n : Int) ≤ 140737488355328 := by omega
  go_enter Tryz.func28, Tryz.ntmps28
  go_wp2_with fail
  refine (bytes29_any ao n c bs w hn hL).mono ?_
  rintro e w1 ⟨a1, c1, rfl, o1, b1⟩
  have s1 := b1.size
  have HBL : Hid (bs.length = n) := hl
  clear hl
  by_cases h5 : 512 < n
  · have h5i : (512 : Int) < n := by omega
    rcases o1.2 with ⟨_, h0⟩ | ⟨g, cap, cur, hv, hg, hh, k1, k2, k3, k4⟩
    · omega
    cases hv
    have hci : (512 : Int) ≤ c1 := by omega
    have hcn : 512 ≤ c1 := by omega
    have HO : Hid (B512 w1 w.heap.size (.slice (some ⟨g, 0, none⟩) 512 c1) (blkB bs)) := by
      refine ⟨by simp [blkB_len], Or.inr ⟨g, c1, cur, rfl, hg, hh, by omega, k2, k3, ?_⟩⟩
      have e : blkB bs = bs.take 512 := by
        unfold blkB
        rw [show 512 - bs.length = 0 by rw [HBL.out]; omega]
        simp
      rw [e, List.map_take, ← k4, List.take_take, Nat.min_eq_left (by omega)]
    clear hh k4 o1
    go_wp2_with fail
    refine wp_loop_rounds 1 ?_
    rw [rounds_succ]
    go_wp2_with fail
    go_ret
    exact ⟨g, c1, rfl, HO.out, b1⟩
  · have h5i : ¬ (512 : Int) < n := by omega
    have h5n : n ≤ 512 := by omega
    go_wp2_with fail
    go_loopw [3] (fun v wr => ∃ k : Nat, n ≤ k ∧ k ≤ 512 ∧ wr.ownsRow w.heap.size 5 1 v k ((bs ++ List.replicate (k - n) 0).map (Value.int .u8)) ∧ Below w.heap.size w wr) (fun v _ => 512 - (match v with | .slice _ k _ => k | _ => 0))
    case atStart => exact ⟨n, Nat.le_refl _, h5n, by simpa using o1, b1⟩
    case round =>
      obtain ⟨k, hk, hk5, ho, hb⟩ := hrel
      obtain ⟨ak, ck, rfl⟩ := row_slice ho
      have hki : (k : Int) ≤ 512 := by omega
      have sb := hb.size
      by_cases hlt : k < 512
      · have hlti : (k : Int) < 512 := by omega
        go_wp2_with (first
          | (at_builtin; refine wpList_append_own _ rfl _ _ 56 rfl w.heap.size 5 i0 (.int .u8 0) 1 1 Tryz.underlying56 hi hz0 hz1 hz2 rfl (by decide) _ _ _ rfl (ho.alloc _) ⟨wr.heap.size, 0, none⟩ 1 1 [.int .u8 0] rfl rfl (cell_one7 _ _ _) (by intro u hu; simp at hu; subst hu; rfl) (by unfold maxLen; omega) (by omega) (by simp; omega) ?_; intro v' w3 hown3 hgrow3 hnil3))
        have hbw3 : Below w.heap.size w w3 := (hb.alloc sb _).grown hgrow3 (by simp; omega) (fun b hb' => (ho.lt b hb').1)
        have e : (bs ++ List.replicate (k - n) 0).map (Value.int .u8) ++ [Value.int .u8 0] = (bs ++ List.replicate (k + 1 - n) 0).map (Value.int .u8) := by
          rw [show k + 1 - n = (k - n) + 1 by omega, List.replicate_succ']
          simp
        rw [e] at hown3
        obtain ⟨a3, c3, rfl⟩ := row_slice hown3
        go_roundw
        case rel => exact ⟨k + 1, by omega, by omega, hown3, hbw3⟩
        case measure => simp; omega
      · obtain rfl : k = 512 := by omega
        have HO : Hid (∃ g cap, Value.slice ak 512 ck = .slice (some ⟨g, 0, none⟩) 512 cap) := by
          rcases ho.2 with ⟨_, h0⟩ | ⟨g, cap, cur, hv, _⟩
          · omega
          · exact ⟨g, cap, hv⟩
        have e : blkB bs = bs ++ List.replicate (512 - n) 0 := by
          unfold blkB
          rw [HBL.out, List.take_of_length_le (by rw [HBL.out]; omega)]
        have HE : Hid (blkB bs = bs ++ List.replicate (512 - n) 0) := e
        clear e
        go_wp2_with fail
        go_ret
        obtain ⟨g, cap, hv⟩ := HO.out
        rw [hv] at ho
        refine ⟨g, cap, by exact congrArg Ending.returned hv, ?_, hb⟩
        unfold B512
        rw [HE.out]
        exact ho
end Go.Proofs.YtnmdnglbpkpfdaaGreatDoor
