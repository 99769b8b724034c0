/- What a commit holds while it works; what the device holds behind it. -/
import Derived.Test.YtlcjkbhcbiggcaaGreatDoorPk11
import Derived.Deep.AppendLies
namespace Go.Proofs.YtlcjkbhcbiggcaaGreatDoor
open Go.RowKit Go.Maps
set_option maxRecDepth 100000

theorem own_on {w w' : World} {base e s n : Nat} {v : Value} {xs : List Value} (h : w.ownsRow base e s v n xs) (hb : Below w.heap.size w w') : w'.ownsRow base e s v n xs := by
  obtain ⟨h1, h2⟩ := h
  refine ⟨h1, ?_⟩
  rcases h2 with h2 | ⟨g, cap, cur, hv, hg, hh, r⟩
  · exact Or.inl h2
  · exact Or.inr ⟨g, cap, cur, hv, hg, (hb.block g (heap_lt hh)).trans hh, r⟩
theorem own_zero {w : World} {base e s n : Nat} {v : Value} {xs : List Value} (h : w.ownsRow base e s v n xs) : w.ownsRow 0 e s v n xs := by
  obtain ⟨h1, h2⟩ := h
  refine ⟨h1, ?_⟩
  rcases h2 with h2 | ⟨g, cap, cur, hv, hg, r⟩
  · exact Or.inl h2
  · exact Or.inr ⟨g, cap, cur, hv, Nat.zero_le _, r⟩
theorem Lns.below {w w' : World} {lv : Value} {ls : List (Nat × Nat)} (h : Lns w lv ls) (hb : Below w.heap.size w w') : Lns w' lv ls := ⟨own_on h.row hb⟩
theorem Lns.turns {F : Nat → Prop} {w w' : World} {lv : Value} {ls : List (Nat × Nat)} (h : Lns w lv ls) (t : Turns F w w') (hF : ∀ b, lv.ownBlock = some b → ¬ F b) : Lns w' lv ls := ⟨own_turns h.row t hF⟩
theorem flagN_le (bs : List Int) : flagN bs ≤ 2 := by unfold flagN; split <;> (try split) <;> omega
/-- The lines of a descriptor: each block with its flag. -/
def lnsOf (f : Nat → List Int) (m : List (Nat × Nat)) : List (Nat × Nat) := m.map fun p => (p.1, flagN (f p.1))
theorem lnsOf_len (f : Nat → List Int) (m : List (Nat × Nat)) : (lnsOf f m).length = m.length := by simp [lnsOf]
theorem lnsOf_take (f : Nat → List Int) (m : List (Nat × Nat)) (p : Nat) (h : p < m.length) : lnsOf f (m.take (p + 1)) = lnsOf f (m.take p) ++ [(m[p].1, flagN (f m[p].1))] := by
  unfold lnsOf
  rw [List.take_succ_eq_append_getElem h, List.map_append]
  rfl
theorem lnC_snoc (l : List (Nat × Nat)) (p : Nat × Nat) : lnC (l ++ [p]) = lnC l ++ [.int .i64 p.1, .int .i64 p.2] := by simp [lnC]
/-- What a map's blocks hold. -/
def Vals (w : World) (f : Nat → List Int) (m : List (Nat × Nat)) : Prop := ∀ p ∈ m, w.heap[p.2]? = some (bl (f p.1)) ∧ (f p.1).length = 512 ∧ ∀ x ∈ f p.1, 0 ≤ x ∧ x ≤ 255
theorem Vals.turns {F : Nat → Prop} {w w' : World} {f : Nat → List Int} {m : List (Nat × Nat)} (h : Vals w f m) (t : Turns F w w') (hF : ∀ p ∈ m, ¬ F p.2) : Vals w' f m := fun p hp => ⟨(t.block _ (heap_lt (h p hp).1) (hF p hp)).trans (h p hp).1, (h p hp).2⟩
theorem Vals.below {w w' : World} {f : Nat → List Int} {m : List (Nat × Nat)} (h : Vals w f m) (b : Below w.heap.size w w') : Vals w' f m := h.turns (Below.turns b (fun _ => False)) (fun _ _ q => q)
/-- A map's element, without asking whether it is there. -/
theorem Mp.look1 {w : World} {bm n : Nat} {m : List (Nat × Nat)} (h : Mp w bm n m) (b : Nat) (hb : b < 4096) : (Instr.lookup 96 (.map (some bm)) (.int .i64 b) false).run Tryz.prog w = .ok (((lk m b).map hv).getD (.slice none 0 0)) w := by
  obtain ⟨v, ps, hrun, hv'⟩ := h.own.lookup law3 Tryz.underlying96 (zeroB w) (zd := .held (.slice none 0 0)) (zp := []) rfl (int_key b hb)
  rw [hrun]
  rw [mD_at] at hv'
  cases e : lk m b with
  | none => rw [e] at hv'; simp [RV] at hv'; rw [hv'.1]; rfl
  | some g => rw [e] at hv'; simp [RV] at hv'; rw [hv'.1]; rfl
theorem Mp.at {w : World} {bm n : Nat} {m : List (Nat × Nat)} (h : Mp w bm n m) (hm : Low m) (p : Nat) (hp : p < m.length) : (Instr.lookup 96 (.map (some bm)) (.int .i64 (m[p].1 : Nat)) false).run Tryz.prog w = .ok (hv m[p].2) w := by
  have := h.look1 m[p].1 (hm _ (List.getElem_mem hp))
  rwa [lk_mem h.ris (List.getElem_mem hp)] at this
/-- One block of the log is written. -/
def putL (S : DevS) (st sz place i : Nat) (bs : List Int) : DevS := wrote (burnt S) (st + 1 + (place + i) % (sz - 1)) bs
/-- The descriptor and the first i blocks of a transaction are written. -/
def hidS (S : DevS) (st sz place : Nat) (seq : Int) (f : Nat → List Int) (m : List (Nat × Nat)) : Nat → DevS
  | 0 => putL S st sz place 0 (desB seq (lnsOf f m))
  | i + 1 => putL (hidS S st sz place seq f m i) st sz place (i + 1) (hidB (f ((m.map (·.1)).getD i 0)) (flagN (f ((m.map (·.1)).getD i 0))))
/-- What a device holds behind a commit. -/
def comS (S : DevS) (st sz place : Nat) (seq : Int) (f : Nat → List Int) (m : List (Nat × Nat)) : DevS := flushed (burnt (putL (flushed (burnt (hidS S st sz place seq f m m.length))) st sz place (m.length + 1) (comB seq)))
theorem Lasts.putL {S : DevS} {n : Nat} (h : Lasts S (n + 1)) (st sz place i : Nat) (bs : List Int) : Lasts (putL S st sz place i bs) n := h.burnt.wrote _ _
theorem hidS_lasts {S : DevS} {st sz place : Nat} {seq : Int} {f : Nat → List Int} {m : List (Nat × Nat)} : ∀ (i n : Nat), Lasts S (i + 1 + n) → Lasts (hidS S st sz place seq f m i) n
  | 0, n, h => Lasts.putL (by rwa [show n + 1 = 0 + 1 + n by omega]) _ _ _ _ _
  | i + 1, n, h => Lasts.putL (hidS_lasts i (n + 1) (by rwa [show i + 1 + (n + 1) = i + 1 + 1 + n by omega])) _ _ _ _ _
theorem fillB_len512 {bs : List Int} (h : bs.length ≤ 512) : (fillB bs).length = 512 := fillB_len h
theorem desB_len (seq : Int) (ls : List (Nat × Nat)) (h : ls.length ≤ 24) : (desB seq ls).length = 512 := fillB_len (by simp [desH, lnB_len, be_length]; omega)
theorem lnB_by (ls : List (Nat × Nat)) : ∀ x ∈ lnB ls, 0 ≤ x ∧ x ≤ 255 := by
  intro x hx
  obtain ⟨p, _, hx⟩ := List.mem_flatMap.1 hx
  rcases List.mem_append.1 hx with hx | hx
  · exact be_by _ _ x hx
  · exact be_by _ _ x hx
theorem desB_by (seq : Int) (ls : List (Nat × Nat)) : ∀ x ∈ desB seq ls, 0 ≤ x ∧ x ≤ 255 := fillB_by (fun x hx => by
  simp only [desH, List.mem_append] at hx
  rcases hx with ((hx | hx) | hx) | hx
  · simp at hx; omega
  · exact be_by _ _ x hx
  · exact be_by _ _ x hx
  · exact lnB_by ls x hx)
theorem comB_len (seq : Int) : (comB seq).length = 512 := fillB_len (by simp [be_length])
theorem comB_by (seq : Int) : ∀ x ∈ comB seq, 0 ≤ x ∧ x ≤ 255 := fillB_by (fun x hx => by
  simp only [List.mem_append] at hx
  rcases hx with (hx | hx) | hx
  · simp at hx; omega
  · exact be_by _ _ x hx
  · exact be_by _ _ x hx)
theorem hidB_len {bs : List Int} (h : bs.length = 512) (f : Nat) : (hidB bs f).length = 512 := by
  unfold hidB
  split
  · exact h
  · simp [h]
theorem hidB_by {bs : List Int} (h : ∀ x ∈ bs, 0 ≤ x ∧ x ≤ 255) (f : Nat) : ∀ x ∈ hidB bs f, 0 ≤ x ∧ x ≤ 255 := by
  unfold hidB
  split
  · exact h
  · intro x hx
    rcases List.mem_append.1 hx with hx | hx
    · simp at hx; omega
    · exact h x (List.mem_of_mem_drop hx)
/-- What a commit holds while it works: the journal, its map of what is away, the transaction's map, and what their blocks hold. -/
structure Cm (w0 w : World) (F X : Nat → Prop) (wb d : Nat) (S : DevS) (k N : Nat) (jb st sz : Nat) (seq : Int) (place : Nat) (free : Int) (bm : Nat) (op : Option Nat) (nd : Nat) (a : List (Nat × Nat)) (bs ns : Nat) (m : List (Nat × Nat)) (f fa : Nat → List Int) : Prop where
  g : Wg w0 w F X wb d S k N
  J : Jb w jb d st sz seq place free bm op
  A : Mp w bm nd a
  M : Mp w bs ns m
  V : Vals w f m
  VA : Vals w fa a
  xj : X jb ∧ jb ≠ wb
  xa : X bm ∧ bm ≠ wb
  xm : X bs ∧ bs ≠ wb
  xv : ∀ p ∈ m, X p.2 ∧ p.2 ≠ wb
  xva : ∀ p ∈ a, X p.2 ∧ p.2 ≠ wb
theorem Cm.turn {w0 w w' : World} {F X Y : Nat → Prop} {wb d : Nat} {S S' : DevS} {k N N' : Nat} {jb st sz : Nat} {seq : Int} {place : Nat} {free : Int} {bm : Nat} {op : Option Nat} {nd : Nat} {a : List (Nat × Nat)} {bs ns : Nat} {m : List (Nat × Nat)} {f fa : Nat → List Int} (h : Cm w0 w F X wb d S k N jb st sz seq place free bm op nd a bs ns m f fa) (t : Turns Y w w') (hY : ∀ i, X i → i ≠ wb → ¬ Y i) (g' : Wg w0 w' F X wb d S' k N') : Cm w0 w' F X wb d S' k N' jb st sz seq place free bm op nd a bs ns m f fa :=
  ⟨g', (t.block jb (heap_lt h.J) (hY jb h.xj.1 h.xj.2)).trans h.J, h.A.turns t (hY bm h.xa.1 h.xa.2), h.M.turns t (hY bs h.xm.1 h.xm.2), h.V.turns t (fun p hp => hY p.2 (h.xv p hp).1 (h.xv p hp).2), h.VA.turns t (fun p hp => hY p.2 (h.xva p hp).1 (h.xva p hp).2), h.xj, h.xa, h.xm, h.xv, h.xva⟩
theorem Cm.below {w0 w w' : World} {F X : Nat → Prop} {wb d : Nat} {S : DevS} {k N : Nat} {jb st sz : Nat} {seq : Int} {place : Nat} {free : Int} {bm : Nat} {op : Option Nat} {nd : Nat} {a : List (Nat × Nat)} {bs ns : Nat} {m : List (Nat × Nat)} {f fa : Nat → List Int} (h : Cm w0 w F X wb d S k N jb st sz seq place free bm op nd a bs ns m f fa) (b : Below w.heap.size w w') : Cm w0 w' F X wb d S k N jb st sz seq place free bm op nd a bs ns m f fa :=
  h.turn (Below.turns b (fun _ => False)) (fun _ _ _ q => q) (h.g.below b)
/-- New blocks are not the device's. -/
theorem Cm.add {w0 w w' : World} {F X : Nat → Prop} {wb d : Nat} {S : DevS} {k N : Nat} {jb st sz : Nat} {seq : Int} {place : Nat} {free : Int} {bm : Nat} {op : Option Nat} {nd : Nat} {a : List (Nat × Nat)} {bs ns : Nat} {m : List (Nat × Nat)} {f fa : Nat → List Int} (h : Cm w0 w F X wb d S k N jb st sz seq place free bm op nd a bs ns m f fa) (b : Below w.heap.size w w') : Cm w0 w' F (fun i => X i ∨ (w.heap.size ≤ i ∧ i < w'.heap.size)) wb d S k N jb st sz seq place free bm op nd a bs ns m f fa := by
  have h' := h.below b
  exact ⟨h.g.add b, h'.J, h'.A, h'.M, h'.V, h'.VA, ⟨Or.inl h.xj.1, h.xj.2⟩, ⟨Or.inl h.xa.1, h.xa.2⟩, ⟨Or.inl h.xm.1, h.xm.2⟩, fun p hp => ⟨Or.inl (h.xv p hp).1, (h.xv p hp).2⟩, fun p hp => ⟨Or.inl (h.xva p hp).1, (h.xva p hp).2⟩⟩
theorem Cm.less {w0 w : World} {F X Y : Nat → Prop} {wb d : Nat} {S : DevS} {k N : Nat} {jb st sz : Nat} {seq : Int} {place : Nat} {free : Int} {bm : Nat} {op : Option Nat} {nd : Nat} {a : List (Nat × Nat)} {bs ns : Nat} {m : List (Nat × Nat)} {f fa : Nat → List Int} (h : Cm w0 w F X wb d S k N jb st sz seq place free bm op nd a bs ns m f fa) (hY : ∀ i, Y i → X i) (hw : Y wb) (hj : Y jb) (ha : Y bm) (hm : Y bs) (hv : ∀ p ∈ m, Y p.2) (hva : ∀ p ∈ a, Y p.2) : Cm w0 w F Y wb d S k N jb st sz seq place free bm op nd a bs ns m f fa :=
  ⟨h.g.less hY hw, h.J, h.A, h.M, h.V, h.VA, ⟨hj, h.xj.2⟩, ⟨ha, h.xa.2⟩, ⟨hm, h.xm.2⟩, fun p hp => ⟨hv p hp, (h.xv p hp).2⟩, fun p hp => ⟨hva p hp, (h.xva p hp).2⟩⟩
/-- A block is written, or all is flushed. -/
theorem Cm.wrt {w0 w w' : World} {F X G : Nat → Prop} {wb d : Nat} {S S' : DevS} {k N N' : Nat} {jb st sz : Nat} {seq : Int} {place : Nat} {free : Int} {bm : Nat} {op : Option Nat} {nd : Nat} {a : List (Nat × Nat)} {bs ns : Nat} {m : List (Nat × Nat)} {f fa : Nat → List Int} (h : Cm w0 w F X wb d S k N jb st sz seq place free bm op nd a bs ns m f fa) (hG : ∀ i, G i → F i ∨ w0.heap.size ≤ i) (hX : ∀ i, X i → ¬ G i) (q : Wrt w w' wb d S' k N' G) : Cm w0 w' F X wb d S' k N' jb st sz seq place free bm op nd a bs ns m f fa :=
  h.turn q.tr (fun i hi hw r => r.elim (hX i hi) hw) (h.g.wrt hG hX q).1
/-- What stands behind a commit. -/
structure Cmd (w0 w : World) (F X : Nat → Prop) (wb d : Nat) (S : DevS) (k N : Nat) (jb st sz : Nat) (seq : Int) (place : Nat) (free : Int) (bm : Nat) (op : Option Nat) (nd : Nat) (a : List (Nat × Nat)) (bs ns : Nat) (m : List (Nat × Nat)) (f fa : Nat → List Int) : Prop where
  wk : Wk w wb d .nilIface
  dv : ∃ G, Dev w d 0 S k N G ∧ (∀ i, G i → F i ∨ w0.heap.size ≤ i) ∧ ∀ i, X i → ¬ G i
  J : Jb w jb d st sz (seq + 1) ((place + m.length + 2) % (sz - 1) : Nat) (free - (m.length + 2)) bm op
  A : Mp w bm (nd + m.length) (mmerge a m)
  M : Mp w bs ns m
  V : Vals w f m
  VA : Vals w fa a
  tr : Turns (fun i => F i ∨ i = wb ∨ i = bm ∨ i = jb) w0 w
theorem mp_no_bl {w : World} {bm n : Nat} {m : List (Nat × Nat)} (h : Mp w bm n m) {bs : List Int} (hg : w.heap[bm]? = some (bl bs)) : False := by
  obtain ⟨es, clock, hb, _⟩ := h.own
  rw [hg] at hb
  simp [bl] at hb
theorem Cm.pass {w0 w w' : World} {F X : Nat → Prop} {wb d : Nat} {S : DevS} {k N : Nat} {jb st sz : Nat} {seq : Int} {place : Nat} {free : Int} {bm : Nat} {op : Option Nat} {nd : Nat} {a : List (Nat × Nat)} {bs ns : Nat} {m : List (Nat × Nat)} {f fa : Nat → List Int} (h : Cm w0 w F X wb d S k N jb st sz seq place free bm op nd a bs ns m f fa) (J : Jb w' jb d st sz (seq + 1) ((place + m.length + 2) % (sz - 1) : Nat) (free - (m.length + 2)) bm op) (A : Mp w' bm (nd + m.length) (mmerge a m)) (M : Mp w' bs ns m) (t : Turns (fun i => i = bm ∨ i = jb) w w') : Cmd w0 w' F X wb d S k N jb st sz seq place free bm op nd a bs ns m f fa := by
  obtain ⟨G, D, hG, hX⟩ := h.g.dv
  have nJ : ∀ (g : Nat) (bs : List Int), w.heap[g]? = some (bl bs) → ¬ (g = bm ∨ g = jb) := fun g bs hg e => by
    rcases e with rfl | rfl
    · exact mp_no_bl h.A hg
    · have := h.J; unfold Jb at this; rw [hg] at this; simp [bl] at this
  refine ⟨h.g.wk.turns t (fun e => e.elim h.xa.2.symm h.xj.2.symm), ⟨G, D.turns t (fun i hi e => ?_), hG, hX⟩, J, A, M, h.V.turns t (fun p hp => nJ p.2 _ (h.V p hp).1), h.VA.turns t (fun p hp => nJ p.2 _ (h.VA p hp).1), (h.g.tr.mono (G := fun i => F i ∨ i = wb ∨ i = bm ∨ i = jb) (fun i _ e => e.imp id Or.inl)).trans t (fun i _ e => Or.inr (Or.inr e))⟩
  · rcases e with rfl | rfl
    · exact hX _ h.xa.1 hi
    · exact hX _ h.xj.1 hi
theorem jat_succ {w : World} {jb d st sz : Nat} {seq free : Int} {place bm : Nat} {op : Option Nat} (h : Jb w jb d st sz seq place free bm op) (h1 : 2 ≤ sz ∧ sz ≤ 4096) (h2 : st ≤ 4096) (t : Nat) (hp : place ≤ 4096) (hb : t + 1 ≤ 4096) :
    Calls Tryz.prog 202 #[.pointer (some ⟨jb, 0, none⟩), .int .i64 (IntKind.i64.wrap ((t : Int) + 1))] w fun e w' => e = .returned (.int .i64 (st + 1 + (place + (t + 1)) % (sz - 1) : Nat)) ∧ Below w.heap.size w w' := by
  have := jat_any h h1 h2 (t + 1) hp hb
  rw [Go.IntWalk.i64_in _ ⟨by omega, by omega⟩]
  exact this
end Go.Proofs.YtlcjkbhcbiggcaaGreatDoor

/- commit by its contract, where there is room and nothing fails. -/
namespace Go.Proofs.YtlcjkbhcbiggcaaGreatDoor
open Go.RowKit Go.Maps
set_option maxRecDepth 100000

theorem Tryz.infoLine : (Tryz.prog.info? 250).map (fun i => (i.zero, i.size, i.bytes)) = some (some (.agg #[.int .i64 0, .int .i64 0]), 2, 16) := by kernel_rfl
set_option maxHeartbeats 8000000 in
theorem jcommit_ok {w0 w : World} {F X : Nat → Prop} {wb d : Nat} {S : DevS} {k N : Nat} {jb st sz nd ns bs : Nat} {seq free : Int} {place bm : Nat} {op : Option Nat} {a m : List (Nat × Nat)} {f fa : Nat → List Int} (h : Cm w0 w F X wb d S k N jb st sz seq place free bm op nd a bs ns m f fa) (hl1 : 1 ≤ m.length) (hl : m.length ≤ 24) (ha : Low a) (hm : Low m) (hf : (m.length : Int) + 2 ≤ free) (hf2 : free ≤ 10000)
    (h1 : 27 ≤ sz) (h2 : st + sz ≤ k) (hk : k ≤ 4096) (hS : Lasts S (m.length + 4)) (hN : N ≤ 1000000000) (hp : place ≤ 4096) (hs : 0 ≤ seq ∧ seq ≤ 4611686018427387905) (hnd : nd ≤ 100000) (hne : bm ≠ bs) (hj1 : jb ≠ bm) (hj2 : jb ≠ bs) :
    Calls Tryz.prog 149 #[.pointer (some ⟨jb, 0, none⟩), .map (some bs), .pointer (some ⟨wb, 0, none⟩)] w fun e w' => e = .returned (.tuple #[]) ∧ Cmd w0 w' F X wb d (comS S st sz place seq f m) k (N + m.length + 2) jb st sz seq place free bm op nd a bs ns m f fa := by
  obtain ⟨i0, hi0, hz0, hz1, hz2⟩ := info_parts Tryz.infoLine
  obtain ⟨c0, c1, c2, c3, c4, c5, c6, c7, c8, fz⟩ := h.J.cells
  have hsz : (Maps.size (mD m) : Int) = (m.length : Int) := by simp [mD, Maps.size_eq]
  have hlnd : ∀ (ty : TypeId), (Builtin.len_ #[96] ty #[.map (some bs)]).run Tryz.prog w.drew = .ok (.int .i64 m.length) w.drew := fun ty => by
    have := (map_turns h.M.own (Turns.drewN (fun _ => False) w 1) id).len Tryz.underlying96 ty
    rwa [hsz] at this
  have hw1 : IntKind.i64.wrap ((m.length : Int) + 2) = m.length + 2 := Go.IntWalk.i64_in _ ⟨by omega, by omega⟩
  have hnf : ¬ free < (m.length : Int) + 2 := by omega
  go_enter Tryz.func149, Tryz.ntmps149
  go_wp2_with fail
  go_region_held3 (fun w' => w'.cell? ⟨jb, 5, none⟩ = some (.int .i64 free) ∧ ∀ (ty : TypeId), (Builtin.len_ #[96] ty #[.map (some bs)]).run Tryz.prog w' = .ok (.int .i64 m.length) w')
    (first | exact ⟨c5, hlnd⟩)
    (fail)
  clear hlnd c0 c1 c2 c3 c4 c5 c6 c7 c8 fz
  have hD : Below w.heap.size w w.drew := ⟨rfl, rfl, rfl, Nat.le_refl _, fun _ _ => rfl⟩
  go_wp2_with fail
  refine (rising_any (h.below hD).M (by omega)).mono ?_
  rintro e w1 ⟨g1, q1, rfl, O1, b1⟩
  replace b1 := hD.trans b1
  have C1x : X wb ∧ X jb ∧ X bm ∧ X bs ∧ (∀ p ∈ m, X p.2) ∧ (∀ p ∈ a, X p.2) := ⟨h.g.xw, h.xj.1, h.xa.1, h.xm.1, fun p hp => (h.xv p hp).1, fun p hp => (h.xva p hp).1⟩
  have C1 := h.below b1
  obtain ⟨L, hL⟩ : ∃ L, m.length = L := ⟨_, rfl⟩
  have HL : Hid (m.length = L) := hL
  have hLi : (L : Int) ≤ 24 := by omega
  rw [hL] at O1 hl hl1 hf hS ⊢
  clear hL hw1 hnf hsz
  go_wp2_with fail
  go_loopw [6, 25] (fun v i wr => ∃ p : Nat, p ≤ L ∧ i = .int .i64 p ∧ wr.ownsRow w1.heap.size 250 2 v p (lnC (lnsOf f (m.take p))) ∧ Below w1.heap.size w1 wr) (fun _ i _ => L - (intOf i).toNat)
  case atStart => exact ⟨0, Nat.zero_le _, rfl, ⟨rfl, Or.inl ⟨rfl, rfl⟩⟩, Below.refl _ _⟩
  case round =>
    obtain ⟨p, hpL, rfl, hrow, hbw⟩ := hrel
    have Cr := C1.below hbw
    obtain ⟨la, lc, rfl⟩ := row_slice hrow
    by_cases hlt : p < L
    · have hpi : (p : Int) < L := by omega
      have hpm : p < m.length := by rw [HL.out]; exact hlt
      have x1 : wr.cell? ⟨g1, p, none⟩ = some (.int .i64 (m[p].1 : Nat)) := by
        have hO := own_on O1 hbw
        rcases hO.2 with ⟨q, _⟩ | ⟨g, cap, cur, q, _, hh, _, _, _, ht⟩
        · cases q
        · cases q
          have e : (m.map fun p => Value.int .i64 (p.1 : Int))[p]? = some (.int .i64 (m[p].1 : Nat)) := by simp [hpm]
          rw [← ht, List.getElem?_take] at e
          simp only [World.cell?, hh]
          rw [← Array.getElem?_toList]
          split at e
          · exact e
          · cases e
      have hlu := Cr.M.at hm p hpm
      have hV := Cr.V m[p] (List.getElem_mem hpm)
      have hsn := lnsOf_take f m p hpm
      obtain ⟨⟨b, g⟩, hbg⟩ : ∃ bg, m[p] = bg := ⟨_, rfl⟩
      have hlow := hm m[p] (List.getElem_mem hpm)
      rw [hbg] at x1 hlu hV hsn hlow
      simp only at x1 hlu hV hsn hlow
      have HSN : Hid (lnsOf f (m.take (p + 1)) = lnsOf f (m.take p) ++ [(b, flagN (f b))]) := hsn
      clear hbg hsn
      have hsw := hbw.size
      go_wp2_with (first
        | (go_at_call 201; refine (flagOf_any g _ _ hV.1 hV.2.1 hV.2.2).mono ?_; rintro e wn ⟨rfl, hwn⟩; subst wn)
        | (at_builtin; refine wpList_append_own _ rfl _ _ 248 rfl w1.heap.size 250 i0 (.agg #[.int .i64 0, .int .i64 0]) 2 16 Tryz.underlying248 hi0 hz0 hz1 hz2 rfl (by decide) _ _ _ rfl (hrow.alloc _) ⟨wr.heap.size, 0, none⟩ 1 1 [.int .i64 (b : Nat), .int .i64 (flagN (f b) : Nat)] rfl rfl (cell_two_new _ _ _ _) (by intro u hu; simp at hu; rcases hu with rfl | rfl <;> rfl) (by unfold maxLen; omega) (by omega) (by simp; omega) ?_; intro v' w3 hown3 hgrow3 hnil3))
      have hbw3 : Below w1.heap.size w1 w3 := (hbw.alloc hsw _).grown hgrow3 (by simp; omega) (fun b hb => (hrow.lt b hb).1)
      rw [← lnC_snoc _ (b, flagN (f b)), ← HSN.out] at hown3
      go_roundw
      case rel => exact ⟨p + 1, by omega, by go_num, hown3, hbw3⟩
      case measure => simp [intOf]; omega
    · have hpi : ¬ (p : Int) < L := by omega
      obtain rfl : p = L := by omega
      have hR : Lns wr (.slice la p lc) (lnsOf f m) := by
        refine ⟨?_⟩
        have e : m.take p = m := List.take_of_length_le (by rw [HL.out]; exact Nat.le_refl _)
        rw [e] at hrow
        rw [lnsOf_len, HL.out]
        exact own_zero hrow
      have hlnl : (lnsOf f m).length ≤ 24 := by rw [lnsOf_len, HL.out]; exact hl
      have hlns : ∀ p ∈ lnsOf f m, p.1 ≤ 4096 ∧ p.2 ≤ 2 := fun q hq => by
        obtain ⟨r, hr, rfl⟩ := List.mem_map.1 hq
        exact ⟨Nat.le_of_lt (hm r hr), flagN_le _⟩
      obtain ⟨gl, rfl, hgl⟩ : ∃ gl, la = some ⟨gl, 0, none⟩ ∧ w1.heap.size ≤ gl ∧ gl < wr.heap.size := by
        rcases hrow.2 with ⟨_, q⟩ | ⟨g, cap, cur, q, q2, hh, _⟩
        · omega
        · cases q; exact ⟨g, rfl, q2, heap_lt hh⟩
      have CY := (C1.add hbw).less (Y := fun i => X i ∨ i = gl) (fun i hi => hi.imp id (fun e => by subst e; exact hgl)) (Or.inl C1.g.xw) (Or.inl C1.xj.1) (Or.inl C1.xa.1) (Or.inl C1.xm.1) (fun p hp => Or.inl (C1.xv p hp).1) (fun p hp => Or.inl (C1.xva p hp).1)
      have hglw : gl ≠ wb := by have := C1.g.xl wb C1.g.xw; omega
      clear hrow O1 C1 b1 h Cr hgl
      have Cd := CY.below (w' := wr.drew) ⟨rfl, rfl, rfl, Nat.le_refl _, fun _ _ => rfl⟩
      have v3 := Cd.J.cells.c3
      have hRd : Lns wr.drew (.slice (some ⟨gl, 0, none⟩) p lc) (lnsOf f m) := hR.below ⟨rfl, rfl, rfl, Nat.le_refl _, fun _ _ => rfl⟩
      clear hR
      go_wp2_with fail
      go_region_held3 (fun w' => w'.cell? ⟨jb, 3, none⟩ = some (.int .i64 seq))
        (first | exact v3 | exact v4 | exact v5 | exact v6)
        (first
          | (go_at_call 202; refine (jat_any Cd.J (by omega) (by omega) 0 hp (by omega)).mono ?_; rintro e w4 ⟨rfl, b4⟩; have C4 := Cd.below b4; have v4 := C4.J.cells.c3)
          | (go_at_call 203; refine (descriptorBlock_any seq _ (lnsOf f m) w4 (hRd.below b4) hlnl hlns).mono ?_; rintro e w5 ⟨g5, rfl, l5, k5, b5⟩; have C5 := C4.add b5; have v5 := C5.J.cells.c3; obtain ⟨G5, D5, hG5, hX5⟩ := C5.g.dv)
          | (go_at_call 70; refine (wkwrite_ok D5 C5.g.wk (hX5 wb C5.g.xw) (m := p + 3) hS (st + 1 + (place + 0) % (sz - 1)) (by have := Nat.mod_lt (place + 0) (show 0 < sz - 1 by omega); omega) (some ⟨g5, 0, none⟩) 512 _ (Lies.full k5 (desB_len seq _ hlnl)) (desB_by seq _) (fun ad e => by cases e; exact hX5 g5 (Or.inr ⟨l5, heap_lt k5⟩)) (by omega)).mono ?_; rintro e w6 ⟨rfl, q6⟩; have C6 := C5.wrt hG5 hX5 q6; have v6 := C6.J.cells.c3))
      have C7 := C6.less (Y := fun i => X i ∨ i = gl) (fun i hi => Or.inl hi) Cd.g.xw Cd.xj.1 Cd.xa.1 Cd.xm.1 (fun p hp => (Cd.xv p hp).1) (fun p hp => (Cd.xva p hp).1)
      have hR6 : Lns w6 (.slice (some ⟨gl, 0, none⟩) p lc) (lnsOf f m) := (hRd.below (b4.trans (b5.mono b4.size))).turns q6.tr (fun b hb r => by cases hb; exact r.elim (hX5 gl (Or.inl (Or.inr rfl))) hglw)
      have C8 : Cm w0 w6 F (fun i => X i ∨ i = gl) wb d (hidS S st sz place seq f m 0) k (N + 1) jb st sz seq place free bm op nd a bs ns m f fa := C7
      clear C7 C6 C5 C4 Cd CY q6 D5 hG5 hX5 hRd v3 v4 v5 v6 b4 b5 k5 l5
      go_wp2_with fail
      go_loopw [51] (fun i wr => ∃ t : Nat, t ≤ p ∧ i = .int .i64 t ∧ Cm w0 wr F (fun i => X i ∨ i = gl) wb d (hidS S st sz place seq f m t) k (N + 1 + t) jb st sz seq place free bm op nd a bs ns m f fa ∧ Lns wr (.slice (some ⟨gl, 0, none⟩) p lc) (lnsOf f m)) (fun i _ => p - (intOf i).toNat)
      case atStart => exact ⟨0, Nat.zero_le _, rfl, C8, hR6⟩
      case round =>
        clear C8 hR6
        obtain ⟨t, htp, rfl, hC, hR⟩ := hrel
        obtain ⟨w7, hw7⟩ : ∃ w7, w7 = wr := ⟨wr, rfl⟩
        subst hw7
        by_cases hlt : t < p
        · have hti : (t : Int) < p := by omega
          have htm : t < m.length := by rw [HL.out]; exact hlt
          have hgt : (lnsOf f m)[t]? = some (m[t].1, flagN (f m[t].1)) := by simp [lnsOf, htm]
          obtain ⟨gl', lc', hgl', x0, x1⟩ := hR.get hgt
          have hge : gl' = gl := by
            injection hgl' with e1 _ _
            injection e1 with e1
            injection e1 with e1
            exact e1.symm
          rw [hge] at x0 x1
          clear hgl' hge
          have hla : Lasts (hidS S st sz place seq f m t) (p - t + 1 + 1) := hidS_lasts t _ (hS.mono (by omega))
          have hgd : (m.map (·.1)).getD t 0 = m[t].1 := by simp [htm]
          have HS1 : Hid (hidS S st sz place seq f m (t + 1) = wrote (burnt (hidS S st sz place seq f m t)) (st + 1 + (place + (t + 1)) % (sz - 1)) (hidB (f m[t].1) (flagN (f m[t].1)))) := by
            show putL _ _ _ _ _ _ = _
            rw [hgd]
            rfl
          generalize hidS S st sz place seq f m t = Z at *
          obtain ⟨W, hW⟩ : ∃ W, w7.alloc (.cells #[.int .i64 (m[t].1 : Nat), .int .i64 (flagN (f m[t].1) : Nat)] 250) = W := ⟨_, rfl⟩
          have bW : Below w7.heap.size w7 W := by rw [← hW]; exact (Below.refl _ w7).alloc (Nat.le_refl _) _
          have sW : W.heap.size = w7.heap.size + 1 := by rw [← hW]; simp
          have hbx : W.heap[w7.heap.size]? = some (.cells #[.int .i64 (m[t].1 : Nat), .int .i64 (flagN (f m[t].1) : Nat)] 250) := by rw [← hW]; exact (MapKept.heap_alloc w7 _).1
          have dW : Below W.heap.size W W.drew := ⟨rfl, rfl, rfl, Nat.le_refl _, fun _ _ => rfl⟩
          have CW := (hC.add bW).below dW
          have hlu := CW.M.at hm t htm
          have hV := CW.V m[t] (List.getElem_mem htm)
          obtain ⟨⟨b, g⟩, hbg⟩ : ∃ bg, m[t] = bg := ⟨_, rfl⟩
          have HLK : Hid (∀ w', Mp w' bs ns m → (Instr.lookup 96 (.map (some bs)) (.int .i64 (b : Nat)) false).run Tryz.prog w' = .ok (hv g) w') := fun w' h' => by
            have := h'.at hm t htm
            rwa [hbg] at this
          rw [hbg] at x0 x1 hlu hV hbx hW HS1
          simp only at x0 x1 hlu hV hbx hW
          clear hgt hgd hbg
          obtain ⟨q, hq⟩ : ∃ q, w7.heap.size = q := ⟨_, rfl⟩
          rw [hq] at hbx
          have hbc : ∀ w', w'.heap[q]? = some (.cells #[.int .i64 (b : Nat), .int .i64 (flagN (f b) : Nat)] 250) → Mp w' bs ns m → (w'.cell? ⟨q, 0, none⟩ = some (.int .i64 (b : Nat)) ∧ w'.cell? ⟨q, 1, none⟩ = some (.int .i64 (flagN (f b) : Nat)) ∧ (Instr.lookup 96 (.map (some bs)) (.int .i64 (b : Nat)) false).run Tryz.prog w' = .ok (hv g) w') := fun w' h1 h2 => ⟨by simp [World.cell?, h1], by simp [World.cell?, h1], HLK.out w' h2⟩
          have hqw : q ≠ wb := by have := hC.g.xl wb hC.g.xw; omega
          have k0 := hbc W.drew hbx CW.M
          go_wp2_with fail
          try rw [hW]
          try rw [hq]
          go_region_held3 (fun w' => w'.cell? ⟨q, 0, none⟩ = some (.int .i64 (b : Nat)) ∧ w'.cell? ⟨q, 1, none⟩ = some (.int .i64 (flagN (f b) : Nat)) ∧ (Instr.lookup 96 (.map (some bs)) (.int .i64 (b : Nat)) false).run Tryz.prog w' = .ok (hv g) w')
            (first | exact k0 | exact k4 | exact k5 | exact k6)
            (first
              | (go_at_call 202; refine (jat_succ CW.J (by omega) (by omega) t hp (by omega)).mono ?_; rintro e w4 ⟨rfl, b4⟩; have C4 := CW.below b4; have hbx4 := (b4.block q (heap_lt hbx)).trans hbx; have k4 := hbc w4 hbx4 C4.M)
              | (go_at_call 204; refine (hidden_any g (f b) (flagN (f b)) w4 ((b4.block g (heap_lt hV.1)).trans hV.1) hV.2.1 (flagN_le _)).mono ?_; rintro e w5 ⟨g5, rfl, l5, k5b, b5⟩; have C5 := C4.add b5; have hbx5 := (b5.block q (heap_lt hbx4)).trans hbx4; have k5 := hbc w5 hbx5 C5.M; obtain ⟨G5, D5, hG5, hX5⟩ := C5.g.dv)
              | (go_at_call 70; refine (wkwrite_ok D5 C5.g.wk (hX5 wb C5.g.xw) hla (st + 1 + (place + (t + 1)) % (sz - 1)) (by have := Nat.mod_lt (place + (t + 1)) (show 0 < sz - 1 by omega); omega) (some ⟨g5, 0, none⟩) 512 _ (Lies.full k5b (hidB_len hV.2.1 _)) (hidB_by hV.2.2 _) (fun ad e => by cases e; exact hX5 g5 (Or.inr ⟨l5, heap_lt k5b⟩)) (by omega)).mono ?_; rintro e w6 ⟨rfl, q6⟩; have C6 := C5.wrt hG5 hX5 q6; have hbx6 := (q6.tr.block q (heap_lt hbx5) (fun r => r.elim (hX5 q (Or.inl (Or.inr (by omega)))) hqw)).trans hbx5; have k6 := hbc w6 hbx6 C6.M))
          all_goals
            have C7 := C6.less (Y := fun i => X i ∨ i = gl) (fun i hi => Or.inl (Or.inl hi)) hC.g.xw hC.xj.1 hC.xa.1 hC.xm.1 (fun p hp => (hC.xv p hp).1) (fun p hp => (hC.xva p hp).1)
            have hR6 : Lns w6 (.slice (some ⟨gl, 0, none⟩) p lc) (lnsOf f m) := ((((hR.below bW).below dW).below b4).below b5).turns q6.tr (fun b hb r => by cases hb; exact r.elim (hX5 gl (Or.inl (Or.inl (Or.inr rfl)))) hglw)
            rw [← HS1.out] at C7
            clear C6 C5 C4 CW q6 D5 hG5 hX5 hR hC k0 k4 k5 k6 b4 b5 k5b l5 hbx hbx4 hbx5 hbx6 hV x0 x1 hlu hbc bW dW hW sW hla
            go_wp2_with fail
            go_roundw
            case rel => exact ⟨t + 1, by omega, by go_num, C7, hR6⟩
            case measure => simp [intOf]; omega
        · have hti : ¬ (t : Int) < p := by omega
          obtain rfl : t = p := by omega
          have hla : Lasts (hidS S st sz place seq f m t) 3 := hidS_lasts t _ (hS.mono (by omega))
          have HSF : Hid (comS S st sz place seq f m = flushed (burnt (wrote (burnt (flushed (burnt (hidS S st sz place seq f m t)))) (st + 1 + (place + (t + 1)) % (sz - 1)) (comB seq)))) := by
            show comS S st sz place seq f m = _
            unfold comS
            rw [HL.out]
            rfl
          generalize hidS S st sz place seq f m t = Z at *
          have hCX := hC.less (Y := X) (fun i hi => Or.inl hi) C1x.1 C1x.2.1 C1x.2.2.1 C1x.2.2.2.1 C1x.2.2.2.2.1 C1x.2.2.2.2.2
          clear hC hR
          obtain ⟨G, D, hG, hX⟩ := hCX.g.dv
          go_wp2_with fail
          refine (wkflush_ok D hCX.g.wk (hX wb hCX.g.xw) hla (by omega)).mono ?_
          rintro e w8 ⟨rfl, q8⟩
          have C8 := hCX.wrt hG hX q8
          have hl8 : Lasts (flushed (burnt Z)) 2 := hla.burnt.flushed
          clear hCX q8 D hX hG G
          generalize flushed (burnt Z) = Z8 at *
          have Cd := C8.below (w' := w8.drew) ⟨rfl, rfl, rfl, Nat.le_refl _, fun _ _ => rfl⟩
          have v3 := Cd.J.cells.c3
          go_wp2_with fail
          go_region_held3 (fun w' => w'.cell? ⟨jb, 3, none⟩ = some (.int .i64 seq))
            (first | exact v3 | exact v4 | exact v5 | exact v6)
            (first
              | (go_at_call 202; refine (jat_succ Cd.J (by omega) (by omega) t hp (by omega)).mono ?_; rintro e w4 ⟨rfl, b4⟩; have C4 := Cd.below b4; have v4 := C4.J.cells.c3)
              | (go_at_call 205; refine (commitBlock_any seq w4).mono ?_; rintro e w5 ⟨g5, rfl, l5, k5, b5⟩; have C5 := C4.add b5; have v5 := C5.J.cells.c3; obtain ⟨G5, D5, hG5, hX5⟩ := C5.g.dv)
              | (go_at_call 70; refine (wkwrite_ok D5 C5.g.wk (hX5 wb C5.g.xw) hl8 (st + 1 + (place + (t + 1)) % (sz - 1)) (by have := Nat.mod_lt (place + (t + 1)) (show 0 < sz - 1 by omega); omega) (some ⟨g5, 0, none⟩) 512 _ (Lies.full k5 (comB_len seq)) (comB_by seq) (fun ad e => by cases e; exact hX5 g5 (Or.inr ⟨l5, heap_lt k5⟩)) (by omega)).mono ?_; rintro e w6 ⟨rfl, q6⟩; have C6 := C5.wrt hG5 hX5 q6; have v6 := C6.J.cells.c3))
          have C9 := C6.less (Y := X) (fun i hi => Or.inl hi) C1x.1 C1x.2.1 C1x.2.2.1 C1x.2.2.2.1 C1x.2.2.2.2.1 C1x.2.2.2.2.2
          have hl9 : Lasts (wrote (burnt Z8) (st + 1 + (place + (t + 1)) % (sz - 1)) (comB seq)) 1 := hl8.burnt.wrote _ _
          clear C6 C5 C4 Cd C8 q6 D5 hG5 hX5 v3 v4 v5 v6 b4 b5 k5 l5
          generalize wrote (burnt Z8) (st + 1 + (place + (t + 1)) % (sz - 1)) (comB seq) = Z9 at *
          obtain ⟨G, D, hG, hX⟩ := C9.g.dv
          go_wp2_with fail
          refine (wkflush_ok D C9.g.wk (hX wb C9.g.xw) hl9 (by omega)).mono ?_
          rintro e wA ⟨rfl, qA⟩
          have CA := C9.wrt hG hX qA
          rw [← HSF.out] at CA
          clear C9 qA D hX hG G
          go_wp2_with fail
          refine (pass_ok CA.J CA.A CA.M hne ha hm (by rw [HL.out]; omega) hj1 hj2 (by omega) hp hs (by omega) (by rw [HL.out]; omega)).mono ?_
          rintro e wB ⟨rfl, JB, AB, MB, tB⟩
          have CB := CA.pass JB AB MB tB
          go_wp2
          first | go_end0 | refine bodyPost_ret (results_none rfl _ _ _) rfl ?_
          refine ⟨rfl, ?_⟩
          rw [HL.out, show N + t + 2 = N + 1 + t + 1 by omega]
          exact CB
end Go.Proofs.YtlcjkbhcbiggcaaGreatDoor

/- What a call holds while it works on the device, whatever it meets. -/
namespace Go.Proofs.YtlcjkbhcbiggcaaGreatDoor
open Go.RowKit Go.Maps
set_option maxRecDepth 100000

/-- As Wg, with the error that the work has met. -/
structure Wn (w0 w : World) (F X : Nat → Prop) (wb d : Nat) (e : Int) (S : DevS) (k N : Nat) : Prop where
  wk : ∃ ev, ErrV ev e ∧ Wk w wb d ev
  dv : ∃ G, Dev w d 0 S k N G ∧ (∀ i, G i → F i ∨ w0.heap.size ≤ i) ∧ ∀ i, X i → ¬ G i
  xl : ∀ i, X i → i < w.heap.size
  xw : X wb
  tr : Turns (fun i => F i ∨ i = wb) w0 w
  nw : w0.heap.size ≤ wb
section
variable {w0 w w' : World} {F X G Y : Nat → Prop} {wb d : Nat} {e e' : Int} {S S' : DevS} {k N N' : Nat}
theorem Wg.any (h : Wg w0 w F X wb d S k N) : Wn w0 w F X wb d 0 S k N := ⟨⟨.nilIface, Or.inl ⟨rfl, rfl⟩, h.wk⟩, h.dv, h.xl, h.xw, h.tr, h.nw⟩
theorem Wn.calm (h : Wn w0 w F X wb d 0 S k N) : Wg w0 w F X wb d S k N := by
  obtain ⟨⟨ev, hE, hk⟩, h2, h3, h4, h5, h6⟩ := h
  obtain ⟨_, rfl⟩ := hE.resolve_right (fun h => h.1 rfl)
  exact ⟨hk, h2, h3, h4, h5, h6⟩
theorem Did.tr (q : Did w w' wb d e S k N G) : Turns (fun i => G i ∨ i = wb) w w' := by
  obtain ⟨_, _, _, _, t⟩ := q
  exact t
theorem Wn.did (h : Wn w0 w F X wb d e S k N) (hG : ∀ i, G i → F i ∨ w0.heap.size ≤ i) (hX : ∀ i, X i → ¬ G i) (q : Did w w' wb d e' S' k N' G) : Wn w0 w' F X wb d e' S' k N' ∧ Turns (fun i => G i ∨ i = wb) w w' := by
  obtain ⟨ev, hE, hk, hd, t⟩ := q
  exact ⟨⟨⟨ev, hE, hk⟩, ⟨grow G w w', hd, fun i hi => hi.elim (hG i) (fun r => Or.inr (Nat.le_trans h.tr.size r.1)), fun i hi r => hX i hi (grow_old i (h.xl i hi) r)⟩, fun i hi => Nat.lt_of_lt_of_le (h.xl i hi) t.size, h.xw, h.tr.trans t (fun i hi r => r.elim (fun r => (hG i r).elim Or.inl (fun r => by omega)) Or.inr), h.nw⟩, t⟩
theorem Wn.below (h : Wn w0 w F X wb d e S k N) (b : Below w.heap.size w w') : Wn w0 w' F X wb d e S k N := by
  obtain ⟨G, D, h1, h2⟩ := h.dv
  obtain ⟨ev, hE, hk⟩ := h.wk
  exact ⟨⟨ev, hE, hk.turns (Below.turns b (fun _ => False)) id⟩, ⟨G, D.below b, h1, h2⟩, fun i hi => Nat.lt_of_lt_of_le (h.xl i hi) b.size, h.xw, h.tr.trans (Below.turns b (fun _ => False)) (fun _ _ r => r.elim), h.nw⟩
theorem Wn.add (h : Wn w0 w F X wb d e S k N) (b : Below w.heap.size w w') : Wn w0 w' F (fun i => X i ∨ (w.heap.size ≤ i ∧ i < w'.heap.size)) wb d e S k N := by
  obtain ⟨G, D, h1, h2⟩ := h.dv
  have h' := h.below b
  exact { h' with
    dv := ⟨G, D.below b, h1, fun i hi r => hi.elim (fun hi => h2 i hi r) (fun hi => by have := D.lt i r; omega)⟩
    xl := fun i hi => hi.elim (h'.xl i) (fun hi => hi.2)
    xw := Or.inl h.xw }
theorem Wn.less (h : Wn w0 w F X wb d e S k N) (hY : ∀ i, Y i → X i) (hw : Y wb) : Wn w0 w F Y wb d e S k N := by
  obtain ⟨G, D, h1, h2⟩ := h.dv
  exact { h with dv := ⟨G, D, h1, fun i hi => h2 i (hY i hi)⟩, xl := fun i hi => h.xl i (hY i hi), xw := hw }
end
/-- A journal, and what is not home, while a call works. -/
structure Cj (w0 w : World) (F X : Nat → Prop) (wb d : Nat) (e : Int) (S : DevS) (k N : Nat) (jb st sz : Nat) (seq : Int) (place : Nat) (free : Int) (bm : Nat) (op : Option Nat) (nd : Nat) (a : List (Nat × Nat)) (fa : Nat → List Int) : Prop where
  g : Wn w0 w F X wb d e S k N
  J : Jb w jb d st sz seq place free bm op
  A : Mp w bm nd a
  VA : Vals w fa a
  xj : X jb ∧ jb ≠ wb
  xa : X bm ∧ bm ≠ wb
  xva : ∀ p ∈ a, X p.2 ∧ p.2 ≠ wb
section
variable {w0 w w' : World} {F X G Y : Nat → Prop} {wb d : Nat} {e e' : Int} {S S' : DevS} {k N N' : Nat} {jb st sz : Nat} {seq : Int} {place : Nat} {free : Int} {bm : Nat} {op : Option Nat} {nd : Nat} {a : List (Nat × Nat)} {fa : Nat → List Int}
theorem Cj.turn (h : Cj w0 w F X wb d e S k N jb st sz seq place free bm op nd a fa) (t : Turns Y w w') (hY : ∀ i, X i → i ≠ wb → ¬ Y i) (g' : Wn w0 w' F X wb d e' S' k N') : Cj w0 w' F X wb d e' S' k N' jb st sz seq place free bm op nd a fa :=
  ⟨g', (t.block jb (heap_lt h.J) (hY jb h.xj.1 h.xj.2)).trans h.J, h.A.turns t (hY bm h.xa.1 h.xa.2), h.VA.turns t (fun p hp => hY p.2 (h.xva p hp).1 (h.xva p hp).2), h.xj, h.xa, h.xva⟩
theorem Cj.below (h : Cj w0 w F X wb d e S k N jb st sz seq place free bm op nd a fa) (b : Below w.heap.size w w') : Cj w0 w' F X wb d e S k N jb st sz seq place free bm op nd a fa :=
  h.turn (Below.turns b (fun _ => False)) (fun _ _ _ q => q) (h.g.below b)
theorem Cj.add (h : Cj w0 w F X wb d e S k N jb st sz seq place free bm op nd a fa) (b : Below w.heap.size w w') : Cj w0 w' F (fun i => X i ∨ (w.heap.size ≤ i ∧ i < w'.heap.size)) wb d e S k N jb st sz seq place free bm op nd a fa := by
  have h' := h.below b
  exact ⟨h.g.add b, h'.J, h'.A, h'.VA, ⟨Or.inl h.xj.1, h.xj.2⟩, ⟨Or.inl h.xa.1, h.xa.2⟩, fun p hp => ⟨Or.inl (h.xva p hp).1, (h.xva p hp).2⟩⟩
theorem Cj.less (h : Cj w0 w F X wb d e S k N jb st sz seq place free bm op nd a fa) (hY : ∀ i, Y i → X i) (hw : Y wb) (hj : Y jb) (ha : Y bm) (hva : ∀ p ∈ a, Y p.2) : Cj w0 w F Y wb d e S k N jb st sz seq place free bm op nd a fa :=
  ⟨h.g.less hY hw, h.J, h.A, h.VA, ⟨hj, h.xj.2⟩, ⟨ha, h.xa.2⟩, fun p hp => ⟨hva p hp, (h.xva p hp).2⟩⟩
theorem Cj.did (h : Cj w0 w F X wb d e S k N jb st sz seq place free bm op nd a fa) (hG : ∀ i, G i → F i ∨ w0.heap.size ≤ i) (hX : ∀ i, X i → ¬ G i) (q : Did w w' wb d e' S' k N' G) : Cj w0 w' F X wb d e' S' k N' jb st sz seq place free bm op nd a fa := by
  obtain ⟨g', t⟩ := h.g.did hG hX q
  exact h.turn t (fun i hi hw r => r.elim (hX i hi) hw) g'
end
/-- What a write, a flush makes of the error and the device. -/
def pW (k : Nat) (p : Int × DevS) (b : Nat) (bs : List Int) : Int × DevS := (wkE p.1 p.2 k b 512, wkS p.1 p.2 k b bs)
def pF (p : Int × DevS) : Int × DevS := (fkE p.1 p.2, fkS p.1 p.2)
/-- The first i blocks that are away are written home. -/
def homeP (k : Nat) (p : Int × DevS) (fa : Nat → List Int) (a : List (Nat × Nat)) : Nat → Int × DevS
  | 0 => p
  | i + 1 => pW k (homeP k p fa a i) ((a.map (·.1)).getD i 0) (fa ((a.map (·.1)).getD i 0))
/-- A checkpoint. -/
def ckP (k : Nat) (p : Int × DevS) (fa : Nat → List Int) (a : List (Nat × Nat)) (st : Nat) (seq : Int) (place : Nat) : Int × DevS := pF (pW k (pF (homeP k p fa a a.length)) st (jheadB seq place))
/-- Blocks of X, the work's own and the journal's own aside, are as they were. -/
abbrev Save (X : Nat → Prop) (wb jb : Nat) (w w' : World) : Prop := Turns (fun i => X i → i = wb ∨ i = jb) w w'
end Go.Proofs.YtlcjkbhcbiggcaaGreatDoor

/- checkpoint by its contract, whatever it meets. -/
namespace Go.Proofs.YtlcjkbhcbiggcaaGreatDoor
open Go.RowKit Go.Maps
set_option maxRecDepth 100000

set_option maxHeartbeats 8000000 in
theorem checkpoint_any {w0 w : World} {F X : Nat → Prop} {wb d : Nat} {e : Int} {S : DevS} {k N : Nat} {jb st sz nd : Nat} {seq free : Int} {place bm : Nat} {op : Option Nat} {a : List (Nat × Nat)} {fa : Nat → List Int} (h : Cj w0 w F X wb d e S k N jb st sz seq place free bm op nd a fa) (ha0 : 0 < a.length) (ha : Low a) (hl : a.length ≤ 4096) (h1 : 2 ≤ sz ∧ sz ≤ 4096) (hN : N ≤ 1000000000) :
    Calls Tryz.prog 188 #[.pointer (some ⟨jb, 0, none⟩), .pointer (some ⟨wb, 0, none⟩)] w fun e' w' => e' = .returned (.tuple #[]) ∧ ∃ bm', w.heap.size ≤ bm' ∧ Cj w0 w' (fun i => F i ∨ i = jb) (fun i => X i ∨ i = bm') wb d (ckP k (e, S) fa a st seq place).1 (ckP k (e, S) fa a st seq place).2 k (N + a.length + 1) jb st sz seq place (sz - 1) bm' op 0 [] (fun _ => []) ∧ Save X wb jb w w' := by
  obtain ⟨c0, c1, c2, c3, c4, c5, c6, c7, c8, fz⟩ := h.J.cells
  have hown := h.A.own
  have hs0 : (Maps.size (mD a) : Int) = (a.length : Int) := by simp [mD, Maps.size_eq]
  have hn0 : ¬ ((a.length : Int) = 0) := by omega
  go_enter Tryz.func188, Tryz.ntmps188
  go_wp2_with (at_len; refine wpList_len_own _ rfl _ 96 rfl 3 39 Tryz.underlying96 _ bm nd _ rfl hown ?_)
  refine (rising_any h.A (by omega)).mono ?_
  rintro e' w1 ⟨g1, q1, rfl, O1, b1⟩
  have hlg := (O1.lt g1 rfl)
  have CY := (h.add b1).less (Y := fun i => X i ∨ i = g1) (fun i hi => hi.imp id (fun e => by subst e; exact hlg)) (Or.inl h.g.xw) (Or.inl h.xj.1) (Or.inl h.xa.1) (fun p hp => Or.inl (h.xva p hp).1)
  obtain ⟨L, hL⟩ : ∃ L, a.length = L := ⟨_, rfl⟩
  have HL : Hid (a.length = L) := hL
  have hLi : (L : Int) ≤ 4096 := by omega
  have hT1 : Save X wb jb w w1 := Below.turns b1 _
  rw [hL] at O1 ⊢
  clear hL
  have hgw : g1 ≠ wb := by have := h.g.xl wb h.g.xw; omega
  have hjX : X jb := h.xj.1
  clear c0 c1 c2 c3 c4 c5 c6 c7 c8 fz hown hs0 hn0
  go_wp2_with fail
  go_loopw [18] (fun i wr => ∃ t : Nat, t ≤ L ∧ i = .int .i64 t ∧ Cj w0 wr F (fun i => X i ∨ i = g1) wb d (homeP k (e, S) fa a t).1 (homeP k (e, S) fa a t).2 k (N + t) jb st sz seq place free bm op nd a fa ∧ wr.ownsRow w.heap.size 3 1 (.slice (some ⟨g1, 0, none⟩) L q1) L (a.map fun p => .int .i64 p.1) ∧ Save X wb jb w wr) (fun i _ => L - (intOf i).toNat)
  case atStart => exact ⟨0, Nat.zero_le _, rfl, CY, O1, hT1⟩
  case round =>
    clear CY O1 hT1
    obtain ⟨t, htL, rfl, hC, hO, hT⟩ := hrel
    obtain ⟨w7, hw7⟩ : ∃ w7, w7 = wr := ⟨wr, rfl⟩
    subst hw7
    by_cases hlt : t < L
    · have hti : (t : Int) < L := by omega
      have htm : t < a.length := by rw [HL.out]; exact hlt
      have x1 : w7.cell? ⟨g1, t, none⟩ = some (.int .i64 (a[t].1 : Nat)) := by
        rw [hO.cellAt t (by omega)]; simp [htm]
      have hlu := hC.A.at ha t htm
      have hV := hC.VA a[t] (List.getElem_mem htm)
      have hg9 := h.xva a[t] (List.getElem_mem htm)
      have hgd : (a.map (·.1)).getD t 0 = a[t].1 := by simp [htm]
      have HS1 : Hid (homeP k (e, S) fa a (t + 1) = pW k (homeP k (e, S) fa a t) a[t].1 (fa a[t].1)) := by
        show pW _ _ _ _ = _
        rw [hgd]
      obtain ⟨⟨b, g⟩, hbg⟩ : ∃ bg, a[t] = bg := ⟨_, rfl⟩
      rw [hbg] at x1 hlu hV HS1 hg9
      simp only at x1 hlu hV HS1 hg9
      clear hgd hbg
      have y6 := hC.J.cells.c6
      obtain ⟨G, D, hG, hX⟩ := hC.g.dv
      obtain ⟨ev, hE, hk⟩ := hC.g.wk
      go_wp2_with fail
      refine (wkwrite_any D hk hE (hX wb hC.g.xw) b (some ⟨g, 0, none⟩) 512 512 _ (Lies.full hV.1 hV.2.1) hV.2.2 (fun ad q => by cases q; exact hX g (Or.inl hg9.1)) (by omega)).mono ?_
      rintro e' w8 ⟨rfl, q8⟩
      have C8 := hC.did hG hX q8
      have t8 := q8.tr
      have C9 : Cj w0 w8 F (fun i => X i ∨ i = g1) wb d (homeP k (e, S) fa a (t + 1)).1 (homeP k (e, S) fa a (t + 1)).2 k (N + (t + 1)) jb st sz seq place free bm op nd a fa := by
        rw [HS1.out]
        exact C8
      have O8 := own_turns hO t8 (fun b hb r => by cases hb; exact r.elim (hX g1 (Or.inr rfl)) hgw)
      have T8 : Save X wb jb w w8 := hT.trans t8 (fun i _ r hi => Or.inl (r.elim (fun r => absurd r (hX i (Or.inl hi))) id))
      clear C8 t8 q8 hC hO hT D hG hX hk hE x1 hlu hV y6
      go_wp2_with fail
      go_roundw
      case rel => exact ⟨t + 1, by omega, by go_num, C9, O8, T8⟩
      case measure => simp [intOf]; omega
    · have hti : ¬ (t : Int) < L := by omega
      obtain rfl : t = L := by omega
      have hCX := hC.less (Y := X) (fun i hi => Or.inl hi) h.g.xw h.xj.1 h.xa.1 (fun p hp => (h.xva p hp).1)
      clear hC hO
      obtain ⟨p9, hp9⟩ : ∃ p, homeP k (e, S) fa a t = p := ⟨_, rfl⟩
      have HP : Hid (ckP k (e, S) fa a st seq place = pF (pW k (pF p9) st (jheadB seq place))) := by
        show ckP k (e, S) fa a st seq place = _
        unfold ckP
        rw [HL.out, hp9]
      rw [hp9] at hCX
      clear hp9
      obtain ⟨G, D, hG, hX⟩ := hCX.g.dv
      obtain ⟨ev, hE, hk⟩ := hCX.g.wk
      go_wp2_with fail
      refine (wkflush_any D hk hE (hX wb hCX.g.xw) (by omega)).mono ?_
      rintro e' w8 ⟨rfl, q8⟩
      have C8 := hCX.did hG hX q8
      have t8 := q8.tr
      have T8 : Save X wb jb w w8 := hT.trans t8 (fun i _ r hi => Or.inl (r.elim (fun r => absurd r (hX i hi)) id))
      clear t8 q8 hCX hT D hG hX hk hE G
      have Cd := C8.below (w' := w8.drew) ⟨rfl, rfl, rfl, Nat.le_refl _, fun _ _ => rfl⟩
      have Td : Save X wb jb w w8.drew := T8.trans (Below.turns (w := w8) (w' := w8.drew) ⟨rfl, rfl, rfl, Nat.le_refl _, fun _ _ => rfl⟩ _) (fun _ _ r => r)
      clear C8 T8
      have hJc : ∀ w', Jb w' jb d st sz seq place free bm op → (w'.cell? ⟨jb, 1, none⟩ = some (.int .i64 st) ∧ w'.cell? ⟨jb, 3, none⟩ = some (.int .i64 seq) ∧ w'.cell? ⟨jb, 4, none⟩ = some (.int .i64 place)) := fun w' hj => ⟨hj.cells.c1, hj.cells.c3, hj.cells.c4⟩
      have k0 := hJc _ Cd.J
      go_wp2_with fail
      go_region_held3 (fun w' => w'.cell? ⟨jb, 1, none⟩ = some (.int .i64 st) ∧ w'.cell? ⟨jb, 3, none⟩ = some (.int .i64 seq) ∧ w'.cell? ⟨jb, 4, none⟩ = some (.int .i64 place))
        (first | exact k0 | exact k1 | exact k2)
        (first
          | (go_at_call 73; refine (headBlock_any seq place w8.drew).mono ?_; rintro e' w9 ⟨g9, rfl, l9, k9, b9⟩; have C9 := Cd.add b9; have k1 := hJc _ C9.J; obtain ⟨G9, D9, hG9, hX9⟩ := C9.g.dv; obtain ⟨ev9, hE9, hk9⟩ := C9.g.wk)
          | (go_at_call 70; refine (wkwrite_any D9 hk9 hE9 (hX9 wb C9.g.xw) st (some ⟨g9, 0, none⟩) 512 512 _ (Lies.full k9 (jheadB_len seq place)) (jheadB_by seq place) (fun ad q => by cases q; exact hX9 g9 (Or.inr ⟨l9, heap_lt k9⟩)) (by omega)).mono ?_; rintro e' wA ⟨rfl, qA⟩; have CA := C9.did hG9 hX9 qA; have k2 := hJc _ CA.J))
      have CB := CA.less (Y := X) (fun i hi => Or.inl hi) h.g.xw h.xj.1 h.xa.1 (fun p hp => (h.xva p hp).1)
      have tA := qA.tr
      have TB : Save X wb jb w wA := (Td.trans (Below.turns b9 _) (fun _ _ r => r)).trans tA (fun i _ r hi => Or.inl (r.elim (fun r => absurd r (hX9 i (Or.inl hi))) id))
      clear CA C9 Cd Td tA qA D9 hG9 hX9 hk9 hE9 k0 k1 k2 b9 k9 l9
      obtain ⟨G, D, hG, hX⟩ := CB.g.dv
      obtain ⟨ev, hE, hk⟩ := CB.g.wk
      go_wp2_with fail
      refine (wkflush_any D hk hE (hX wb CB.g.xw) (by omega)).mono ?_
      rintro e' wC ⟨rfl, qC⟩
      have CC := CB.did hG hX qC
      have tC := qC.tr
      have TC : Save X wb jb w wC := TB.trans tC (fun i _ r hi => Or.inl (r.elim (fun r => absurd r (hX i hi)) id))
      have CP : Cj w0 wC F X wb d (ckP k (e, S) fa a st seq place).1 (ckP k (e, S) fa a st seq place).2 k (N + t + 1) jb st sz seq place free bm op nd a fa := by
        rw [HP.out]
        exact CC
      clear CC CB TB tC qC D hG hX hk hE G HP
      have hmm := fun (w : World) => run_makeMap (P := Tryz.prog) 96 w
      obtain ⟨c0, c1, c2, c3, c4, c5, c6, c7, c8, fz⟩ := CP.J.cells
      have hlj := heap_lt CP.J
      have HF : Hid (∀ wD, Below ((wC.setCell ⟨jb, 6, none⟩ (.map (some wC.heap.size))).alloc (.map #[] 0)).heap.size ((wC.setCell ⟨jb, 6, none⟩ (.map (some wC.heap.size))).alloc (.map #[] 0)) wD → wD.cell? ⟨jb, 5, none⟩ = some (.int .i64 free) ∧ wD.frozen? ⟨jb, 5, none⟩ = false ∧ ∃ bm', w.heap.size ≤ bm' ∧ Cj w0 (wD.setCell ⟨jb, 5, none⟩ (.int .i64 ((sz : Int) - 1))) (fun i => F i ∨ i = jb) (fun i => X i ∨ i = bm') wb d (ckP k (e, S) fa a st seq place).1 (ckP k (e, S) fa a st seq place).2 k (N + t + 1) jb st sz seq place (sz - 1) bm' op 0 [] (fun _ => []) ∧ Save X wb jb w (wD.setCell ⟨jb, 5, none⟩ (.int .i64 ((sz : Int) - 1)))) := fun wD bD => by
        have u0 := Turns.cell wC jb 6 (.map (some wC.heap.size))
        have s0 : (wC.setCell ⟨jb, 6, none⟩ (.map (some wC.heap.size))).heap.size = wC.heap.size := by simp [World.setCell]
        have J6 : Jb (wC.setCell ⟨jb, 6, none⟩ (.map (some wC.heap.size))) jb d st sz seq place free wC.heap.size op := heap_setCell_same _ jb 6 _ _ _ CP.J
        have M6 := World.ownsMap_made (wC.setCell ⟨jb, 6, none⟩ (.map (some wC.heap.size))) Tryz.prog 3 RV
        rw [s0] at M6
        have b6 : Below (wC.setCell ⟨jb, 6, none⟩ (.map (some wC.heap.size))).heap.size (wC.setCell ⟨jb, 6, none⟩ (.map (some wC.heap.size))) ((wC.setCell ⟨jb, 6, none⟩ (.map (some wC.heap.size))).alloc (.map #[] 0)) := (Below.refl _ _).alloc (Nat.le_refl _) _
        have s6 : ((wC.setCell ⟨jb, 6, none⟩ (.map (some wC.heap.size))).alloc (.map #[] 0)).heap.size = wC.heap.size + 1 := by simp [s0]
        have J7 := (b6.block jb (heap_lt J6)).trans J6
        have JD : Jb wD jb d st sz seq place free wC.heap.size op := (bD.block jb (heap_lt J7)).trans J7
        have MD := map_turns M6 (Below.turns bD (fun _ => False)) id
        have sD := bD.size
        rw [s6] at sD
        have uD := Turns.cell wD jb 5 (.int .i64 ((sz : Int) - 1))
        have u9 : Turns (fun i => i = jb) wC (wD.setCell ⟨jb, 5, none⟩ (.int .i64 ((sz : Int) - 1))) := ((u0.trans (Below.turns b6 _) (fun _ _ r => r)).trans (Below.turns bD _) (fun _ _ r => r)).trans uD (fun _ _ r => r)
        have s9 : (wD.setCell ⟨jb, 5, none⟩ (.int .i64 ((sz : Int) - 1))).heap.size = wD.heap.size := by simp [World.setCell]
        obtain ⟨G, D, hG, hX⟩ := CP.g.dv
        obtain ⟨ev, hE, hk⟩ := CP.g.wk
        have hwl := CP.g.xl wb CP.g.xw
        have hjw := h.xj.2
        have hs := TC.size
        refine ⟨JD.cells.c5, JD.cells.fz 5, wC.heap.size, hs, ⟨⟨⟨ev, hE, hk.turns u9 (fun r => hjw r.symm)⟩, ⟨G, D.turns u9 (fun i hi r => hX jb hjX (r ▸ hi)), fun i hi => (hG i hi).imp Or.inl id, fun i hi r => hi.elim (fun hi => hX i hi r) (fun hi => by have := D.lt i r; omega)⟩, fun i hi => hi.elim (fun hi => by have := CP.g.xl i hi; omega) (fun hi => by omega), Or.inl CP.g.xw, (CP.g.tr.mono (G := fun i => (F i ∨ i = jb) ∨ i = wb) (fun i _ r => r.imp Or.inl id)).trans u9 (fun i _ r => Or.inl (Or.inr r)), CP.g.nw⟩, heap_setCell_same _ jb 5 _ _ _ JD, ⟨map_turns MD uD (fun r => by omega), List.Pairwise.nil⟩, (fun p hp => by cases hp), ⟨Or.inl hjX, hjw⟩, ⟨Or.inr rfl, by omega⟩, (fun p hp => by cases hp)⟩, TC.trans u9 (fun i _ r _ => Or.inr r)⟩
      clear CP TC
      go_wp2_with fail
      refine (places_any d st sz _ (by omega)).mono ?_
      rintro e' wD ⟨rfl, bD⟩
      obtain ⟨cD, fD, HD⟩ := HF.out wD bD
      clear HF
      go_wp2
      first | go_end0 | refine bodyPost_ret (results_none rfl _ _ _) rfl ?_
      rw [HL.out]
      exact ⟨rfl, HD⟩
end Go.Proofs.YtlcjkbhcbiggcaaGreatDoor
