/- Commit by its contract, where a checkpoint comes first and nothing fails. -/
import Derived.Test.YtlcjkbhcbiggcaaGreatDoorPk13
import Derived.Test.YtlcjkbhcbiggcaaGreatDoorPk16
import Derived.Deep.RegionHeldLaw
namespace Go.Proofs.YtlcjkbhcbiggcaaGreatDoor
open Go.RowKit Go.Maps
set_option maxRecDepth 100000

theorem ckS_lasts {S : DevS} {fa : Nat → List Int} {a : List (Nat × Nat)} {st : Nat} {seq : Int} {place n : Nat} (h : Lasts S (a.length + 3 + n)) : Lasts (ckS S fa a st seq place) n := by
  have h3 : Lasts (homeS S fa a a.length) (n + 3) := homeS_lasts a.length (n + 3) (by rw [show a.length + (n + 3) = a.length + 3 + n by omega]; exact h)
  exact (((h3.burnt.flushed).burnt.wrote _ _).burnt).flushed
theorem putP_ok {S : DevS} {k st sz place i n : Nat} {bs : List Int} (h : Lasts S (n + 1)) (hs : 2 ≤ sz) (h2 : st + sz ≤ k) (hl : bs.length = 512) : putP k (0, S) st sz place i bs = (0, putL S st sz place i bs) := by
  have := Nat.mod_lt (place + i) (show 0 < sz - 1 by omega)
  exact pW_ok h (by omega) hl
theorem hidP_ok {S : DevS} {k st sz place : Nat} {seq : Int} {f : Nat → List Int} {m : List (Nat × Nat)} (hf : ∀ p ∈ m, (f p.1).length = 512) (hm : m.length ≤ 24) (hs : 2 ≤ sz) (h2 : st + sz ≤ k) : ∀ (i n : Nat), i ≤ m.length → Lasts S (i + 1 + n) → hidP k (0, S) st sz place seq f m i = (0, hidS S st sz place seq f m i)
  | 0, n, _, h => putP_ok (n := n) (by rw [show n + 1 = 0 + 1 + n by omega]; exact h) hs h2 (desB_len _ _ (by rw [lnsOf_len]; exact hm))
  | i + 1, n, hi, h => by
    have e : (m.map (·.1)).getD i 0 = (m[i]'(by omega)).1 := by simp [List.getD, show i < m.length by omega]
    have hv := hf _ (List.getElem_mem (show i < m.length by omega))
    have hl : Lasts (hidS S st sz place seq f m i) (n + 1) := hidS_lasts i (n + 1) (by rw [show i + 1 + (n + 1) = i + 1 + 1 + n by omega]; exact h)
    show putP k (hidP k (0, S) st sz place seq f m i) st sz place (i + 1) _ = _
    rw [hidP_ok hf hm hs h2 i (n + 1) (by omega) (by rw [show i + 1 + (n + 1) = i + 1 + 1 + n by omega]; exact h)]
    exact putP_ok hl hs h2 (by rw [e]; exact hidB_len hv _)
theorem comP_ok {S : DevS} {k st sz place : Nat} {seq : Int} {f : Nat → List Int} {m : List (Nat × Nat)} (hf : ∀ p ∈ m, (f p.1).length = 512) (hm : m.length ≤ 24) (hs : 2 ≤ sz) (h2 : st + sz ≤ k) (h : Lasts S (m.length + 4)) : comP k (0, S) st sz place seq f m = (0, comS S st sz place seq f m) := by
  have h3 : Lasts (hidS S st sz place seq f m m.length) 3 := hidS_lasts m.length 3 (by rw [show m.length + 1 + 3 = m.length + 4 by omega]; exact h)
  have hb : Lasts (flushed (burnt (hidS S st sz place seq f m m.length))) 2 := h3.burnt.flushed
  have hc : Lasts (putL (flushed (burnt (hidS S st sz place seq f m m.length))) st sz place (m.length + 1) (comB seq)) 1 := hb.putL _ _ _ _ _
  unfold comP
  rw [hidP_ok hf hm hs h2 m.length 3 (Nat.le_refl _) (by rw [show m.length + 1 + 3 = m.length + 4 by omega]; exact h), pF_ok h3, putP_ok hb hs h2 (comB_len seq), pF_ok hc]
  rfl
set_option maxHeartbeats 2000000 in
theorem txCommit_ck {w : World} {d : Nat} {S : DevS} {k N : Nat} {G : Nat → Prop} {jb st sz : Nat} {seq : Int} {place : Nat} {free : Int} {bm nd : Nat} {a : List (Nat × Nat)} {fa : Nat → List Int} {tb wm ns : Nat} {m : List (Nat × Nat)} {f : Nat → List Int} {sv : Value} {last : Int} (h : Tx w d S k N G jb st sz seq place free bm nd a fa tb wm ns m f sv last) (hl1 : 1 ≤ m.length) (hl : m.length ≤ 24) (ha : Low a) (hm : Low m) (hf : free < (m.length : Int) + 2) (ha0 : 0 < a.length) (hoa : ∀ p ∈ a, p.1 < k)
    (h1 : 27 ≤ sz) (h2 : st + sz ≤ k) (hk : k ≤ 4096) (hS : Lasts S (a.length + 3 + (m.length + 4))) (hN : N ≤ 1000000000) (hp : place ≤ 4096) (hs : 0 ≤ seq ∧ seq ≤ 4611686018427387904) :
    Calls Tryz.prog 90 #[.pointer (some ⟨tb, 0, none⟩)] w fun e w' => e = .returned (.int .i64 0) ∧ Td w' tb ∧ Turns (fun i => G i ∨ i = jb ∨ i = tb) w w' ∧ ∃ G' bm9, w.heap.size ≤ bm9 ∧ Jn w' d (comS (ckS S fa a st seq place) st sz place seq f m) k (N + a.length + 1 + m.length + 2) G' jb st sz (seq + 1) ((place + m.length + 2) % (sz - 1)) ((sz : Int) - 1 - (m.length + 2)) bm9 (0 + m.length) (mmerge [] m) (mergeF m f (fun _ => [])) ∧ ∀ i, G' i → G i ∨ w.heap.size ≤ i := by
  have t0 := h.T.cells.c0
  have t1 := h.T.cells.c1
  go_enter Tryz.func90, Tryz.ntmps90
  go_wp2_with fail
  go_quiet (fail)
  go_wp2_with fail
  refine (close_ok (w := w.drewN _) h.T h.J h.tj).mono ?_
  rintro e w1 ⟨rfl, T1, J1, u1⟩
  have u1 : Turns (fun i => i = tb ∨ i = jb) w w1 := (Turns.drewN _ w _).trans u1 (fun _ _ h => h)
  have nv : ∀ (g : Nat) (l : List Int), w.heap[g]? = some (bl l) → ¬ (g = tb ∨ g = jb) := fun g l hg e => by
    rcases e with rfl | rfl
    · have := h.T; unfold Tb at this; rw [hg] at this; simp [bl] at this
    · have := h.J; unfold Jb at this; rw [hg] at this; simp [bl] at this
  have D1 := h.D.turns u1 (fun i hi h' => h'.elim (fun e => h.gt (e ▸ hi)) (fun e => h.gj (e ▸ hi)))
  have M1 := h.M.turns u1 (fun h' => h'.elim (fun e => h.tm e.symm) (fun e => h.jm e.symm))
  have A1 := h.A.turns u1 (fun h' => h'.elim (fun e => h.ta e.symm) (fun e => h.ja e.symm))
  have V1 := h.V.turns u1 (fun p hp => nv p.2 _ (h.V p hp).1)
  have VA1 := h.VA.turns u1 (fun p hp => nv p.2 _ (h.VA p hp).1)
  clear t0 t1 nv
  go_wp2_with fail
  refine (power_ok D1 J1 hS.on).mono ?_
  rintro e w2 ⟨rfl, q2⟩
  have M2 := M1.turns q2.2 h.gm
  have A2 := A1.turns q2.2 h.ga
  have V2 := V1.turns q2.2 h.gv
  have VA2 := VA1.turns q2.2 h.gva
  have T2 : Td w2 tb := T1.keep q2.2 h.gt
  have J2 : Jb w2 jb d st sz seq place free bm none := (q2.2.block jb (heap_lt J1) h.gj).trans J1
  have hsz : (Maps.size (mD m) : Int) = (m.length : Int) := by simp [mD, Maps.size_eq]
  have hln : ∀ (ty : TypeId), (Builtin.len_ #[96] ty #[.map (some wm)]).run Tryz.prog w2 = .ok (.int .i64 m.length) w2 := fun ty => by
    have := M2.own.len Tryz.underlying96 ty
    rwa [hsz] at this
  have tt : Turns (fun i => G i ∨ i = jb ∨ i = tb) w w2 := (u1.mono (fun _ _ h => Or.inr h.symm)).trans q2.2 (fun _ _ h => Or.inl h)
  have D2 := q2.1
  have hG2 := D2.lt
  have c3 := J2.cells.c3
  have c0 := J2.cells.c0
  have hm0 : ¬ (m.length : Int) = 0 := by omega
  have hs2 : ¬ (4611686018427387904 : Int) < seq := by omega
  clear D1 M1 T1 J1 u1 q2 hsz A1 V1 VA1
  go_wp2_with fail
  refine (begun_any D2).mono ?_
  rintro e w3 ⟨ev, rfl, hev, k3, q3⟩
  have he : begE S = 0 := by unfold begE; rw [if_neg (by simp [hS.on])]
  rw [he] at hev
  obtain ⟨_, rfl⟩ := hev.resolve_right (fun h => h.1 rfl)
  have g3 := Wg.start hG2 k3 q3
  obtain ⟨wb, hwb⟩ : ∃ wb, w2.heap.size = wb := ⟨_, rfl⟩
  have lj := heap_lt J2
  have lt := heap_lt T2
  have la := A2.own.lt
  have lm := M2.own.lt
  have t3 := q3.2
  have J3 : Jb w3 jb d st sz seq place free bm none := (t3.block jb lj h.gj).trans J2
  have A3 := A2.turns t3 h.ga
  have M3 := M2.turns t3 h.gm
  have V3 := V2.turns t3 h.gv
  have VA3 := VA2.turns t3 h.gva
  have C3 : Cm w2 w3 G (fun i => i = wb ∨ (i < wb ∧ ¬ G i)) wb d S k N jb st sz seq place free bm none nd a wm ns m f fa := by
    obtain ⟨G', D', hG', hX'⟩ := g3.dv
    rw [hwb] at g3
    refine ⟨⟨g3.wk, ⟨G, q3.1, fun _ hi => Or.inl hi, fun i hi r => hi.elim (fun e => by have := hG2 i r; omega) (fun e => e.2 r)⟩, fun i hi => by have := t3.size; have := heap_lt g3.wk; rcases hi with rfl | hi <;> omega, Or.inl rfl, g3.tr, g3.nw⟩, J3, A3, M3, V3, VA3, ⟨Or.inr ⟨by omega, h.gj⟩, by omega⟩, ⟨Or.inr ⟨by omega, h.ga⟩, by omega⟩, ⟨Or.inr ⟨by omega, h.gm⟩, by omega⟩, fun p hp => ?_, fun p hp => ?_⟩
    · have := heap_lt (V2 p hp).1
      exact ⟨Or.inr ⟨by omega, h.gv p hp⟩, by omega⟩
    · have := heap_lt (VA2 p hp).1
      exact ⟨Or.inr ⟨by omega, h.gva p hp⟩, by omega⟩
  clear c3 c0 hln g3 k3 q3 J3 A3 M3 V3 VA3
  try rw [hwb]
  go_wp2_with fail
  have hla := low_len A2.ris ha
  refine (commit_full C3.any hl1 hl ha hm hf ha0 hla h1 h2 hk (by omega) hp (by omega) h.jm).mono ?_
  rintro e w4 ⟨rfl, bm9, lb9, C4⟩
  have hfa : ∀ p ∈ a, (fa p.1).length = 512 := fun p hp => (h.VA p hp).2.1
  have hfm : ∀ p ∈ m, (f p.1).length = 512 := fun p hp => (h.V p hp).2.1
  have e1 := ckP_ok (k := k) (S := S) (fa := fa) (a := a) (st := st) (seq := seq) (place := place) hoa hfa (by omega) (hS.mono (by omega))
  have hS2 : Lasts (ckS S fa a st seq place) (m.length + 4) := ckS_lasts (by rw [show a.length + 3 + (m.length + 4) = a.length + 3 + (m.length + 4) from rfl] at hS; exact hS)
  have e2 := comP_ok (k := k) (S := ckS S fa a st seq place) (f := f) (m := m) (st := st) (sz := sz) (place := place) (seq := seq) hfm hl (by omega) h2 hS2
  rw [e1, e2] at C4
  obtain ⟨ev, hev, hwk⟩ := C4.wk
  obtain ⟨_, rfl⟩ := hev.resolve_right (fun h => h.1 rfl)
  go_wp2_with fail
  refine (met_ok hwk).mono ?_
  rintro e w5 ⟨rfl, b5⟩
  have t4 := C4.tr
  obtain ⟨G4, D4, hG4, hX4⟩ := C4.dv
  have b5t := Below.turns b5 (fun _ => False)
  have s3 := t3.size
  go_wp2
  go_ret
  have nT : ¬ ((G tb ∨ tb = jb) ∨ tb = wb ∨ tb = bm9 ∨ tb = jb) := fun r => by
    rcases r with (r | r) | r | r | r
    · exact h.gt r
    · exact h.tj r
    · omega
    · omega
    · exact h.tj r
  have T4 : Td w4 tb := T2.keep t4 nT
  have s2 := tt.size
  have hjX : ¬ G4 jb := hX4 jb (Or.inl (Or.inr ⟨by omega, h.gj⟩))
  refine ⟨rfl, T4.keep b5t id, ?_, G4, bm9, by omega, ⟨D4.turns b5t (fun _ _ => id), (b5.block jb (heap_lt C4.J)).trans C4.J, C4.A.turns b5t id, (Vals.merge List.Pairwise.nil h.M.ris C4.V C4.VA).below b5, hjX, hX4 bm9 (Or.inr rfl), fun p hp => ?_, by omega⟩, fun i hi => ?_⟩
  · refine (tt.trans t4 (fun i hi r => ?_)).trans b5t (fun _ _ => False.elim)
    rcases r with (r | r) | r | r | r
    · exact Or.inl r
    · exact Or.inr (Or.inl r)
    · omega
    · omega
    · exact Or.inr (Or.inl r)
  · rcases mmerge_mem m [] p hp with hp | hp
    · have := heap_lt (V2 p hp).1
      exact hX4 p.2 (Or.inl (Or.inr ⟨by omega, h.gv p hp⟩))
    · cases hp
  · rcases hG4 i hi with (r | r) | r
    · exact Or.inl r
    · exact absurd (r ▸ hi) hjX
    · exact Or.inr (by omega)
end Go.Proofs.YtlcjkbhcbiggcaaGreatDoor

/- Savepoints; maps.Clone by its contract. -/
namespace Go.Proofs.YtlcjkbhcbiggcaaGreatDoor
open Go.RowKit Go.Maps
set_option maxRecDepth 100000

theorem Tryz.infoSave : (Tryz.prog.info? 103).map (fun i => (i.zero, i.size, i.bytes)) = some (some (.agg #[.int .i64 0, .nilFunc]), 2, 16) := by kernel_rfl
/-- A savepoint: its mark; the box of the map that it keeps, the box of the transaction's pointer; the map, and what its blocks hold. -/
structure SvI where
  mark : Nat
  hb : Nat
  q : Nat
  hm : Nat
  hn : Nat
  m : List (Nat × Nat)
  f : Nat → List Int
def SvI.cells (s : SvI) : List Value := [.int .i64 (s.mark : Nat), .func (Fn.func 53) #[] #[.pointer (some ⟨s.hb, 0, none⟩), .pointer (some ⟨s.q, 0, none⟩)]]
def svC (l : List SvI) : List Value := l.flatMap SvI.cells
theorem svC_snoc (l : List SvI) (s : SvI) : svC (l ++ [s]) = svC l ++ s.cells := by simp [svC]
theorem svC_len (l : List SvI) : (svC l).length = l.length * 2 := by
  induction l with
  | nil => rfl
  | cons s l ih => simp only [svC, List.flatMap_cons, List.length_append, List.length_cons] at *; rw [ih]; simp [SvI.cells]; omega
theorem clone_any {w : World} {bm n : Nat} {m : List (Nat × Nat)} (h : Mp w bm n m) :
    Calls Tryz.prog 52 #[.map (some bm)] w fun e w' => e = .returned (.map (some w.heap.size)) ∧ Mp w' w.heap.size n m ∧ Below w.heap.size w w' := by
  have hk := AnyW.maps_Clone_owns Tryz.mclone 3 RV bm n (mD m) w h.own
  refine hk.mono ?_
  rintro e w' ⟨rfl, h1, h2, h3⟩
  exact ⟨rfl, ⟨h1, h.ris⟩, h3⟩
theorem Tx.same {w w' : World} {d : Nat} {S : DevS} {k N : Nat} {G : Nat → Prop} {jb st sz : Nat} {seq : Int} {place : Nat} {free : Int} {bm nd : Nat} {a : List (Nat × Nat)} {fa : Nat → List Int} {tb wm ns : Nat} {m : List (Nat × Nat)} {f : Nat → List Int} {sv : Value} {last : Int} (h : Tx w d S k N G jb st sz seq place free bm nd a fa tb wm ns m f sv last) (q : Same0 w w' d S k N G) : Tx w' d S k N G jb st sz seq place free bm nd a fa tb wm ns m f sv last :=
  { h with
    D := q.1
    J := (q.2.block jb (heap_lt h.J) h.gj).trans h.J
    T := (q.2.block tb (heap_lt h.T) h.gt).trans h.T
    A := h.A.turns q.2 h.ga
    VA := h.VA.turns q.2 h.gva
    M := h.M.turns q.2 h.gm
    V := h.V.turns q.2 h.gv }
theorem Tx.below {w w' : World} {d : Nat} {S : DevS} {k N : Nat} {G : Nat → Prop} {jb st sz : Nat} {seq : Int} {place : Nat} {free : Int} {bm nd : Nat} {a : List (Nat × Nat)} {fa : Nat → List Int} {tb wm ns : Nat} {m : List (Nat × Nat)} {f : Nat → List Int} {sv : Value} {last : Int} (h : Tx w d S k N G jb st sz seq place free bm nd a fa tb wm ns m f sv last) (b : Below w.heap.size w w') : Tx w' d S k N G jb st sz seq place free bm nd a fa tb wm ns m f sv last := h.same ⟨h.D.below b, Below.turns b G⟩
theorem own_typeJ {w : World} {base e s n q : Nat} {v : Value} {xs : List Value} {cs : Array Value} {t : Nat} {fz : Nat × Nat} (h : w.ownsRow base e s v n xs) (hq : w.heap[q]? = some (.cells cs t fz)) (ht : t ≠ e) : v.ownBlock ≠ some q := by
  intro he
  rcases h.2 with ⟨h1, _⟩ | ⟨g, cap, cur, h1, _, hh, _⟩
  · rw [h1] at he; cases he
  · rw [h1] at he; cases he
    rw [hh] at hq
    simp at hq
    exact ht hq.2.1.symm
theorem own_mapJ {w : World} {base e s n bm k : Nat} {v : Value} {xs : List Value} {m : List (Nat × Nat)} (h : w.ownsRow base e s v n xs) (hq : Mp w bm k m) : v.ownBlock ≠ some bm := by
  intro he
  obtain ⟨es, clock, hb, _⟩ := hq.own
  rcases h.2 with ⟨h1, _⟩ | ⟨g, cap, cur, h1, _, hh, _⟩
  · rw [h1] at he; cases he
  · rw [h1] at he; cases he
    rw [hh] at hb
    simp at hb
theorem mp_cells {w : World} {bm k b : Nat} {m : List (Nat × Nat)} {cs : Array Value} {t : Nat} {fz : Nat × Nat} (hq : Mp w bm k m) (hb : w.heap[b]? = some (.cells cs t fz)) : b ≠ bm := by
  rintro rfl
  obtain ⟨es, clock, h, _⟩ := hq.own
  rw [hb] at h
  simp at h
/-- Only blocks that are none of the transaction's, and its own block, have turned. -/
theorem Tx.move {w w' : World} {d : Nat} {S : DevS} {k N : Nat} {G : Nat → Prop} {jb st sz : Nat} {seq : Int} {place : Nat} {free : Int} {bm nd : Nat} {a : List (Nat × Nat)} {fa : Nat → List Int} {tb wm ns : Nat} {m : List (Nat × Nat)} {f : Nat → List Int} {sv : Value} {last : Int} {Y : Nat → Prop} {sv' : Value} {last' : Int} (h : Tx w d S k N G jb st sz seq place free bm nd a fa tb wm ns m f sv last) (t : Turns Y w w') (hG : ∀ i, G i → ¬ Y i) (hJ : ¬ Y jb) (hA : ¬ Y bm) (hM : ¬ Y wm) (hV : ∀ p ∈ m, ¬ Y p.2) (hVA : ∀ p ∈ a, ¬ Y p.2) (T' : Tb w' tb jb wm sv' last') : Tx w' d S k N G jb st sz seq place free bm nd a fa tb wm ns m f sv' last' :=
  { h with
    D := h.D.turns t hG
    J := (t.block jb (heap_lt h.J) hJ).trans h.J
    T := T'
    A := h.A.turns t hA
    VA := h.VA.turns t hVA
    M := h.M.turns t hM
    V := h.V.turns t hV }
/-- What a savepoint keeps. -/
structure Sp (w : World) (tb : Nat) (s : SvI) : Prop where
  h : w.heap[s.hb]? = some (.cells #[.map (some s.hm)] 96)
  q : w.heap[s.q]? = some (.cells #[.pointer (some ⟨tb, 0, none⟩)] 63)
  M : Mp w s.hm s.hn s.m
  V : Vals w s.f s.m
theorem Sp.turns {Y : Nat → Prop} {w w' : World} {tb : Nat} {s : SvI} (h : Sp w tb s) (t : Turns Y w w') (h1 : ¬ Y s.hb) (h2 : ¬ Y s.q) (h3 : ¬ Y s.hm) (h4 : ∀ p ∈ s.m, ¬ Y p.2) : Sp w' tb s :=
  ⟨(t.block _ (heap_lt h.h) h1).trans h.h, (t.block _ (heap_lt h.q) h2).trans h.q, h.M.turns t h3, h.V.turns t h4⟩
/-- A transaction's savepoints. -/
structure Svs (w : World) (G : Nat → Prop) (tb wm : Nat) (sv : Value) (l : List SvI) (la : Nat) : Prop where
  row : w.ownsRow 0 103 2 sv l.length (svC l)
  ris : l.Pairwise (fun a b => a.mark < b.mark)
  top : ∀ s ∈ l, s.mark ≤ la
  gr : ∀ b, sv.ownBlock = some b → ¬ G b
  sp : ∀ s ∈ l, Sp w tb s
  gs : ∀ s ∈ l, ¬ G s.hb ∧ ¬ G s.q ∧ ¬ G s.hm ∧ s.hm ≠ wm ∧ ∀ p ∈ s.m, ¬ G p.2
theorem Svs.turns {Y : Nat → Prop} {w w' : World} {G : Nat → Prop} {tb wm : Nat} {sv : Value} {l : List SvI} {la : Nat} (h : Svs w G tb wm sv l la) (t : Turns Y w w') (hr : ∀ b, sv.ownBlock = some b → ¬ Y b) (hs : ∀ s ∈ l, ¬ Y s.hb ∧ ¬ Y s.q ∧ ¬ Y s.hm ∧ ∀ p ∈ s.m, ¬ Y p.2) : Svs w' G tb wm sv l la :=
  { h with
    row := own_turns h.row t hr
    sp := fun s hs' => (h.sp s hs').turns t (hs s hs').1 (hs s hs').2.1 (hs s hs').2.2.1 (hs s hs').2.2.2 }
/-- What turns the device, the written map, or nothing old, leaves the savepoints. -/
theorem Svs.step {w w' : World} {G : Nat → Prop} {tb wm n : Nat} {sv : Value} {l : List SvI} {la : Nat} {m : List (Nat × Nat)} (h : Svs w G tb wm sv l la) (hM : Mp w wm n m) (t : Turns (fun i => G i ∨ i = wm) w w') : Svs w' G tb wm sv l la := by
  refine h.turns t (fun b hb q => q.elim (h.gr b hb) (fun e => own_mapJ h.row hM (by rw [hb, e]))) (fun s hs => ?_)
  obtain ⟨g1, g2, g3, g4, g5⟩ := h.gs s hs
  have p := h.sp s hs
  exact ⟨fun q => q.elim g1 (mp_cells hM p.h), fun q => q.elim g2 (mp_cells hM p.q), fun q => q.elim g3 g4, fun x hx q => q.elim (g5 x hx) (mp_cells hM (p.V x hx).1)⟩
theorem Svs.same {w w' : World} {G : Nat → Prop} {tb wm : Nat} {sv : Value} {l : List SvI} {la : Nat} (h : Svs w G tb wm sv l la) (t : Turns G w w') : Svs w' G tb wm sv l la :=
  h.turns t h.gr (fun s hs => ⟨(h.gs s hs).1, (h.gs s hs).2.1, (h.gs s hs).2.2.1, (h.gs s hs).2.2.2.2⟩)
end Go.Proofs.YtlcjkbhcbiggcaaGreatDoor

/- Save by its contract. -/
namespace Go.Proofs.YtlcjkbhcbiggcaaGreatDoor
open Go.RowKit Go.Maps
set_option maxRecDepth 100000

/-- What Save leaves. -/
structure SaveR (w w' : World) (d : Nat) (S : DevS) (k N : Nat) (G : Nat → Prop) (jb st sz : Nat) (seq : Int) (place : Nat) (free : Int) (bm nd : Nat) (a : List (Nat × Nat)) (fa : Nat → List Int) (tb wm ns : Nat) (m : List (Nat × Nat)) (f : Nat → List Int) (sv : Value) (l : List SvI) (la : Nat) : Prop where
  ex : ∃ sv' s, Tx w' d S k N G jb st sz seq place free bm nd a fa tb wm ns m f sv' ((la : Int) + 1) ∧ Svs w' G tb wm sv' (l ++ [s]) (la + 1) ∧ s.mark = la + 1 ∧ s.m = m ∧ s.f = f ∧ s.hn = ns ∧ ∀ b, sv'.ownBlock = some b → sv.ownBlock = some b ∨ w.heap.size ≤ b
  tr : Turns (fun i => G i ∨ i = tb ∨ sv.ownBlock = some i) w w'
set_option maxHeartbeats 2000000 in
theorem save_ok {w : World} {d : Nat} {S : DevS} {k N : Nat} {G : Nat → Prop} {jb st sz : Nat} {seq : Int} {place : Nat} {free : Int} {bm nd : Nat} {a : List (Nat × Nat)} {fa : Nat → List Int} {tb wm ns : Nat} {m : List (Nat × Nat)} {f : Nat → List Int} {sv : Value} {last : Int} (h : Tx w d S k N G jb st sz seq place free bm nd a fa tb wm ns m f sv last) (ho : S.off = false) {la : Nat} (hl : la ≤ 1000000) (hla : last = la) {l : List SvI} (hv : Svs w G tb wm sv l la) (hll : l.length ≤ 1000000) :
    Calls Tryz.prog 23 #[.pointer (some ⟨tb, 0, none⟩)] w fun e w' => e = .returned (.tuple #[.int .i64 ((la : Int) + 1), .int .i64 0]) ∧ SaveR w w' d S k N G jb st sz seq place free bm nd a fa tb wm ns m f sv l la := by
  subst hla
  obtain ⟨i0, hi0, hz0, hz1, hz2⟩ := info_parts Tryz.infoSave
  have hmf : ∀ (fn : Fn) (first cap : Array Value) (w : World), (Instr.makeFunc fn first cap).run Tryz.prog w = .ok (.func fn first cap) w := fun _ _ _ _ => rfl
  go_enter Tryz.func23, Tryz.ntmps23
  obtain ⟨W, hW⟩ : ∃ W, w.alloc (.cells #[.pointer (some ⟨tb, 0, none⟩)] 63) = W := ⟨_, rfl⟩
  have bW : Below w.heap.size w W := by rw [← hW]; exact (Below.refl _ w).alloc (Nat.le_refl _) _
  have hbx : W.heap[w.heap.size]? = some (.cells #[.pointer (some ⟨tb, 0, none⟩)] 63) := by rw [← hW]; exact (MapKept.heap_alloc w _).1
  have TW := h.below bW
  have sW : W.heap.size = w.heap.size + 1 := by rw [← hW]; simp
  have hGl := h.D.lt
  obtain ⟨q, hq⟩ : ∃ q, w.heap.size = q := ⟨_, rfl⟩
  rw [hq] at hbx
  have gq : ¬ G q := fun r => by have := hGl q r; omega
  have x0 : W.cell? ⟨q, 0, none⟩ = some (.pointer (some ⟨tb, 0, none⟩)) := by simp [World.cell?, hbx]
  have t0 := TW.T.cells.c0
  go_wp2_with fail
  try rw [hW]
  try rw [hq]
  refine (power_ok TW.D TW.J ho).mono ?_
  rintro e w1 ⟨rfl, q1⟩
  have T1 := TW.same q1
  have hbx1 := (q1.2.block q (heap_lt hbx) gq).trans hbx
  have y0 : w1.cell? ⟨q, 0, none⟩ = some (.pointer (some ⟨tb, 0, none⟩)) := by simp [World.cell?, hbx1]
  have t1 := T1.T.cells.c1
  clear x0 t0
  go_wp2_with fail
  refine (clone_any T1.M).mono ?_
  rintro e w2 ⟨rfl, M2, b2⟩
  obtain ⟨hm, hhm⟩ : ∃ hm, w1.heap.size = hm := ⟨_, rfl⟩
  rw [hhm] at M2
  try rw [hhm]
  have T2 := T1.below b2
  have hbx2 := (b2.block q (heap_lt hbx1)).trans hbx1
  obtain ⟨W3, hW3⟩ : ∃ W3, w2.alloc (.cells #[.map (some hm)] 96) = W3 := ⟨_, rfl⟩
  have bW3 : Below w2.heap.size w2 W3 := by rw [← hW3]; exact (Below.refl _ w2).alloc (Nat.le_refl _) _
  have hbh : W3.heap[w2.heap.size]? = some (.cells #[.map (some hm)] 96) := by rw [← hW3]; exact (MapKept.heap_alloc w2 _).1
  have sW3 : W3.heap.size = w2.heap.size + 1 := by rw [← hW3]; simp
  have T3 := T2.below bW3
  have M3 := M2.turns (Below.turns bW3 (fun _ => False)) id
  have hbx3 := (bW3.block q (heap_lt hbx2)).trans hbx2
  obtain ⟨hb, hhb⟩ : ∃ hb, w2.heap.size = hb := ⟨_, rfl⟩
  rw [hhb] at hbh
  have z0 : W3.cell? ⟨q, 0, none⟩ = some (.pointer (some ⟨tb, 0, none⟩)) := by simp [World.cell?, hbx3]
  obtain ⟨c0, c1, c2, c3, fz⟩ := T3.T.cells
  have f3 := fz 3
  have hwl : IntKind.i64.wrap ((la : Int) + 1) = la + 1 := Go.IntWalk.i64_in _ ⟨by omega, by omega⟩
  obtain ⟨W4, hW4⟩ : ∃ W4, W3.setCell ⟨tb, 3, none⟩ (.int .i64 ((la : Int) + 1)) = W4 := ⟨_, rfl⟩
  have TT4 : Tb W4 tb jb wm sv ((la : Int) + 1) := by rw [← hW4]; exact heap_setCell_same _ _ _ _ _ _ T3.T
  have u4 : Turns (fun i => i = tb) W3 W4 := by rw [← hW4]; exact Turns.cell W3 tb 3 _
  have hq4 : q ≠ tb := by have := heap_lt h.T; omega
  have hbx4 := (u4.block q (heap_lt hbx3) hq4).trans hbx3
  have z4 : W4.cell? ⟨q, 0, none⟩ = some (.pointer (some ⟨tb, 0, none⟩)) := by simp [World.cell?, hbx4]
  have d2 := TT4.cells.c2
  have d3 := TT4.cells.c3
  have df := TT4.cells.fz 2
  clear y0 t1
  go_wp2_with fail
  try rw [hW3]
  try rw [hhb]
  try rw [hW4]
  have hrow := hv.row
  have nsv : ∀ b, sv.ownBlock = some b → ¬ G b ∧ b ≠ tb := fun b hb => ⟨hv.gr b hb, fun e => own_typeJ hrow h.T (by decide) (by rw [hb, e])⟩
  have nsq : sv.ownBlock ≠ some q := fun e => by have := (hrow.lt q e).2; omega
  have hrW : W.ownsRow 0 103 2 sv l.length (svC l) := own_on hrow bW
  have hr1 := own_turns hrW q1.2 (fun b hb => (nsv b hb).1)
  have hr4 := own_turns (own_on (own_on hr1 b2) bW3) u4 (fun b hb => (nsv b hb).2)
  have hr4d : W4.drew.ownsRow 0 103 2 sv l.length (svC l) := hr4
  have s4 := u4.size
  have htl := heap_lt TT4
  have TA : ∀ o, Tb (W4.drew.alloc o) tb jb wm sv ((la : Int) + 1) := fun o => (Below.heap_alloc W4.drew o tb htl).trans TT4
  have HE : Hid (∀ gN cN w5, w5.ownsRow 0 103 2 (.slice (some ⟨gN, 0, none⟩) (l.length + 1) cN) (l.length + 1) (svC l ++ [.int .i64 ((la : Int) + 1), .func (Fn.func 53) #[] #[.pointer (some ⟨hb, 0, none⟩), .pointer (some ⟨q, 0, none⟩)]]) → (W4.drew.alloc (.cells #[.int .i64 ((la : Int) + 1), .func (Fn.func 53) #[] #[.pointer (some ⟨hb, 0, none⟩), .pointer (some ⟨q, 0, none⟩)]] 103)).grownBy w5 sv.ownBlock → (sv.ownBlock = some gN ∨ gN = (W4.drew.alloc (.cells #[.int .i64 ((la : Int) + 1), .func (Fn.func 53) #[] #[.pointer (some ⟨hb, 0, none⟩), .pointer (some ⟨q, 0, none⟩)]] 103)).heap.size) → SaveR w (w5.setCell ⟨tb, 2, none⟩ (.slice (some ⟨gN, 0, none⟩) (l.length + 1) cN)) d S k N G jb st sz seq place free bm nd a fa tb wm ns m f sv l la) := by
    intro gN cN w5 ho5 hg5 hat5
    have hsz : (W4.drew.alloc (.cells #[.int .i64 ((la : Int) + 1), .func (Fn.func 53) #[] #[.pointer (some ⟨hb, 0, none⟩), .pointer (some ⟨q, 0, none⟩)]] 103)).heap.size = W4.heap.size + 1 := by simp
    rw [hsz] at hat5
    have s1 := q1.2.size
    have s2 := b2.size
    have s4 := u4.size
    have t5 : Turns (fun i => sv.ownBlock = some i) W4 w5 := ((Turns.drewN _ W4 1).trans (Turns.alloc _ W4.drew _) (fun _ _ h => h)).trans (Turns.grown hg5 (fun b hb => hb)) (fun _ _ h => h)
    have TT5 : Tb w5 tb jb wm sv ((la : Int) + 1) := (t5.block tb (heap_lt TT4) (fun e => (nsv tb e).2 rfl)).trans TT4
    have TT6 : Tb (w5.setCell ⟨tb, 2, none⟩ (.slice (some ⟨gN, 0, none⟩) (l.length + 1) cN)) tb jb wm (.slice (some ⟨gN, 0, none⟩) (l.length + 1) cN) ((la : Int) + 1) := heap_setCell_same _ tb 2 _ _ _ TT5
    have u6 := Turns.cell w5 tb 2 (.slice (some ⟨gN, 0, none⟩) (l.length + 1) cN)
    have v36 : Turns (fun i => i = tb ∨ sv.ownBlock = some i) W3 (w5.setCell ⟨tb, 2, none⟩ (.slice (some ⟨gN, 0, none⟩) (l.length + 1) cN)) := ((u4.mono (fun _ _ e => Or.inl e)).trans t5 (fun _ _ e => Or.inr e)).trans u6 (fun _ _ e => Or.inl e)
    have r3 : W3.ownsRow 0 103 2 sv l.length (svC l) := own_on (own_on hr1 b2) bW3
    have hS3 : Svs W3 G tb wm sv l la := ((((hv.turns (Below.turns bW (fun _ => False)) (fun _ _ => id) (fun _ _ => ⟨id, id, id, fun _ _ => id⟩)).same q1.2).turns (Below.turns b2 (fun _ => False)) (fun _ _ => id) (fun _ _ => ⟨id, id, id, fun _ _ => id⟩)).turns (Below.turns bW3 (fun _ => False)) (fun _ _ => id) (fun _ _ => ⟨id, id, id, fun _ _ => id⟩))
    have hGl3 := T3.D.lt
    have hGw := h.D.lt
    have gH : ∀ i, w.heap.size ≤ i → ¬ G i := fun i hi r => by have := hGw i r; omega
    have nY : ∀ (i : Nat) (cs : Array Value) (t : Nat), W3.heap[i]? = some (.cells cs t) → t ≠ 99 → t ≠ 103 → ¬ (i = tb ∨ sv.ownBlock = some i) := fun i cs t hi h1 h2 e => by
      rcases e with rfl | e
      · have := T3.T; unfold Tb at this; rw [hi] at this; simp at this; exact h1 this.2
      · exact own_typeJ r3 hi h2 e
    have nM : ∀ (i n : Nat) (x : List (Nat × Nat)), Mp W3 i n x → ¬ (i = tb ∨ sv.ownBlock = some i) := fun i n x hi e => by
      rcases e with rfl | e
      · exact mp_cells hi T3.T rfl
      · exact own_mapJ r3 hi e
    have T6 := T3.move v36 (fun i hi e => e.elim (fun e => h.gt (e ▸ hi)) (fun e => (nsv i e).1 hi)) (nY jb _ _ T3.J (by decide) (by decide)) (nM bm _ _ T3.A) (nM wm _ _ T3.M) (fun p hp => nY p.2 _ _ (T3.V p hp).1 (by decide) (by decide)) (fun p hp => nY p.2 _ _ (T3.VA p hp).1 (by decide) (by decide)) TT6
    have S6 : ∀ s ∈ l, Sp (w5.setCell ⟨tb, 2, none⟩ (.slice (some ⟨gN, 0, none⟩) (l.length + 1) cN)) tb s := fun s hs => by
      have p := hS3.sp s hs
      exact p.turns v36 (nY _ _ _ p.h (by decide) (by decide)) (nY _ _ _ p.q (by decide) (by decide)) (nM _ _ _ p.M) (fun x hx => nY _ _ _ (p.V x hx).1 (by decide) (by decide))
    have P3 : Sp W3 tb ⟨la + 1, hb, q, hm, ns, m, f⟩ := ⟨hbh, hbx3, M3, T3.V⟩
    have P6 : Sp (w5.setCell ⟨tb, 2, none⟩ (.slice (some ⟨gN, 0, none⟩) (l.length + 1) cN)) tb ⟨la + 1, hb, q, hm, ns, m, f⟩ := P3.turns v36 (nY _ _ _ P3.h (by decide) (by decide)) (nY _ _ _ P3.q (by decide) (by decide)) (nM _ _ _ P3.M) (fun x hx => nY _ _ _ (P3.V x hx).1 (by decide) (by decide))
    have hwm := h.M.own.lt
    have hgN : ¬ G gN ∧ gN ≠ tb := by
      rcases hat5 with e | e
      · exact nsv gN e
      · have := heap_lt TT4
        exact ⟨gH gN (by omega), by omega⟩
    refine ⟨⟨_, ⟨la + 1, hb, q, hm, ns, m, f⟩, T6, ⟨?_, ?_, ?_, ?_, ?_, ?_⟩, rfl, rfl, rfl, rfl, fun b hb => ?_⟩, ?_⟩
    · rw [svC_snoc, List.length_append]
      exact own_turns ho5 u6 (fun b hb e => hgN.2 (by cases hb; exact e))
    · rw [List.pairwise_append]
      exact ⟨hv.ris, List.pairwise_singleton _ _, fun x hx y hy => by simp at hy; subst hy; have := hv.top x hx; simp only; omega⟩
    · intro s hs
      rcases List.mem_append.1 hs with hs | hs
      · have := hv.top s hs; omega
      · simp at hs; subst hs; exact Nat.le_refl _
    · intro b hb
      cases hb
      exact hgN.1
    · intro s hs
      rcases List.mem_append.1 hs with hs | hs
      · exact S6 s hs
      · simp at hs; subst hs; exact P6
    · intro s hs
      rcases List.mem_append.1 hs with hs | hs
      · exact hv.gs s hs
      · simp at hs; subst hs
        exact ⟨gH _ (by simp only; omega), gq, gH _ (by simp only; omega), by simp only; omega, h.gv⟩
    · cases hb
      exact hat5.imp id (fun e => by have : gN = W4.heap.size + 1 := e; show w.heap.size ≤ gN; omega)
    · refine (((((Below.turns bW (fun i => G i ∨ i = tb ∨ sv.ownBlock = some i)).trans q1.2 (fun _ _ r => Or.inl r)).trans (Below.turns b2 (fun _ => False)) (fun _ _ => False.elim)).trans (Below.turns bW3 (fun _ => False)) (fun _ _ => False.elim)).trans v36 (fun _ _ r => Or.inr r))
  have hSd : W4.drew.cell? ⟨q, 0, none⟩ = some (.pointer (some ⟨tb, 0, none⟩)) ∧ W4.drew.cell? ⟨tb, 3, none⟩ = some (.int .i64 ((la : Int) + 1)) := ⟨z4, d3⟩
  have hSa : ∀ o, (W4.drew.alloc o).cell? ⟨q, 0, none⟩ = some (.pointer (some ⟨tb, 0, none⟩)) ∧ (W4.drew.alloc o).cell? ⟨tb, 3, none⟩ = some (.int .i64 ((la : Int) + 1)) := fun o => ⟨(World.cell?_of_block (Below.heap_alloc W4.drew o q (heap_lt hbx4))).trans z4, (TA o).cells.c3⟩
  have d2d : W4.drew.cell? ⟨tb, 2, none⟩ = some sv := d2
  have d2a : ∀ o, (W4.drew.alloc o).cell? ⟨tb, 2, none⟩ = some sv := fun o => (TA o).cells.c2
  refine wp_region_held_drew (S := fun w' => w'.cell? ⟨q, 0, none⟩ = some (.pointer (some ⟨tb, 0, none⟩)) ∧ w'.cell? ⟨tb, 3, none⟩ = some (.int .i64 ((la : Int) + 1))) (by kernel_rfl) hSd (fun hHeld => ?_)
  refine wpAnyH_take (i := 0) (oi := ⟨some 31, .load 63 (.tmp 1), 63, "tx.go:81", #[], none⟩) (v := (.pointer (some ⟨tb, 0, none⟩))) rfl (by kernel_rfl) (by kernel_rfl) (by kernel_rfl) (fun _ _ _ h => h) (Or.inl ⟨by rfl, fun w' h' => by have e1 := h'.1; unfold execOp; go_simp⟩) hHeld ?_
  simp only [Act.put, List.setIfInBounds_toArray, List.set_cons_zero, List.set_cons_succ]
  refine wpAnyH_take (i := 1) (oi := ⟨some 32, .load 63 (.tmp 1), 63, "tx.go:81", #[], none⟩) (v := (.pointer (some ⟨tb, 0, none⟩))) rfl (by kernel_rfl) (by kernel_rfl) (by kernel_rfl) (fun _ _ _ h => h) (Or.inl ⟨by rfl, fun w' h' => by have e1 := h'.1; unfold execOp; go_simp⟩) hHeld ?_
  simp only [Act.put, List.setIfInBounds_toArray, List.set_cons_zero, List.set_cons_succ]
  refine wpAnyH_take (i := 2) (oi := ⟨some 33, .nilCheck (.tmp 32), 0, "tx.go:81", #[⟨1, .data⟩], none⟩) (v := (.pointer (some ⟨tb, 0, none⟩))) rfl (by kernel_rfl) (by kernel_rfl) (by kernel_rfl) (fun _ _ _ h => h) (Or.inl ⟨by rfl, fun _ _ => by rfl⟩) hHeld ?_
  simp only [Act.put, List.setIfInBounds_toArray, List.set_cons_zero, List.set_cons_succ]
  refine wpAnyH_take (i := 3) (oi := ⟨some 34, .fieldAddr 99 (.tmp 33) 2, 0, "tx.go:81", #[⟨2, .data⟩], none⟩) (v := (.pointer (some ⟨tb, 2, none⟩))) rfl (by kernel_rfl) (by kernel_rfl) (by kernel_rfl) (fun _ _ _ h => h) (Or.inl ⟨by rfl, fun _ _ => by rfl⟩) hHeld ?_
  simp only [Act.put, List.setIfInBounds_toArray, List.set_cons_zero, List.set_cons_succ]
  refine wpAnyH_take (i := 5) (oi := ⟨some 36, .load 63 (.tmp 1), 63, "tx.go:81", #[], none⟩) (v := (.pointer (some ⟨tb, 0, none⟩))) rfl (by kernel_rfl) (by kernel_rfl) (by kernel_rfl) (fun _ _ _ h => h) (Or.inl ⟨by rfl, fun w' h' => by have e1 := h'.1; unfold execOp; go_simp⟩) hHeld ?_
  simp only [Act.put, List.setIfInBounds_toArray, List.set_cons_zero, List.set_cons_succ]
  refine wpAnyH_take (i := 6) (oi := ⟨some 37, .nilCheck (.tmp 36), 0, "tx.go:81", #[⟨5, .data⟩], none⟩) (v := (.pointer (some ⟨tb, 0, none⟩))) rfl (by kernel_rfl) (by kernel_rfl) (by kernel_rfl) (fun _ _ _ h => h) (Or.inl ⟨by rfl, fun _ _ => by rfl⟩) hHeld ?_
  simp only [Act.put, List.setIfInBounds_toArray, List.set_cons_zero, List.set_cons_succ]
  refine wpAnyH_take (i := 7) (oi := ⟨some 38, .fieldAddr 99 (.tmp 37) 3, 0, "tx.go:81", #[⟨6, .data⟩], none⟩) (v := (.pointer (some ⟨tb, 3, none⟩))) rfl (by kernel_rfl) (by kernel_rfl) (by kernel_rfl) (fun _ _ _ h => h) (Or.inl ⟨by rfl, fun _ _ => by rfl⟩) hHeld ?_
  simp only [Act.put, List.setIfInBounds_toArray, List.set_cons_zero, List.set_cons_succ]
  refine wpAnyH_take (i := 8) (oi := ⟨some 39, .load 3 (.tmp 38), 3, "tx.go:81", #[⟨7, .data⟩], none⟩) (v := (.int .i64 ((la : Int) + 1))) rfl (by kernel_rfl) (by kernel_rfl) (by kernel_rfl) (fun _ _ _ h => h) (Or.inl ⟨by rfl, fun w' h' => by have e1 := h'.2; unfold execOp; go_simp⟩) hHeld ?_
  simp only [Act.put, List.setIfInBounds_toArray, List.set_cons_zero, List.set_cons_succ]
  refine wpAnyH_take (i := 9) (oi := ⟨some 40, .makeFunc (Fn.func 53) #[] #[.tmp 5, .tmp 1], 1, "tx.go:81", #[], none⟩) (v := (.func (Fn.func 53) #[] #[.pointer (some ⟨hb, 0, none⟩), .pointer (some ⟨q, 0, none⟩)])) rfl (by kernel_rfl) (by kernel_rfl) (by kernel_rfl) (fun _ _ _ h => h) (Or.inl ⟨by rfl, fun w' h' => by unfold execOp; go_simp⟩) hHeld ?_
  simp only [Act.put, List.setIfInBounds_toArray, List.set_cons_zero, List.set_cons_succ]
  refine wpAnyH_take (i := 10) (oi := ⟨some 41, .build 103 #[(0, .tmp 39), (1, .tmp 40)], 103, "tx.go:81", #[⟨8, .data⟩, ⟨9, .data⟩], none⟩) (v := (.agg #[.int .i64 ((la : Int) + 1), .func (Fn.func 53) #[] #[.pointer (some ⟨hb, 0, none⟩), .pointer (some ⟨q, 0, none⟩)]])) rfl (by kernel_rfl) (by kernel_rfl) (by kernel_rfl) (fun _ _ _ h => h) (Or.inl ⟨by rfl, fun w' h' => by unfold execOp; go_simp⟩) hHeld ?_
  simp only [Act.put, List.setIfInBounds_toArray, List.set_cons_zero, List.set_cons_succ]
  refine wpAnyH_ready (rs := [4, 11]) (by kernel_rfl) (by simp) ?_
  refine AllReadyH.cons (o := ⟨some 35, .load 97 (.tmp 34), 97, "tx.go:81", #[⟨3, .data⟩], none⟩) rfl (fun KK hK => ?_) (AllReadyH.cons (o := ⟨some 42, .buildSlice 97 1 #[(0, .tmp 41)], 97, "tx.go:81", #[⟨10, .data⟩], none⟩) rfl (fun KK hK => ?_) AllReadyH.nil)
  · go_simp
    refine hK.out _ _ hSd (fun hHeld => ?_)
    clear hK KK
    try simp only [Act.put, List.setIfInBounds_toArray, List.set_cons_zero, List.set_cons_succ]
    refine wpAnyH_ready (rs := [11]) (by kernel_rfl) (by simp) ?_
    refine AllReadyH.cons (o := ⟨some 42, .buildSlice 97 1 #[(0, .tmp 41)], 97, "tx.go:81", #[⟨10, .data⟩], none⟩) rfl (fun KK hK => ?_) AllReadyH.nil
    go_simp
    refine hK.out _ _ (hSa _) (fun hHeld => ?_)
    clear hK KK
    try simp only [Act.put, List.setIfInBounds_toArray, List.set_cons_zero, List.set_cons_succ]
    refine wpAnyH_ready (rs := [12]) (by kernel_rfl) (by simp) ?_
    refine AllReadyH.cons (o := ⟨some 43, .call ⟨.builtin .append, #[.tmp 35, .tmp 42], #[97, 97]⟩, 97, "tx.go:81", #[⟨4, .data⟩, ⟨11, .data⟩], none⟩) rfl (fun KK hK => ?_) AllReadyH.nil
    refine step_append_lies _ rfl _ _ 97 rfl 0 103 i0 (.agg #[.int .i64 0, .nilFunc]) 2 16 Tryz.underlying97 hi0 hz0 hz1 hz2 rfl (by decide) sv l.length (svC l) rfl (hr4d.alloc _) ⟨W4.heap.size, 0, none⟩ 1 1 [.int .i64 ((la : Int) + 1), .func (Fn.func 53) #[] #[.pointer (some ⟨hb, 0, none⟩), .pointer (some ⟨q, 0, none⟩)]] rfl rfl (cell_two_new W4.drew _ _ _) (by intro u hu; simp at hu; rcases hu with rfl | rfl <;> rfl) (by decide) (by unfold maxLen; omega) (by omega) (by omega) _ rfl ?_
    intro gN cN w5 ho5 hg5 hat5 hlt5
    have TT5 : Tb w5 tb jb wm sv ((la : Int) + 1) := (hg5.block tb (heap_lt (TA _)) (fun e => (nsv tb e.symm).2 rfl)).trans (TA _)
    have e2 := TT5.cells.c2
    have ef := TT5.cells.fz 2
    have hbx5 := ((hg5.block q (by simp; have := heap_lt hbx4; omega) (fun e => nsq e.symm)).trans (Below.heap_alloc W4.drew _ q (heap_lt hbx4))).trans hbx4
    have hS5 : w5.cell? ⟨q, 0, none⟩ = some (.pointer (some ⟨tb, 0, none⟩)) ∧ w5.cell? ⟨tb, 3, none⟩ = some (.int .i64 ((la : Int) + 1)) := ⟨by simp [World.cell?, hbx5], TT5.cells.c3⟩
    have hS6 : ∀ v, (w5.setCell ⟨tb, 2, none⟩ v).cell? ⟨q, 0, none⟩ = some (.pointer (some ⟨tb, 0, none⟩)) ∧ (w5.setCell ⟨tb, 2, none⟩ v).cell? ⟨tb, 3, none⟩ = some (.int .i64 ((la : Int) + 1)) := fun v => ⟨(World.cell?_of_block ((Turns.cell w5 tb 2 v).block q (heap_lt hbx5) hq4)).trans (by simp [World.cell?, hbx5]), by
      have := heap_setCell_same _ tb 2 _ _ v TT5
      simp [World.cell?, this]⟩
    refine hK.out _ _ hS5 (fun hHeld => ?_)
    clear hK KK
    try simp only [Act.put, List.setIfInBounds_toArray, List.set_cons_zero, List.set_cons_succ]
    refine wpAnyH_ready (rs := [13]) (by kernel_rfl) (by simp) ?_
    refine AllReadyH.cons (o := ⟨some 44, .nilCheck (.tmp 31), 0, "tx.go:81", #[⟨0, .data⟩, ⟨0, .phase⟩, ⟨1, .phase⟩, ⟨2, .phase⟩, ⟨3, .phase⟩, ⟨4, .phase⟩, ⟨5, .phase⟩, ⟨6, .phase⟩, ⟨7, .phase⟩, ⟨8, .phase⟩, ⟨9, .phase⟩, ⟨10, .phase⟩, ⟨11, .phase⟩, ⟨12, .phase⟩], none⟩) rfl (fun KK hK => ?_) AllReadyH.nil
    go_simp
    refine hK.out _ _ hS5 (fun hHeld => ?_)
    clear hK KK
    try simp only [Act.put, List.setIfInBounds_toArray, List.set_cons_zero, List.set_cons_succ]
    refine wpAnyH_ready (rs := [14]) (by kernel_rfl) (by simp) ?_
    refine AllReadyH.cons (o := ⟨some 45, .fieldAddr 99 (.tmp 44) 2, 0, "tx.go:81", #[⟨13, .data⟩, ⟨0, .phase⟩, ⟨1, .phase⟩, ⟨2, .phase⟩, ⟨3, .phase⟩, ⟨4, .phase⟩, ⟨5, .phase⟩, ⟨6, .phase⟩, ⟨7, .phase⟩, ⟨8, .phase⟩, ⟨9, .phase⟩, ⟨10, .phase⟩, ⟨11, .phase⟩, ⟨12, .phase⟩], none⟩) rfl (fun KK hK => ?_) AllReadyH.nil
    go_simp
    refine hK.out _ _ hS5 (fun hHeld => ?_)
    clear hK KK
    try simp only [Act.put, List.setIfInBounds_toArray, List.set_cons_zero, List.set_cons_succ]
    refine wpAnyH_ready (rs := [15]) (by kernel_rfl) (by simp) ?_
    refine AllReadyH.cons (o := ⟨none, .store 97 (.tmp 45) (.tmp 43), 0, "tx.go:81", #[⟨14, .data⟩, ⟨12, .data⟩, ⟨12, .chain⟩, ⟨0, .phase⟩, ⟨1, .phase⟩, ⟨2, .phase⟩, ⟨3, .phase⟩, ⟨4, .phase⟩, ⟨5, .phase⟩, ⟨6, .phase⟩, ⟨7, .phase⟩, ⟨8, .phase⟩, ⟨9, .phase⟩, ⟨10, .phase⟩, ⟨11, .phase⟩, ⟨12, .phase⟩], none⟩) rfl (fun KK hK => ?_) AllReadyH.nil
    go_simp
    refine hK.out _ _ (hS6 _) (fun hHeld => ?_)
    clear hK KK
    try simp only [Act.put, List.setIfInBounds_toArray, List.set_cons_zero, List.set_cons_succ]
    refine wpAnyH_done (by kernel_rfl) ?_ _
    clear hHeld
    have R6 := HE.out gN cN w5 ho5 hg5 hat5
    have z6 := (hS6 (.slice (some ⟨gN, 0, none⟩) (l.length + 1) cN)).1
    have z7 := (hS6 (.slice (some ⟨gN, 0, none⟩) (l.length + 1) cN)).2
    obtain ⟨W6, hW6⟩ : ∃ W6, w5.setCell ⟨tb, 2, none⟩ (.slice (some ⟨gN, 0, none⟩) (l.length + 1) cN) = W6 := ⟨_, rfl⟩
    rw [hW6] at R6 z6 z7
    try rw [hW6]
    clear hS5 hS6 hbx5 TT5 e2 ef ho5 hg5 hat5 hlt5
    go_wp2_with fail
    refine bodyPost_ret (results_tmp2 rfl _ _ _) rfl ?_
    exact ⟨rfl, R6⟩
  · go_simp
    refine hK.out _ _ (hSa _) (fun hHeld => ?_)
    clear hK KK
    try simp only [Act.put, List.setIfInBounds_toArray, List.set_cons_zero, List.set_cons_succ]
    refine wpAnyH_ready (rs := [4]) (by kernel_rfl) (by simp) ?_
    refine AllReadyH.cons (o := ⟨some 35, .load 97 (.tmp 34), 97, "tx.go:81", #[⟨3, .data⟩], none⟩) rfl (fun KK hK => ?_) AllReadyH.nil
    go_simp
    refine hK.out _ _ (hSa _) (fun hHeld => ?_)
    clear hK KK
    try simp only [Act.put, List.setIfInBounds_toArray, List.set_cons_zero, List.set_cons_succ]
    refine wpAnyH_ready (rs := [12]) (by kernel_rfl) (by simp) ?_
    refine AllReadyH.cons (o := ⟨some 43, .call ⟨.builtin .append, #[.tmp 35, .tmp 42], #[97, 97]⟩, 97, "tx.go:81", #[⟨4, .data⟩, ⟨11, .data⟩], none⟩) rfl (fun KK hK => ?_) AllReadyH.nil
    refine step_append_lies _ rfl _ _ 97 rfl 0 103 i0 (.agg #[.int .i64 0, .nilFunc]) 2 16 Tryz.underlying97 hi0 hz0 hz1 hz2 rfl (by decide) sv l.length (svC l) rfl (hr4d.alloc _) ⟨W4.heap.size, 0, none⟩ 1 1 [.int .i64 ((la : Int) + 1), .func (Fn.func 53) #[] #[.pointer (some ⟨hb, 0, none⟩), .pointer (some ⟨q, 0, none⟩)]] rfl rfl (cell_two_new W4.drew _ _ _) (by intro u hu; simp at hu; rcases hu with rfl | rfl <;> rfl) (by decide) (by unfold maxLen; omega) (by omega) (by omega) _ rfl ?_
    intro gN cN w5 ho5 hg5 hat5 hlt5
    have TT5 : Tb w5 tb jb wm sv ((la : Int) + 1) := (hg5.block tb (heap_lt (TA _)) (fun e => (nsv tb e.symm).2 rfl)).trans (TA _)
    have e2 := TT5.cells.c2
    have ef := TT5.cells.fz 2
    have hbx5 := ((hg5.block q (by simp; have := heap_lt hbx4; omega) (fun e => nsq e.symm)).trans (Below.heap_alloc W4.drew _ q (heap_lt hbx4))).trans hbx4
    have hS5 : w5.cell? ⟨q, 0, none⟩ = some (.pointer (some ⟨tb, 0, none⟩)) ∧ w5.cell? ⟨tb, 3, none⟩ = some (.int .i64 ((la : Int) + 1)) := ⟨by simp [World.cell?, hbx5], TT5.cells.c3⟩
    have hS6 : ∀ v, (w5.setCell ⟨tb, 2, none⟩ v).cell? ⟨q, 0, none⟩ = some (.pointer (some ⟨tb, 0, none⟩)) ∧ (w5.setCell ⟨tb, 2, none⟩ v).cell? ⟨tb, 3, none⟩ = some (.int .i64 ((la : Int) + 1)) := fun v => ⟨(World.cell?_of_block ((Turns.cell w5 tb 2 v).block q (heap_lt hbx5) hq4)).trans (by simp [World.cell?, hbx5]), by
      have := heap_setCell_same _ tb 2 _ _ v TT5
      simp [World.cell?, this]⟩
    refine hK.out _ _ hS5 (fun hHeld => ?_)
    clear hK KK
    try simp only [Act.put, List.setIfInBounds_toArray, List.set_cons_zero, List.set_cons_succ]
    refine wpAnyH_ready (rs := [13]) (by kernel_rfl) (by simp) ?_
    refine AllReadyH.cons (o := ⟨some 44, .nilCheck (.tmp 31), 0, "tx.go:81", #[⟨0, .data⟩, ⟨0, .phase⟩, ⟨1, .phase⟩, ⟨2, .phase⟩, ⟨3, .phase⟩, ⟨4, .phase⟩, ⟨5, .phase⟩, ⟨6, .phase⟩, ⟨7, .phase⟩, ⟨8, .phase⟩, ⟨9, .phase⟩, ⟨10, .phase⟩, ⟨11, .phase⟩, ⟨12, .phase⟩], none⟩) rfl (fun KK hK => ?_) AllReadyH.nil
    go_simp
    refine hK.out _ _ hS5 (fun hHeld => ?_)
    clear hK KK
    try simp only [Act.put, List.setIfInBounds_toArray, List.set_cons_zero, List.set_cons_succ]
    refine wpAnyH_ready (rs := [14]) (by kernel_rfl) (by simp) ?_
    refine AllReadyH.cons (o := ⟨some 45, .fieldAddr 99 (.tmp 44) 2, 0, "tx.go:81", #[⟨13, .data⟩, ⟨0, .phase⟩, ⟨1, .phase⟩, ⟨2, .phase⟩, ⟨3, .phase⟩, ⟨4, .phase⟩, ⟨5, .phase⟩, ⟨6, .phase⟩, ⟨7, .phase⟩, ⟨8, .phase⟩, ⟨9, .phase⟩, ⟨10, .phase⟩, ⟨11, .phase⟩, ⟨12, .phase⟩], none⟩) rfl (fun KK hK => ?_) AllReadyH.nil
    go_simp
    refine hK.out _ _ hS5 (fun hHeld => ?_)
    clear hK KK
    try simp only [Act.put, List.setIfInBounds_toArray, List.set_cons_zero, List.set_cons_succ]
    refine wpAnyH_ready (rs := [15]) (by kernel_rfl) (by simp) ?_
    refine AllReadyH.cons (o := ⟨none, .store 97 (.tmp 45) (.tmp 43), 0, "tx.go:81", #[⟨14, .data⟩, ⟨12, .data⟩, ⟨12, .chain⟩, ⟨0, .phase⟩, ⟨1, .phase⟩, ⟨2, .phase⟩, ⟨3, .phase⟩, ⟨4, .phase⟩, ⟨5, .phase⟩, ⟨6, .phase⟩, ⟨7, .phase⟩, ⟨8, .phase⟩, ⟨9, .phase⟩, ⟨10, .phase⟩, ⟨11, .phase⟩, ⟨12, .phase⟩], none⟩) rfl (fun KK hK => ?_) AllReadyH.nil
    go_simp
    refine hK.out _ _ (hS6 _) (fun hHeld => ?_)
    clear hK KK
    try simp only [Act.put, List.setIfInBounds_toArray, List.set_cons_zero, List.set_cons_succ]
    refine wpAnyH_done (by kernel_rfl) ?_ _
    clear hHeld
    have R6 := HE.out gN cN w5 ho5 hg5 hat5
    have z6 := (hS6 (.slice (some ⟨gN, 0, none⟩) (l.length + 1) cN)).1
    have z7 := (hS6 (.slice (some ⟨gN, 0, none⟩) (l.length + 1) cN)).2
    obtain ⟨W6, hW6⟩ : ∃ W6, w5.setCell ⟨tb, 2, none⟩ (.slice (some ⟨gN, 0, none⟩) (l.length + 1) cN) = W6 := ⟨_, rfl⟩
    rw [hW6] at R6 z6 z7
    try rw [hW6]
    clear hS5 hS6 hbx5 TT5 e2 ef ho5 hg5 hat5 hlt5
    go_wp2_with fail
    refine bodyPost_ret (results_tmp2 rfl _ _ _) rfl ?_
    exact ⟨rfl, R6⟩
end Go.Proofs.YtlcjkbhcbiggcaaGreatDoor

/- cmp.Compare at numbers; slices.BinarySearchFunc over savepoints, by their contracts. -/
namespace Go.Proofs.YtlcjkbhcbiggcaaGreatDoor
open Go.RowKit Go.Maps
set_option maxRecDepth 100000

/-- How two numbers compare. -/
def cmpI (x y : Int) : Int := if x < y then -1 else if y < x then 1 else 0
theorem compare_any (x y : Int) (w : World) : Calls Tryz.prog 56 #[.int .i64 x, .int .i64 y] w fun e w' => e = .returned (.int .i64 (cmpI x y)) ∧ w' = w := by
  have hN : ∀ z : Int, Calls Tryz.prog 109 #[.int .i64 z] w fun e w' => e = .returned (.bool false) ∧ w' = w := fun z => by
    go_enter Tryz.func109, Tryz.ntmps109
    go_wp2
    go_ret
    simp
  unfold cmpI
  by_cases h1 : x < y
  · rw [if_pos h1]
    go_enter Tryz.func56, Tryz.ntmps56
    go_wp2_with (go_at_call 109; refine (hN _).mono ?_; rintro e wn ⟨rfl, hwn⟩; subst wn)
    go_ret
    exact ⟨rfl, rfl⟩
  · rw [if_neg h1]
    by_cases h2 : y < x
    · rw [if_pos h2]
      go_enter Tryz.func56, Tryz.ntmps56
      go_wp2_with (go_at_call 109; refine (hN _).mono ?_; rintro e wn ⟨rfl, hwn⟩; subst wn)
      go_ret
      exact ⟨rfl, rfl⟩
    · rw [if_neg h2]
      go_enter Tryz.func56, Tryz.ntmps56
      go_wp2_with (go_at_call 109; refine (hN _).mono ?_; rintro e wn ⟨rfl, hwn⟩; subst wn)
      go_ret
      exact ⟨rfl, rfl⟩
theorem back1_any (x y : Int) (fv : Value) (w : World) : Calls Tryz.prog 55 #[.agg #[.int .i64 x, fv], .int .i64 y] w fun e w' => e = .returned (.int .i64 (cmpI x y)) ∧ Below w.heap.size w w' := by
  go_enter Tryz.func55, Tryz.ntmps55
  go_wp2_with (go_at_call 56; refine (compare_any _ _ _).mono ?_; rintro e wn ⟨rfl, hwn⟩; subst wn)
  go_ret
  exact ⟨rfl, (Below.refl _ w).alloc (Nat.le_refl _) _⟩
theorem svC_at : ∀ (l : List SvI) (i : Nat) (s : SvI), l[i]? = some s → (svC l)[i * 2]? = s.cells[0]? ∧ (svC l)[i * 2 + 1]? = s.cells[1]?
  | [], i, s, h => by simp at h
  | x :: l, 0, s, h => by simp at h; subst h; simp [svC, SvI.cells]
  | x :: l, i + 1, s, h => by
    have := svC_at l i s (by simpa using h)
    rw [show (i + 1) * 2 = i * 2 + 1 + 1 by omega]
    simpa [svC, SvI.cells] using this
theorem sv_get {w : World} {base : Nat} {sv : Value} {l : List SvI} (h : w.ownsRow base 103 2 sv l.length (svC l)) {i : Nat} (hi : i < l.length) : ∃ g c, sv = .slice (some ⟨g, 0, none⟩) l.length c ∧ w.cell? ⟨g, i * 2, none⟩ = some (.int .i64 (l[i].mark : Nat)) ∧ w.cell? ⟨g, i * 2 + 1, none⟩ = some (.func (Fn.func 53) #[] #[.pointer (some ⟨l[i].hb, 0, none⟩), .pointer (some ⟨l[i].q, 0, none⟩)]) := by
  rcases h.2 with ⟨_, h0⟩ | ⟨g, cap, cur, hv, _, hg, h1, h2, h3, h4⟩
  · omega
  · obtain ⟨e1, e2⟩ := svC_at l i l[i] (by simp [hi])
    refine ⟨g, cap, hv, ?_, ?_⟩
    · simp only [World.cell?, hg]
      rw [← h4, List.getElem?_take, if_pos (by omega)] at e1
      simpa [SvI.cells] using e1
    · simp only [World.cell?, hg]
      rw [← h4, List.getElem?_take, if_pos (by omega)] at e2
      simpa [SvI.cells] using e2
theorem below_at {l : List SvI} (h : l.Pairwise (fun a b => a.mark < b.mark)) {i : Nat} (hi : i < l.length) : ∀ x ∈ l.take (i + 1), x.mark ≤ l[i].mark := fun x hx => by
  obtain ⟨j, hj, rfl⟩ := List.mem_iff_getElem.1 hx
  simp only [List.length_take] at hj
  rw [List.getElem_take]
  rcases Nat.lt_or_ge j i with q | q
  · exact Nat.le_of_lt (List.pairwise_iff_getElem.1 h j i _ hi q)
  · obtain rfl : j = i := by omega
    exact Nat.le_refl _
theorem above_at {l : List SvI} (h : l.Pairwise (fun a b => a.mark < b.mark)) {i : Nat} (hi : i < l.length) : ∀ x ∈ l.drop i, l[i].mark ≤ x.mark := fun x hx => by
  obtain ⟨j, hj, rfl⟩ := List.mem_iff_getElem.1 hx
  simp only [List.length_drop] at hj
  rw [List.getElem_drop]
  rcases Nat.eq_zero_or_pos j with q | q
  · subst q; exact Nat.le_refl _
  · exact Nat.le_of_lt (List.pairwise_iff_getElem.1 h i (i + j) hi (by omega) (by omega))
/-- Is that mark at that place? -/
def isAt (l : List SvI) (i : Nat) (t : Int) : Bool := match l[i]? with | some s => decide ((s.mark : Int) = t) | none => false
/-- Where a mark stands, or should stand. -/
structure Bs (l : List SvI) (t : Int) (i : Nat) : Prop where
  le : i ≤ l.length
  lo : ∀ x ∈ l.take i, (x.mark : Int) < t
  hi : ∀ x ∈ l.drop i, t ≤ (x.mark : Int)
set_option maxHeartbeats 2000000 in
theorem bsearch_any (l : List SvI) (sv : Value) (t : Int) (w : World) (hrow : w.ownsRow 0 103 2 sv l.length (svC l)) (hl : l.length ≤ 1000000) (hris : l.Pairwise (fun a b => a.mark < b.mark)) :
    Calls Tryz.prog 54 #[sv, .int .i64 t, .func (Fn.func 55) #[] #[]] w fun e w' => ∃ i : Nat, e = .returned (.tuple #[.int .i64 i, .bool (isAt l i t)]) ∧ Bs l t i ∧ Below w.heap.size w w' := by
  obtain ⟨ao, c, rfl⟩ := row_slice hrow
  obtain ⟨n, hn⟩ : ∃ n, l.length = n := ⟨_, rfl⟩
  have HN : Hid (l.length = n) := hn
  have hni : (n : Int) ≤ 1000000 := by omega
  rw [hn]
  clear hn
  go_enter Tryz.func54, Tryz.ntmps54
  go_wp2_with fail
  go_loopw [9, 10] (fun i j wr => ∃ a b : Nat, a ≤ b ∧ b ≤ n ∧ i = .int .i64 a ∧ j = .int .i64 b ∧ (∀ x ∈ l.take a, (x.mark : Int) < t) ∧ (∀ x ∈ l.drop b, t ≤ (x.mark : Int)) ∧ Below w.heap.size w wr) (fun i j _ => (intOf j - intOf i).toNat)
  case atStart => exact ⟨0, n, Nat.zero_le _, Nat.le_refl _, rfl, rfl, by simp, by rw [← HN.out]; simp, Below.refl _ _⟩
  case round =>
    obtain ⟨a, b, hab, hbn, rfl, rfl, hlo, hhi, hB⟩ := hrel
    by_cases hlt : a < b
    · have hai : (a : Int) < b := by omega
      obtain ⟨h, hh⟩ : ∃ h, (a + b) / 2 = h := ⟨_, rfl⟩
      have hhl : h < l.length := by rw [HN.out]; omega
      obtain ⟨g, cc, hv, x0, x1⟩ := sv_get (own_on hrow hB) hhl
      go_wp2_with fail
      refine (back1_any _ _ _ _).mono ?_
      rintro e w2 ⟨rfl, b2⟩
      have B2 := hB.trans (b2.mono hB.size)
      by_cases hm : (l[h].mark : Int) < t
      · have hc : cmpI (l[h].mark : Int) t = -1 := by unfold cmpI; rw [if_pos hm]
        rw [hc]
        have hlo2 : ∀ x ∈ l.take (h + 1), (x.mark : Int) < t := fun x hx => by
          have := below_at hris hhl x hx
          omega
        clear x0 x1 hlo hm hc
        go_wp2_with fail
        go_roundw
        case rel => exact ⟨h + 1, b, by omega, hbn, by congr 1; omega, rfl, hlo2, hhi, B2⟩
        case measure => simp [intOf]; omega
      · have hc : ¬ cmpI (l[h].mark : Int) t < 0 := by unfold cmpI; rw [if_neg hm]; split <;> omega
        obtain ⟨cv, hcv⟩ : ∃ cv, cmpI (l[h].mark : Int) t = cv := ⟨_, rfl⟩
        rw [hcv] at hc ⊢
        have hhi2 : ∀ x ∈ l.drop h, t ≤ (x.mark : Int) := fun x hx => by
          have := above_at hris hhl x hx
          omega
        clear x0 x1 hhi hm hcv
        go_wp2_with fail
        go_roundw
        case rel => exact ⟨a, h, by omega, by omega, rfl, by congr 1; omega, hlo, hhi2, B2⟩
        case measure => simp [intOf]; omega
    · have hai : ¬ (a : Int) < b := by omega
      obtain rfl : a = b := by omega
      have HR : Hid (Bs l t a) := ⟨by rw [HN.out]; exact hbn, hlo, hhi⟩
      clear hlo hhi
      by_cases ha : a < n
      · have hani : (a : Int) < n := by omega
        have hal : a < l.length := by rw [HN.out]; exact ha
        obtain ⟨g, cc, hv, x0, x1⟩ := sv_get (own_on hrow hB) hal
        have hia : isAt l a t = decide ((l[a].mark : Int) = t) := by
          unfold isAt
          rw [List.getElem?_eq_getElem hal]
        have hce : decide (cmpI (l[a].mark : Int) t = 0) = isAt l a t := by
          rw [hia]
          apply decide_eq_decide.2
          unfold cmpI
          constructor
          · intro q
            split at q
            · omega
            · split at q <;> omega
          · intro q
            rw [if_neg (by omega), if_neg (by omega)]
        have HCE : Hid (decide (cmpI (l[a].mark : Int) t = 0) = isAt l a t) := hce
        clear hce hia
        go_wp2_with (go_at_call 55; refine (back1_any _ _ _ _).mono ?_; rintro e w2 ⟨rfl, b2⟩)
        refine bodyPost_ret (results_tmp2 rfl _ _ _) rfl ?_
        refine ⟨a, ?_, HR.out, hB.trans (b2.mono hB.size)⟩
        rw [← HCE.out]
        rfl
      · have hani : ¬ (a : Int) < n := by omega
        have hia : isAt l a t = false := by
          unfold isAt
          rw [List.getElem?_eq_none (by rw [HN.out]; omega)]
        have HIA : Hid (isAt l a t = false) := hia
        clear hia
        go_wp2_with fail
        refine bodyPost_ret (results_tmp2 rfl _ _ _) rfl ?_
        refine ⟨a, ?_, HR.out, hB⟩
        rw [HIA.out]
        rfl
end Go.Proofs.YtlcjkbhcbiggcaaGreatDoor
