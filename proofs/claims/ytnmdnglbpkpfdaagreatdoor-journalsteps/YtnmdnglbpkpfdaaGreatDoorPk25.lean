/- A journal and what its device holds, through commits. -/
import Derived.Test.YtnmdnglbpkpfdaaGreatDoorPk24
import Derived.Test.YtnmdnglbpkpfdaaGreatDoorPk15
import Derived.Test.YtnmdnglbpkpfdaaGreatDoorPk03
namespace Go.Proofs.YtnmdnglbpkpfdaaGreatDoor
open Go.RowKit Go.Maps
set_option maxRecDepth 100000

theorem burnt_fuse (S : DevS) : (burnt S).fuse = S.fuse - 1 := by
  unfold burnt
  split
  · omega
  · rfl
theorem hidS_fuse (S : DevS) (st sz place : Nat) (seq : Int) (f : Nat → List Int) (m : List (Nat × Nat)) : ∀ i, (hidS S st sz place seq f m i).fuse = S.fuse - (i + 1)
  | 0 => burnt_fuse S
  | i + 1 => by
    show (burnt (hidS S st sz place seq f m i)).fuse = _
    rw [burnt_fuse, hidS_fuse S st sz place seq f m i]
    omega
theorem comS_fuse (S : DevS) (st sz place : Nat) (seq : Int) (f : Nat → List Int) (m : List (Nat × Nat)) : (comS S st sz place seq f m).fuse = S.fuse - (m.length + 4) := by
  show (burnt (wrote (burnt (flushed (burnt (hidS S st sz place seq f m m.length)))) _ _)).fuse = _
  rw [burnt_fuse]
  show (burnt (flushed (burnt (hidS S st sz place seq f m m.length)))).fuse - 1 = _
  rw [burnt_fuse]
  show (burnt (hidS S st sz place seq f m m.length)).fuse - 1 - 1 = _
  rw [burnt_fuse, hidS_fuse]
  omega
theorem homeS_fuse (S : DevS) (fa : Nat → List Int) (a : List (Nat × Nat)) : ∀ i, (homeS S fa a i).fuse = S.fuse - i
  | 0 => rfl
  | i + 1 => by
    show (burnt (homeS S fa a i)).fuse = _
    rw [burnt_fuse, homeS_fuse S fa a i]
    omega
theorem ckS_fuse (S : DevS) (fa : Nat → List Int) (a : List (Nat × Nat)) (st : Nat) (seq : Int) (place : Nat) : (ckS S fa a st seq place).fuse = S.fuse - (a.length + 3) := by
  show (burnt (wrote (burnt (flushed (burnt (homeS S fa a a.length)))) _ _)).fuse = _
  rw [burnt_fuse]
  show (burnt (flushed (burnt (homeS S fa a a.length)))).fuse - 1 = _
  rw [burnt_fuse]
  show (burnt (homeS S fa a a.length)).fuse - 1 - 1 = _
  rw [burnt_fuse, homeS_fuse]
  omega
theorem comS_lasts {S : DevS} {st sz place : Nat} {seq : Int} {f : Nat → List Int} {m : List (Nat × Nat)} {n : Nat} (h : Lasts S (m.length + 4 + n)) : Lasts (comS S st sz place seq f m) n := by
  have h3 : Lasts (hidS S st sz place seq f m m.length) (n + 3) := hidS_lasts m.length (n + 3) (by rw [show m.length + 1 + (n + 3) = m.length + 4 + n by omega]; exact h)
  exact ((h3.burnt.flushed).putL _ _ _ _ _).burnt.flushed
/-- A journal, and what its device holds. -/
structure JS (w : World) (d : Nat) (S : DevS) (k N : Nat) (G : Nat → Prop) (jb st sz seq place : Nat) (free : Int) (bm nd : Nat) (a : List (Nat × Nat)) (fa : Nat → List Int) (T : List TxL) (seq0 place0 : Nat) : Prop where
  J : Jn w d S k N G jb st sz (seq : Int) place free bm nd a fa
  L : Lg S k st sz seq place free T seq0 place0
  C : Cont a fa T
  O : OutA k st sz a
  nb : (nd : Int) + free ≤ sz
theorem ovl_pos {k st sz : Nat} {T : List TxL} (hne : T ≠ []) (hok : ∀ x ∈ T, TxOk k st sz x) : ∃ b, (ovl T b).isSome = true := by
  induction T using snoc_ind with
  | h0 => exact absurd rfl hne
  | h1 T x _ =>
    have hx := (hok x (by simp)).ne
    refine ⟨(x[0]'hx).1, ?_⟩
    rw [ovl_snoc]
    have : (txAt x (x[0]'hx).1).isSome = true := by
      unfold txAt
      rw [Option.isSome_map, List.find?_isSome]
      exact ⟨x[0]'hx, List.getElem_mem hx, by simp⟩
    obtain ⟨v, hv⟩ := Option.isSome_iff_exists.1 this
    rw [hv]
    rfl
theorem Cont.pos {k st sz : Nat} {a : List (Nat × Nat)} {fa : Nat → List Int} {T : List TxL} (h : Cont a fa T) (hne : T ≠ []) (hok : ∀ x ∈ T, TxOk k st sz x) : 0 < a.length := by
  obtain ⟨b, hb⟩ := ovl_pos hne hok
  rw [← h b, Option.isSome_map] at hb
  cases a with
  | nil => simp [lk] at hb
  | cons => simp
/-- What is seen of a journal with no open transaction. -/
theorem sees_ovl {S : DevS} {a : List (Nat × Nat)} {fa f : Nat → List Int} {T : List TxL} (h : Cont a fa T) (o : Nat) : seesF S [] f a fa o = (ovl T o).getD (rdB S o) := by
  unfold seesF
  rw [← h o]
  cases e : lk a o <;> simp [lk]
theorem txM_at {f : Nat → List Int} {m : List (Nat × Nat)} (b : Nat) : (lk m b).map (fun _ => f b) = txAt (txM f m) b := by
  unfold txAt txM
  induction m with
  | nil => rfl
  | cons p m ih =>
    rw [lk_cons, List.map_cons, List.find?_cons]
    by_cases e : p.1 = b
    · simp [e]
    · simp only [if_neg e]
      rw [ih]
      have : (p.1 == b) = false := by simp [e]
      rw [this]
theorem TxOk.ofM {w : World} {k st sz ns wm : Nat} {f : Nat → List Int} {m : List (Nat × Nat)} (hM : Mp w wm ns m) (hV : Vals w f m) (h0 : 0 < m.length) (h24 : m.length ≤ 24) (ho : ∀ p ∈ m, p.1 < k ∧ (p.1 < st ∨ st + sz ≤ p.1)) : TxOk k st sz (txM f m) := by
  refine ⟨by rw [txM_len]; exact h0, by rw [txM_len]; exact h24, ?_, fun p hp => ?_, fun p hp => ?_⟩
  · unfold txM
    rw [List.pairwise_map]
    exact hM.ris
  · obtain ⟨r, hr, rfl⟩ := List.mem_map.1 hp
    exact ho r hr
  · obtain ⟨r, hr, rfl⟩ := List.mem_map.1 hp
    exact (hV r hr).2
/-- How many operations a Commit takes. -/
def costC (m a : List (Nat × Nat)) (free : Int) : Nat := if m = [] then 0 else m.length + 4 + (if free < (m.length : Int) + 2 then a.length + 3 else 0)
/-- What a Commit leaves. -/
structure CmR (w w' : World) (d : Nat) (S : DevS) (k N : Nat) (G : Nat → Prop) (jb st sz seq : Nat) (free : Int) (bm : Nat) (a : List (Nat × Nat)) (fa : Nat → List Int) (tb : Nat) (m : List (Nat × Nat)) (f : Nat → List Int) : Prop where
  td : Td w' tb
  tr : Turns (fun i => G i ∨ i = bm ∨ i = jb ∨ i = tb) w w'
  ex : ∃ (S' : DevS) (N' : Nat) (G' : Nat → Prop) (seq' place' : Nat) (free' : Int) (bm' nd' : Nat) (a' : List (Nat × Nat)) (fa' : Nat → List Int) (T' : List TxL) (seq0' place0' : Nat), JS w' d S' k N' G' jb st sz seq' place' free' bm' nd' a' fa' T' seq0' place0' ∧ (∀ i, G' i → G i ∨ w.heap.size ≤ i) ∧ (bm' = bm ∨ w.heap.size ≤ bm') ∧ N' ≤ N + 5000 ∧ seq ≤ seq' ∧ seq' ≤ seq + 1 ∧ S'.off = false ∧ S'.fuse = S.fuse - costC m a free ∧ (∀ o, o < k → (o < st ∨ st + sz ≤ o) → seesF S' [] fa' a' fa' o = seesF S m f a fa o)
end Go.Proofs.YtnmdnglbpkpfdaaGreatDoor

/- Commit by its contract: what the device holds behind it, and what it cost. -/
namespace Go.Proofs.YtnmdnglbpkpfdaaGreatDoor
open Go.RowKit Go.Maps
set_option maxRecDepth 100000

theorem commitG {w : World} {d : Nat} {S : DevS} {k N : Nat} {G : Nat → Prop} {jb st sz seq place : Nat} {free : Int} {bm nd : Nat} {a : List (Nat × Nat)} {fa : Nat → List Int} {tb wm ns : Nat} {m : List (Nat × Nat)} {f : Nat → List Int} {sv : Value} {last : Int} {T : List TxL} {seq0 place0 : Nat} (X : Tx w d S k N G jb st sz (seq : Int) place free bm nd a fa tb wm ns m f sv last) (L : Lg S k st sz seq place free T seq0 place0) (C : Cont a fa T) (O : OutA k st sz a) (nb : (nd : Int) + free ≤ sz) (hmo : ∀ p ∈ m, p.1 < k ∧ (p.1 < st ∨ st + sz ≤ p.1)) (h24 : m.length ≤ 24) (hS : Lasts S (costC m a free)) (hN : N ≤ 900000000) (hs : seq ≤ 4611686018427387903) :
    Calls Tryz.prog 14 #[.pointer (some ⟨tb, 0, none⟩)] w fun e w' => e = .returned (.int .i64 0) ∧ CmR w w' d S k N G jb st sz seq free bm a fa tb m f := by
  have h1 := L.s1
  have h2 := L.s2
  have hk := L.good.top
  have hpl := L.p1
  have hpl2 : place < sz - 1 := by rw [hpl]; exact plEnd_lt T L.p0
  have hf0 := L.f0
  have hfr := L.fr
  by_cases hm0 : m = []
  · subst hm0
    refine (commit_none X.D X.T X.J X.M X.tj X.tm X.jm X.gj X.gt X.gm hS.on).mono ?_
    rintro e w' ⟨rfl, T', J', D', t'⟩
    have nv : ∀ (g : Nat) (l : List Int), w.heap[g]? = some (bl l) → ¬ (g = tb ∨ g = jb) := fun g l hg e => by
      rcases e with rfl | rfl
      · have := X.T; unfold Tb at this; rw [hg] at this; simp [bl] at this
      · have := X.J; unfold Jb at this; rw [hg] at this; simp [bl] at this
    refine ⟨rfl, T', t'.mono (fun i _ r => ?_), S, N, G, seq, place, free, bm, nd, a, fa, T, seq0, place0, ⟨⟨D', J', X.A.turns t' (fun r => ?_), X.VA.turns t' (fun p hp r => ?_), X.gj, X.ga, X.gva, X.ja⟩, L, C, O, nb⟩, fun i hi => Or.inl hi, Or.inl rfl, by omega, by omega, by omega, hS.on, by simp [costC], fun o _ _ => ?_⟩
    · rcases r with r | r | r
      · exact Or.inl r
      · exact Or.inr (Or.inr (Or.inr r))
      · exact Or.inr (Or.inr (Or.inl r))
    · rcases r with r | r | r
      · exact X.ga r
      · exact X.ta r.symm
      · exact X.ja r.symm
    · exact r.elim (X.gva p hp) (nv _ _ (X.VA p hp).1)
    · simp [seesF, lk]
  · have hl1 : 1 ≤ m.length := by cases m with | nil => exact absurd rfl hm0 | cons => simp
    have hLa := O.low hk
    have hLm : Low m := fun p hp => by have := (hmo p hp).1; omega
    have hx := TxOk.ofM (k := k) (st := st) (sz := sz) X.M X.V (by omega) h24 hmo
    have hc : costC m a free = m.length + 4 + (if free < (m.length : Int) + 2 then a.length + 3 else 0) := by unfold costC; rw [if_neg hm0]
    by_cases hfull : free < (m.length : Int) + 2
    · rw [hc, if_pos hfull] at hS
      have hne : T ≠ [] := fun e => by subst e; simp [strm] at hfr; omega
      have ha0 := C.pos hne L.ok
      refine (txCommit_ck X hl1 h24 hLa hLm hfull ha0 (fun p hp => (O p hp).1) h1 h2 hk (by rw [show a.length + 3 + (m.length + 4) = m.length + 4 + (a.length + 3) by omega]; exact hS) (by omega) (by omega) (by omega)).mono ?_
      rintro e w' ⟨rfl, T', t', G', bm9, lb9, J', hG'⟩
      have Lc := L.ck X.A.ris O (fun p hp => (X.VA p hp).2)
      have Lm := Lc.commit hx (by omega) (by omega)
      have hla := low_len X.A.ris hLa
      have cA := rdB_ck (seq := (seq : Int)) (place := place) L.good (show st < k by omega) X.A.ris (fun p hp => (O p hp).1) (fun p hp => (X.VA p hp).2)
      have cB := rdB_coms (S := ckS S fa a st seq place) (place := place) (seq := (seq : Int)) (f := f) (m := m) cA.2.1 (by omega) h2 h24 (fun p hp => (X.V p hp).2) (by omega)
      have C9 : Cont (mmerge [] m) (mergeF m f (fun _ => [])) ([] ++ [txM f m]) := Cont.merge (fun b => rfl) List.Pairwise.nil X.M.ris (fun b => txM_at b)
      refine ⟨rfl, T', t'.mono (fun i _ r => ?_), comS (ckS S fa a st seq place) st sz place seq f m, N + a.length + 1 + m.length + 2, G', seq + 1, (place + m.length + 2) % (sz - 1), (sz : Int) - 1 - (m.length + 2), bm9, 0 + m.length, mmerge [] m, mergeF m f (fun _ => []), [] ++ [txM f m], seq, place, ⟨J', Lm, C9, ?_, by omega⟩, hG', Or.inr lb9, by omega, by omega, by omega, ?_, ?_, fun o ho1 ho2 => ?_⟩
      · exact r.elim Or.inl (fun r => Or.inr (Or.inr r))
      · exact OutA.merge (fun p hp => by cases hp) hmo
      · exact (comS_lasts (n := 0) (ckS_lasts (by rw [show a.length + 3 + (m.length + 4 + 0) = m.length + 4 + (a.length + 3) by omega]; exact hS))).on
      · rw [comS_fuse, ckS_fuse, hc, if_pos hfull]
        omega
      · rw [sees_ovl C9 o, List.nil_append]
        have e1 : ovl [txM f m] o = (lk m o).map (fun _ => f o) := by
          have := ovl_snoc [] (txM f m) o
          rw [List.nil_append] at this
          rw [this, ← txM_at]
          simp [ovl_nil]
        rw [e1, cB.2.1 o (fun j _ e => by have := atN_in (st := st) (place := place) (i := j) (show 2 ≤ sz by omega); omega), cA.1, if_neg (by omega)]
        unfold seesF
        cases q1 : lk m o with
        | some g => simp
        | none =>
          cases q2 : lk a o with
          | some g =>
            have : o ∈ a.map (·.1) := lk_keys.1 (by rw [q2]; rfl)
            simp [this]
          | none =>
            have : ¬ o ∈ a.map (·.1) := fun q => by have := lk_keys.2 q; rw [q2] at this; cases this
            simp [this]
    · rw [hc, if_neg hfull] at hS
      refine (txCommit_ok X hl1 h24 hLa hLm (by omega) (by omega) h1 h2 hk hS (by omega) (by omega) (by omega) (by omega)).mono ?_
      rintro e w' ⟨rfl, T', t', G', J', hG'⟩
      have Lm := L.commit hx (by omega) (by omega)
      have cB := rdB_coms (S := S) (place := place) (seq := (seq : Int)) (f := f) (m := m) L.good (by omega) h2 h24 (fun p hp => (X.V p hp).2) (by omega)
      have C9 := C.merge X.A.ris X.M.ris (fun b => txM_at (f := f) (m := m) b)
      refine ⟨rfl, T', t', comS S st sz place seq f m, N + m.length + 2, G', seq + 1, (place + m.length + 2) % (sz - 1), free - (m.length + 2), bm, nd + m.length, mmerge a m, mergeF m f fa, T ++ [txM f m], seq0, place0, ⟨J', Lm, C9, O.merge hmo, by omega⟩, hG', Or.inl rfl, by omega, by omega, by omega, ?_, ?_, fun o ho1 ho2 => ?_⟩
      · exact (comS_lasts (n := 0) hS).on
      · rw [comS_fuse, hc, if_neg hfull]
      · rw [sees_ovl C9 o, ovl_snoc, ← txM_at, cB.2.1 o (fun j _ e => by have := atN_in (st := st) (place := place) (i := j) (show 2 ≤ sz by omega); omega), ← C o]
        unfold seesF
        cases q1 : lk m o with
        | some g => simp
        | none => cases q2 : lk a o <;> simp
end Go.Proofs.YtnmdnglbpkpfdaaGreatDoor

/- Check of a journal with nothing away; the parts of JournalSteps. -/
namespace Go.Proofs.YtnmdnglbpkpfdaaGreatDoor
open Go.RowKit Go.Maps
set_option maxRecDepth 100000

set_option maxHeartbeats 1000000 in
theorem check_none {w : World} {d : Nat} {S : DevS} {k N : Nat} {G : Nat → Prop} {jb st sz : Nat} {seq : Int} {place : Nat} {free : Int} {bm nd : Nat} {fa : Nat → List Int} (h : Jn w d S k N G jb st sz seq place free bm nd [] fa) (ho : S.off = false) :
    Calls Tryz.prog 23 #[.pointer (some ⟨jb, 0, none⟩)] w fun e w' => e = .returned (.int .i64 0) ∧ Same0 w w' d S k N G := by
  obtain ⟨c0, c1, c2, c3, c4, c5, c6, c7, c8, fz⟩ := h.J.cells
  go_enter Tryz.func23, Tryz.ntmps23
  go_wp2_with fail
  refine (begun_any h.D).mono ?_
  rintro e w1 ⟨ev, rfl, hev, k1, q1⟩
  have he : begE S = 0 := by unfold begE; rw [if_neg (by simp [ho])]
  rw [he] at hev
  obtain ⟨_, rfl⟩ := hev.resolve_right (fun h => h.1 rfl)
  have J1 : Jb w1 jb d st sz seq place free bm none := (q1.2.block jb (heap_lt h.J) h.gj).trans h.J
  have A1 := h.A.turns q1.2 h.ga
  clear c0 c1 c2 c3 c4 c5 c6 c7 c8 fz
  go_wp2_with fail
  refine (checkpoint_none J1 A1).mono ?_
  rintro e wn ⟨rfl, hwn⟩
  subst wn
  go_wp2_with fail
  refine (met_ok k1).mono ?_
  rintro e w2 ⟨rfl, b2⟩
  go_wp2
  go_ret
  exact ⟨rfl, q1.1.below b2, q1.2.trans (Below.turns b2 (fun _ => False)) (fun _ _ r => r.elim)⟩
theorem Jn.same {w w' : World} {d : Nat} {S S' : DevS} {k N : Nat} {G : Nat → Prop} {jb st sz : Nat} {seq : Int} {place : Nat} {free : Int} {bm nd : Nat} {a : List (Nat × Nat)} {fa : Nat → List Int} (h : Jn w d S k N G jb st sz seq place free bm nd a fa) (q : Same0 w w' d S' k N G) : Jn w' d S' k N G jb st sz seq place free bm nd a fa :=
  ⟨q.1, (q.2.block jb (heap_lt h.J) h.gj).trans h.J, h.A.turns q.2 h.ga, h.VA.turns q.2 h.gva, h.gj, h.ga, h.gva, h.ja⟩
theorem Tx.armed {w w' : World} {d : Nat} {S S' : DevS} {k N : Nat} {G : Nat → Prop} {jb st sz : Nat} {seq : Int} {place : Nat} {free : Int} {bm nd : Nat} {a : List (Nat × Nat)} {fa : Nat → List Int} {tb wm ns : Nat} {m : List (Nat × Nat)} {f : Nat → List Int} {sv : Value} {last : Int} (h : Tx w d S k N G jb st sz seq place free bm nd a fa tb wm ns m f sv last) (q : Same0 w w' d S' k N G) : Tx w' d S' k N G jb st sz seq place free bm nd a fa tb wm ns m f sv last :=
  { h with
    D := q.1
    J := (q.2.block jb (heap_lt h.J) h.gj).trans h.J
    T := (q.2.block tb (heap_lt h.T) h.gt).trans h.T
    A := h.A.turns q.2 h.ga
    VA := h.VA.turns q.2 h.gva
    M := h.M.turns q.2 h.gm
    V := h.V.turns q.2 h.gv }
theorem Tg.setWant {w : World} {G : Nat → Prop} {tw db st sz : Nat} {ov wv nv : Value} {os : List Nat} {xs ys : List It} (T : Tg w G tw db st sz ov wv os xs) (W : Wt w G nv ys) : Tg (w.setCell ⟨tw, 4, none⟩ nv) G tw db st sz ov nv os ys ∧ Turns (fun i => i = tw) w (w.setCell ⟨tw, 4, none⟩ nv) := by
  have u := Turns.cell w tw 4 nv
  exact ⟨⟨heap_setCell_same _ tw 4 _ _ _ T.box, T.o.turn1 T.box (by decide) u, W.turn1 T.box (by decide) (by decide) u, T.gt⟩, u⟩
theorem armed_on {S : DevS} {n : Nat} (ho : S.off = false) : armed S (n : Nat) = { S with fuse := n } := by
  unfold armed
  rw [if_neg (by omega), if_neg (by simp [ho])]
  rfl
/-- What a transaction of a fill leaves behind its Commit. -/
theorem Kp.commit {w w' : World} {G : Nat → Prop} {d : Nat} {S : DevS} {k N jb st sz : Nat} {seq : Int} {place : Nat} {free : Int} {bm nd : Nat} {a : List (Nat × Nat)} {fa : Nat → List Int} {tb wm ns : Nat} {m : List (Nat × Nat)} {f : Nat → List Int} {sv : Value} {last : Int} (X : Tx w d S k N G jb st sz seq place free bm nd a fa tb wm ns m f sv last) (t : Turns (fun i => G i ∨ i = bm ∨ i = jb ∨ i = tb) w w') : Kp G w w' := Kp.turns t (fun x cs ty fz g hx ht e => by
  rcases e with e | e | e | e
  · exact g e
  · exact mp_cells X.A hx e
  · exact jty_jb X.J hx ht e
  · exact jty_tb X.T hx ht e)
/-- A list of puts that came in. -/
structure TxIn where
  pa : Option Addr
  pn : Nat
  pc : Nat
  ps : List Pt
structure TxsLies (w : World) (ao : Option Addr) (n : Nat) (ts : List TxIn) : Prop where
  hlen : ts.length = n
  hcells : ∀ (j : Nat) t, ts[j]? = some t → (PtLies w t.pa t.pn t.ps ∧ t.pn ≤ 140737488355328) ∧ ∃ g p, ao = some ⟨g, p, none⟩ ∧ w.cell? ⟨g, p + j, none⟩ = some (.slice t.pa t.pn t.pc)
/-- What JournalSteps' loop holds. -/
structure StI (w0 w : World) (G : Nat → Prop) (tw db k st sz : Nat) (ov : Value) (os : List Nat) (jb : Nat) (t : Nat) : Prop where
  ex : ∃ (S : DevS) (N seq place : Nat) (free : Int) (bm nd : Nat) (a : List (Nat × Nat)) (fa : Nat → List Int) (T : List TxL) (seq0 place0 : Nat) (wv : Value) (xs : List It), JS w db S k N G jb st sz seq place free bm nd a fa T seq0 place0 ∧ Calm S ∧ Tg w G tw db st sz ov wv os xs ∧ xs.length = os.length ∧ (∀ (i o : Nat) (x : It), os[i]? = some o → xs[i]? = some x → x.bs = seesF S [] fa a fa o) ∧ N ≤ 10000 + 10000 * t ∧ seq ≤ 1 + t ∧ w0.heap.size ≤ bm ∧ Below w0.heap.size w0 w
  gB : ∀ i, G i → w0.heap.size ≤ i
  lj : w0.heap.size ≤ jb
  lt : w0.heap.size ≤ tw
def StE (w0 w : World) (tw db k st sz : Nat) (ov : Value) (os : List Nat) (jb t : Nat) : Prop := ∃ G, StI w0 w G tw db k st sz ov os jb t
end Go.Proofs.YtnmdnglbpkpfdaaGreatDoor

/- Puts, and lists of them, that came in, opened once. -/
namespace Go.Proofs.YtnmdnglbpkpfdaaGreatDoor
open Go.ChangeShapes Go.WideShapes Go.ChangeAt Go.RowKit Go.Deep
set_option maxRecDepth 100000

theorem bytesPt : 1 ≤ Tryz.prog.bytesOf 58 := of_decide_eq_true (by kernel_rfl)
theorem bytesPs : 1 ≤ Tryz.prog.bytesOf 23 := of_decide_eq_true (by kernel_rfl)
theorem cellsPs : Tryz.prog.cellsOf 23 = 1 := by kernel_rfl
theorem pt_of {H : Type} {enc : TypeId × Value → H} {W : World} {fuel : Nat} {cs : List Value} {y : DataW H × List MemPlace} {a : Addr}
    (hc : W.cells? 0 a 2 = some cs) (hf : DataW.trod enc Tryz.prog W 0 (fun _ => true) true fuel 58 cs = some y) :
    ∃ o : Pt, (∀ j v, o.cells[j]? = some v → W.cell? (a.add j) = some v) ∧ ((∀ n ∈ y.1.weights Tryz.prog 58, n ≤ reachBytes) → PtIn W o) := by
  obtain ⟨xs, n, _, hy, hl, hn, hfs⟩ := DataW.trod_struct Tryz.underlying58 hf
  rw [cellsPt] at hl
  obtain ⟨_, hlen, hcell⟩ := World.cells?_some hc
  match cs, hl with
  | [c0, c1], _ =>
    match xs, hn with
    | [y0, y1], _ =>
      have f0 : DataW.trod enc Tryz.prog W 0 (fun _ => true) true n 3 (([c0, c1].drop 0).take (Tryz.prog.cellsOf 3)) = some y0 := hfs 0 _ rfl
      have f1 : DataW.trod enc Tryz.prog W 0 (fun _ => true) true n 56 (([c0, c1].drop 1).take (Tryz.prog.cellsOf 56)) = some y1 := hfs 1 _ rfl
      rw [cells3] at f0
      rw [cells33] at f1
      obtain ⟨K0, e0, _, _⟩ := DataW.trod_int Tryz.underlying3 f0
      obtain ⟨da, dn, dc, Z, e1, hL, hs, hb⟩ := view_bytes f1
      simp at e0 e1
      subst e0 e1
      refine ⟨⟨K0, da, dn, dc, Z⟩, fun j v hv => ?_, fun hall => ⟨hL, hs, ?_⟩⟩
      · have hj : j < 2 := (List.getElem?_eq_some_iff.1 hv).1
        rw [hcell j hj]
        exact hv
      · have := hb (fun k hk => hall k (by
          rw [hy]
          simp only [DataW.weights, Tryz.underlying58, List.map_cons, List.map_nil, DataW.weightsEach]
          simp [hk]))
        exact Nat.le_trans this (by decide)
theorem view_pts {H : Type} {enc : TypeId × Value → H} {W : World} {fuel : Nat} {cs : List Value} {y : DataW H × List MemPlace}
    (hf : DataW.trod enc Tryz.prog W 0 (fun _ => true) true fuel 23 cs = some y) (hall : ∀ n ∈ y.1.weights Tryz.prog 23, n ≤ reachBytes) :
    ∃ a0 len cap ps, cs = [.slice a0 len cap] ∧ len ≤ 140737488355328 ∧ PtLies W a0 len ps := by
  rcases open_slice Tryz.underlying23 hf with ⟨hcs, hx⟩ | ⟨a, len, cap, m, n, D, Pl, hcs, _, hl, hm, hmm, hx, hel⟩
  · exact ⟨none, 0, 0, [], by rw [hcs], by omega, rfl, fun j s h => by simp at h⟩
  · simp only [if_true] at hmm
    subst hmm
    rw [cellsPt] at hel
    have hw : ∀ i, i < len → ∀ k ∈ (D i).weights Tryz.prog 58, k ≤ reachBytes := fun i hi k hk => hall k (by
      rw [hx]
      simp only [DataW.weights, Tryz.underlying23]
      refine List.mem_cons_of_mem _ (List.mem_append_left _ ?_)
      exact weights_all_mem (List.mem_map.2 ⟨i, List.mem_range.2 hi, rfl⟩) hk)
    have hinh : Inhabited Pt := ⟨⟨0, none, 0, 0, []⟩⟩
    obtain ⟨X, hX⟩ := choose_lt (α := Pt) (p := fun i x => (∀ j v, x.cells[j]? = some v → W.cell? ((a.add (i * 2)).add j) = some v) ∧ PtIn W x) (n := len) (fun i hi => by
      obtain ⟨cs', h1, h2⟩ := hel i (by omega)
      obtain ⟨d, hd, hI⟩ := pt_of h1 h2
      exact ⟨d, hd, hI (hw i hi)⟩)
    refine ⟨some a, len, m, (List.range len).map X, by rw [hcs], ?_, ⟨by simp, fun j s hj => ?_⟩⟩
    · have h1 := hall ((((List.range len).map D).length + ((List.range (m - len)).map fun j => D (len + j)).length) * Tryz.prog.bytesOf 58) (by rw [hx]; simp [DataW.weights, Tryz.underlying23])
      have h2 : len * 1 ≤ (((List.range len).map D).length + ((List.range (m - len)).map fun j => D (len + j)).length) * Tryz.prog.bytesOf 58 := Nat.mul_le_mul (by simp) bytesPt
      exact Nat.le_trans (by omega) (Nat.le_trans h1 (by decide))
    · have hjl : j < len := by
        have := (List.getElem?_eq_some_iff.1 hj).1
        simpa using this
      obtain ⟨h0, hI⟩ := hX j hjl
      simp [hjl] at hj
      subst hj
      have q00 := (hX 0 (by omega)).1 0 _ rfl
      obtain ⟨b', o, spot⟩ := a
      have hspot : spot = none := by simpa [Addr.add] using World.cell?_spot q00
      subst hspot
      refine ⟨hI, b', o, rfl, fun t v hv => ?_⟩
      have := h0 t v hv
      rw [Addr.add_lit, Addr.add_lit] at this
      exact this
theorem view_txs {H : Type} {enc : TypeId × Value → H} {W : World} {fuel : Nat} {cs : List Value} {y : DataW H × List MemPlace}
    (hf : DataW.trod enc Tryz.prog W 0 (fun _ => true) true fuel 22 cs = some y) (hall : ∀ n ∈ y.1.weights Tryz.prog 22, n ≤ reachBytes) :
    ∃ a0 len cap ts, cs = [.slice a0 len cap] ∧ len ≤ 140737488355328 ∧ TxsLies W a0 len ts := by
  rcases open_slice Tryz.underlying22 hf with ⟨hcs, hx⟩ | ⟨a, len, cap, m, n, D, Pl, hcs, _, hl, hm, hmm, hx, hel⟩
  · exact ⟨none, 0, 0, [], by rw [hcs], by omega, rfl, fun j s h => by simp at h⟩
  · simp only [if_true] at hmm
    subst hmm
    rw [cellsPs] at hel
    have hw : ∀ i, i < len → ∀ k ∈ (D i).weights Tryz.prog 23, k ≤ reachBytes := fun i hi k hk => hall k (by
      rw [hx]
      simp only [DataW.weights, Tryz.underlying22]
      refine List.mem_cons_of_mem _ (List.mem_append_left _ ?_)
      exact weights_all_mem (List.mem_map.2 ⟨i, List.mem_range.2 hi, rfl⟩) hk)
    have hinh : Inhabited TxIn := ⟨⟨none, 0, 0, []⟩⟩
    obtain ⟨X, hX⟩ := choose_lt (α := TxIn) (p := fun i x => W.cell? ((a.add (i * 1)).add 0) = some (.slice x.pa x.pn x.pc) ∧ PtLies W x.pa x.pn x.ps ∧ x.pn ≤ 140737488355328) (n := len) (fun i hi => by
      obtain ⟨cs', h1, h2⟩ := hel i (by omega)
      obtain ⟨a0, l0, c0, ps, rfl, hl0, hP⟩ := view_pts h2 (hw i hi)
      obtain ⟨_, hlen, hcell⟩ := World.cells?_some h1
      refine ⟨⟨a0, l0, c0, ps⟩, ?_, hP, hl0⟩
      exact hcell 0 (by omega))
    refine ⟨some a, len, m, (List.range len).map X, by rw [hcs], ?_, ⟨by simp, fun j s hj => ?_⟩⟩
    · have h1 := hall ((((List.range len).map D).length + ((List.range (m - len)).map fun j => D (len + j)).length) * Tryz.prog.bytesOf 23) (by rw [hx]; simp [DataW.weights, Tryz.underlying22])
      have h2 : len * 1 ≤ (((List.range len).map D).length + ((List.range (m - len)).map fun j => D (len + j)).length) * Tryz.prog.bytesOf 23 := Nat.mul_le_mul (by simp) bytesPs
      exact Nat.le_trans (by omega) (Nat.le_trans h1 (by decide))
    · have hjl : j < len := by
        have := (List.getElem?_eq_some_iff.1 hj).1
        simpa using this
      obtain ⟨h0, hP, hp⟩ := hX j hjl
      simp [hjl] at hj
      subst hj
      obtain ⟨b', o, spot⟩ := a
      have hspot : spot = none := by simpa [Addr.add] using World.cell?_spot (hX 0 (by omega)).1
      subst hspot
      refine ⟨⟨hP, hp⟩, b', o, rfl, ?_⟩
      rw [Addr.add_lit, Addr.add_lit] at h0
      simpa using h0
section
variable {H : Type} {enc : TypeId × Value → H} {P : Program} {w : World} {base : Nat} {spare : Nat → Bool} {held : Bool}
theorem trodAll_five {t t' t'' t3 t4 : TypeId} {args : Array Value} {ds : List (DataW H)} {ps : List MemPlace} (h : DataW.TrodAll enc P w base spare held [t, t', t'', t3, t4] args.toList ds ps) :
    ∃ v v' v'' v3 v4 d d' d'' d3 d4 p p' p'' p3 p4, args = #[v, v', v'', v3, v4] ∧ ds = [d, d', d'', d3, d4] ∧ ps = p ++ p' ++ p'' ++ p3 ++ p4 ∧ DataW.Trod enc P w base spare held t v d p ∧ DataW.Trod enc P w base spare held t' v' d' p' ∧ DataW.Trod enc P w base spare held t'' v'' d'' p'' ∧ DataW.Trod enc P w base spare held t3 v3 d3 p3 ∧ DataW.Trod enc P w base spare held t4 v4 d4 p4 := by
  obtain ⟨a, vs, b, bs, p, q, hargs, rfl, rfl, hb, hr⟩ := trodAll_cons h
  have hr' : DataW.TrodAll enc P w base spare held [t', t'', t3, t4] vs.toArray.toList bs q := by simpa using hr
  obtain ⟨v0, v1, v2, v3, d0, d1, d2, d3, p0, p1, p2, p3, has, rfl, rfl, h0, h1, h2, h3⟩ := trodAll_four hr'
  have has' : vs = [v0, v1, v2, v3] := by simpa using has
  subst has'
  exact ⟨a, v0, v1, v2, v3, b, d0, d1, d2, d3, p, p0, p1, p2, p3, by cases args; simp_all, rfl, by simp, hb, h0, h1, h2, h3⟩
theorem trodAll_mk5 {t t' t'' t3 t4 : TypeId} {v v' v'' v3 v4 : Value} {d d' d'' d3 d4 : DataW H} {p p' p'' p3 p4 : List MemPlace} (h : DataW.Trod enc P w base spare held t v d p) (h' : DataW.Trod enc P w base spare held t' v' d' p')
    (h'' : DataW.Trod enc P w base spare held t'' v'' d'' p'') (h3 : DataW.Trod enc P w base spare held t3 v3 d3 p3) (h4 : DataW.Trod enc P w base spare held t4 v4 d4 p4) :
    DataW.TrodAll enc P w base spare held [t, t', t'', t3, t4] [v, v', v'', v3, v4] [d, d', d'', d3, d4] (p ++ (p' ++ (p'' ++ (p3 ++ p4)))) := ⟨p, _, h, trodAll_mk4 h' h'' h3 h4, rfl⟩
end
end Go.Proofs.YtnmdnglbpkpfdaaGreatDoor
