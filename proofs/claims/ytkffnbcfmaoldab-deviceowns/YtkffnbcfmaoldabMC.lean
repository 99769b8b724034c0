/- What DeviceReads holds beside the device: now, safe, waits. -/
import Derived.Test.YtkffnbcfmaoldabMB
namespace Go.Proofs.Ytkffnbcfmaoldab
open Go.RowKit Go.Maps
set_option maxRecDepth 100000

/-- A list of writes, each one's bytes in a block of its own. -/
structure Wts (B : Nat) (w : World) (v : Value) (hs : List Nat) (ps : List (Nat × List Int)) : Prop where
  row : w.ownsRow B 41 2 v ps.length (pc ps hs)
  len : hs.length = ps.length
  dat : ∀ (i : Nat) p g, ps[i]? = some p → hs[i]? = some g → w.heap[g]? = some (bl p.2)
  out : ∀ g ∈ hs, v.ownBlock ≠ some g
theorem Wts.nil (B : Nat) (w : World) : Wts B w (.slice none 0 0) [] [] := ⟨⟨rfl, Or.inl ⟨rfl, rfl⟩⟩, rfl, fun i p g h => by simp at h, fun g h => by cases h⟩
theorem Wts.turns {F : Nat → Prop} {B : Nat} {w w' : World} {v : Value} {hs : List Nat} {ps : List (Nat × List Int)} (h : Wts B w v hs ps) (t : Turns F w w') (h1 : ∀ b, v.ownBlock = some b → ¬ F b) (h2 : ∀ g ∈ hs, ¬ F g) : Wts B w' v hs ps :=
  ⟨own_turns h.row t h1, h.len, dat_turns h.dat t h2, h.out⟩
theorem Wts.lt {B : Nat} {w : World} {v : Value} {hs : List Nat} {ps : List (Nat × List Int)} (h : Wts B w v hs ps) : ∀ g ∈ hs, g < w.heap.size := fun g hg => by
  obtain ⟨i, hi⟩ := List.mem_iff_getElem?.1 hg
  have hl : i < ps.length := by rw [← h.len]; exact (List.getElem?_eq_some_iff.1 hi).1
  exact heap_lt (h.dat i _ g (List.getElem?_eq_getElem hl) hi)
theorem Wts.add {B : Nat} {w w' : World} {v v' : Value} {hs : List Nat} {ps : List (Nat × List Int)} (h : Wts B w v hs ps) (b g : Nat) (d : List Int) (hg : w.heap[g]? = some (bl d)) (hgv : v.ownBlock ≠ some g) (t : Turns (fun i => v.ownBlock = some i) w w')
    (hr : w'.ownsRow B 41 2 v' (ps.length + 1) (pc ps hs ++ [.int .i64 b, hv g])) (hat : v'.ownBlock = v.ownBlock ∨ ∃ i, v'.ownBlock = some i ∧ w.heap.size ≤ i) : Wts B w' v' (hs ++ [g]) (ps ++ [(b, d)]) := by
  have hglt := heap_lt hg
  refine ⟨?_, by simp [h.len], fun i p x h1 h2 => ?_, fun x hx => ?_⟩
  · rw [pc_snoc _ _ _ _ _ h.len]; simpa using hr
  · by_cases hi : i < ps.length
    · rw [List.getElem?_append_left hi] at h1
      rw [List.getElem?_append_left (by rw [h.len]; exact hi)] at h2
      have hx := h.dat i p x h1 h2
      exact (t.block x (heap_lt hx) (h.out x (List.mem_of_getElem? h2))).trans hx
    · have hil := (List.getElem?_eq_some_iff.1 h1).1
      rw [List.length_append] at hil
      obtain rfl : i = ps.length := by simp at hil; omega
      rw [List.getElem?_append_right (Nat.le_refl _), Nat.sub_self] at h1
      rw [List.getElem?_append_right (by rw [h.len]; exact Nat.le_refl _), h.len, Nat.sub_self] at h2
      simp at h1 h2
      subst h1; subst h2
      exact (t.block g hglt hgv).trans hg
  · have hx1 : x < w.heap.size ∧ v.ownBlock ≠ some x := by
      rcases List.mem_append.1 hx with q | q
      · exact ⟨h.lt x q, h.out x q⟩
      · obtain rfl := List.mem_singleton.1 q
        exact ⟨hglt, hgv⟩
    rcases hat with q | ⟨i, q, hi⟩
    · rw [q]; exact hx1.2
    · rw [q]; intro e; cases e; omega
/-- The device, and what is held beside it: a list of blocks, bytes, a list of writes. -/
structure St (w0 w : World) (d : Nat) (S : DevS) (k N : Nat) (F : Nat → Prop) (nv sv wv : Value) (gs hs : List Nat) (f : Nat → List Int) (L : List Int) (ps : List (Nat × List Int)) : Prop where
  O : On w0 w d S k N F
  nw : Now w0.heap.size w nv k gs f
  sf : w.ownsRow w0.heap.size 5 1 sv (512 * k) (L.map (Value.int .u8))
  wt : Wts w0.heap.size w wv hs ps
  n1 : ∀ b, nv.ownBlock = some b → ¬ F b
  n2 : ∀ g ∈ gs, ¬ F g
  s1 : ∀ b, sv.ownBlock = some b → ¬ F b
  w1 : ∀ b, wv.ownBlock = some b → ¬ F b
  w2 : ∀ g ∈ hs, ¬ F g
  a1 : ∀ b, nv.ownBlock = some b → sv.ownBlock ≠ some b
  a2 : ∀ b, nv.ownBlock = some b → wv.ownBlock ≠ some b
  a3 : ∀ b, nv.ownBlock = some b → b ∉ hs
  a4 : ∀ b, wv.ownBlock = some b → sv.ownBlock ≠ some b
  a5 : ∀ b, wv.ownBlock = some b → b ∉ gs
theorem St.below {w0 w w' : World} {d : Nat} {S : DevS} {k N : Nat} {F : Nat → Prop} {nv sv wv : Value} {gs hs : List Nat} {f : Nat → List Int} {L : List Int} {ps : List (Nat × List Int)} (h : St w0 w d S k N F nv sv wv gs hs f L ps) (b : Below w.heap.size w w') : St w0 w' d S k N F nv sv wv gs hs f L ps :=
  { h with
    O := h.O.below b
    nw := h.nw.below b
    sf := own_turns h.sf (Below.turns b (fun _ => False)) (fun _ _ => id)
    wt := h.wt.turns (Below.turns b (fun _ => False)) (fun _ _ => id) (fun _ _ => id) }
theorem St.same {w0 w w' : World} {d : Nat} {S S' : DevS} {k N N' : Nat} {F : Nat → Prop} {nv sv wv : Value} {gs hs : List Nat} {f : Nat → List Int} {L : List Int} {ps : List (Nat × List Int)} (h : St w0 w d S k N F nv sv wv gs hs f L ps) (q : Same0 w w' d S' k N' F) : St w0 w' d S' k N' F nv sv wv gs hs f L ps :=
  { h with
    O := h.O.same q
    nw := h.nw.turns q.2 h.n1 h.n2
    sf := own_turns h.sf q.2 h.s1
    wt := h.wt.turns q.2 h.w1 h.w2 }
theorem St.went {w0 w w' : World} {d : Nat} {S S' : DevS} {k N N' : Nat} {F : Nat → Prop} {nv sv wv : Value} {gs hs : List Nat} {f : Nat → List Int} {L : List Int} {ps : List (Nat × List Int)} (h : St w0 w d S k N F nv sv wv gs hs f L ps) (q : Went w w' d S' k N' F) : St w0 w' d S' k N' (grow F w w') nv sv wv gs hs f L ps := by
  have old : ∀ i, i < w.heap.size → ¬ F i → ¬ grow F w w' i := fun i hi hn q => hn (grow_old i hi q)
  exact { h with
    O := h.O.went q
    nw := h.nw.turns q.2 h.n1 h.n2
    sf := own_turns h.sf q.2 h.s1
    wt := h.wt.turns q.2 h.w1 h.w2
    n1 := fun b e => old b (h.nw.row.lt b e).2 (h.n1 b e)
    n2 := fun g e => old g (h.nw.lt g e) (h.n2 g e)
    s1 := fun b e => old b (h.sf.lt b e).2 (h.s1 b e)
    w1 := fun b e => old b (h.wt.row.lt b e).2 (h.w1 b e)
    w2 := fun g e => old g (h.wt.lt g e) (h.w2 g e) }
/-- A block of the list is set anew, to bytes that are new. -/
theorem St.set {w0 w : World} {d : Nat} {S : DevS} {k N : Nat} {F : Nat → Prop} {sv wv : Value} {ng cap : Nat} {gs hs : List Nat} {f : Nat → List Int} {L : List Int} {ps : List (Nat × List Int)} (h : St w0 w d S k N F (.slice (some ⟨ng, 0, none⟩) k cap) sv wv gs hs f L ps) (b x : Nat) (hb : b < k) (dd : List Int) (hx : w.heap[x]? = some (bl dd)) (x1 : ng ≠ x) (x2 : ¬ F x) (x3 : wv.ownBlock ≠ some x) :
    St w0 (w.setCell ⟨ng, b, none⟩ (hv x)) d S k N F (.slice (some ⟨ng, 0, none⟩) k cap) sv wv (gs.set b x) hs (fun y => if b = y then dd else f y) L ps := by
  have t := Turns.cell w ng b (hv x)
  have hng := h.n1 ng rfl
  have hn0 := (h.nw.row.lt ng rfl).1
  exact { h with
    O := ⟨h.O.D.turns t (fun i hi e => hng (by rw [← e]; exact hi)), h.O.hF, h.O.B.trans (t.below (fun i e => by omega) h.O.B.size)⟩
    nw := h.nw.set b x hb dd hx (fun e => x1 e.symm)
    sf := own_turns h.sf t (fun i e q => by subst q; exact h.a1 i rfl e)
    wt := h.wt.turns t (fun i e q => by subst q; exact h.a2 i rfl e) (fun g hg q => by subst q; exact h.a3 g rfl hg)
    n2 := fun g hg => (List.mem_or_eq_of_mem_set hg).elim (h.n2 g) (fun e => by subst e; exact x2)
    a5 := fun i e hg => (List.mem_or_eq_of_mem_set hg).elim (h.a5 i e) (fun q => by subst q; exact x3 e) }
/-- A write more in the list. -/
theorem St.add {w0 w w' : World} {d : Nat} {S : DevS} {k N : Nat} {F : Nat → Prop} {nv sv wv wv' : Value} {gs hs : List Nat} {f : Nat → List Int} {L : List Int} {ps : List (Nat × List Int)} (h : St w0 w d S k N F nv sv wv gs hs f L ps) (b g : Nat) (dd : List Int) (hg : w.heap[g]? = some (bl dd)) (x1 : wv.ownBlock ≠ some g) (x2 : ¬ F g) (x3 : nv.ownBlock ≠ some g) (t : Turns (fun i => wv.ownBlock = some i) w w')
    (hr : w'.ownsRow w0.heap.size 41 2 wv' (ps.length + 1) (pc ps hs ++ [.int .i64 b, hv g])) (hat : wv'.ownBlock = wv.ownBlock ∨ ∃ i, wv'.ownBlock = some i ∧ w.heap.size ≤ i) :
    St w0 w' d S k N F nv sv wv' gs (hs ++ [g]) f L (ps ++ [(b, dd)]) := by
  have new : ∀ i, wv'.ownBlock = some i → wv.ownBlock = some i ∨ w.heap.size ≤ i := fun i e => by
    rcases hat with q | ⟨j, q, hj⟩
    · exact Or.inl (by rw [← q]; exact e)
    · rw [q] at e; cases e; exact Or.inr hj
  exact { h with
    O := ⟨h.O.D.turns t (fun i hi e => h.w1 i e hi), h.O.hF, h.O.B.trans (t.below (fun i e => (h.wt.row.lt i e).1) h.O.B.size)⟩
    nw := h.nw.turns t (fun i e q => h.a2 i e q) (fun g hg q => h.a5 g q hg)
    sf := own_turns h.sf t (fun i e q => h.a4 i q e)
    wt := h.wt.add b g dd hg x1 t hr hat
    w1 := fun i e => (new i e).elim (h.w1 i) (fun q hF => by have := h.O.D.lt i hF; omega)
    w2 := fun x hx => (List.mem_append.1 hx).elim (h.w2 x) (fun q => by obtain rfl := List.mem_singleton.1 q; exact x2)
    a2 := fun i e q => (new i q).elim (h.a2 i e) (fun q => by have := (h.nw.row.lt i e).2; omega)
    a3 := fun i e hx => (List.mem_append.1 hx).elim (h.a3 i e) (fun q => by obtain rfl := List.mem_singleton.1 q; exact x3 e)
    a4 := fun i e q => (new i e).elim (fun e => h.a4 i e q) (fun e => by have := (h.sf.lt i q).2; omega)
    a5 := fun i e hx => (new i e).elim (fun e => h.a5 i e hx) (fun e => by have := h.nw.lt i hx; omega) }
/-- New bytes in place of those that were kept; no writes. -/
theorem St.flat {w0 w w' : World} {d : Nat} {S : DevS} {k N : Nat} {F : Nat → Prop} {nv sv wv : Value} {gs hs : List Nat} {f : Nat → List Int} {L L' : List Int} {ps : List (Nat × List Int)} (h : St w0 w d S k N F nv sv wv gs hs f L ps) {sa : Option Addr} {sc : Nat} (hr : w'.ownsRow w.heap.size 5 1 (.slice sa (512 * k) sc) (512 * k) (L'.map (Value.int .u8))) (b : Below w.heap.size w w') :
    St w0 w' d S k N F nv (.slice sa (512 * k) sc) (.slice none 0 0) gs [] f L' [] := by
  have hB := h.below b
  exact { hB with
    sf := ownsRow_mono hr h.O.B.size
    wt := Wts.nil _ _
    s1 := fun i e hF => by have := h.O.D.lt i hF; have := (hr.lt i e).1; omega
    w1 := fun i e => by cases e
    w2 := fun i e => by cases e
    a1 := fun i e q => by have := (h.nw.row.lt i e).2; have := (hr.lt i q).1; omega
    a2 := fun i e q => by cases q
    a3 := fun i e q => by cases q
    a4 := fun i e => by cases e
    a5 := fun i e => by cases e }
theorem St.congr {w0 w : World} {d : Nat} {S : DevS} {k N : Nat} {F : Nat → Prop} {nv sv wv : Value} {gs hs : List Nat} {f f' : Nat → List Int} {L : List Int} {ps : List (Nat × List Int)} (h : St w0 w d S k N F nv sv wv gs hs f L ps) (e : ∀ b, b < k → f b = f' b) : St w0 w d S k N F nv sv wv gs hs f' L ps := { h with nw := h.nw.congr e }
end Go.Proofs.Ytkffnbcfmaoldab
