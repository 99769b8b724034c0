/- Many devices beside one another, and the list that holds them. -/
import Derived.Test.YtkffnbcfmaoldaaLJ
namespace Go.Proofs.Ytkffnbcfmaoldaa
open Go.RowKit Go.Maps
set_option maxRecDepth 100000

abbrev pt (d : Nat) : Value := .pointer (some ⟨d, 0, none⟩)
/-- The first c devices of d, each with its state and its own blocks, in the list v; a block gb beside them. -/
structure Many (w0 w : World) (gb : Nat) (v : Value) (c k : Nat) (d : Nat → Nat) (S : Nat → DevS) (F : Nat → Nat → Prop) : Prop where
  D : ∀ i, i < c → ∃ n, n ≤ (S i).pend.length ∧ Dev w (d i) 0 (S i) k n (F i)
  ap : ∀ i j, i < c → j < c → i ≠ j → ∀ g, F i g → ¬ F j g
  hF : ∀ i, i < c → ∀ g, F i g → w0.heap.size ≤ g
  row : w.ownsRow w0.heap.size 25 1 v c ((List.range c).map (fun i => pt (d i)))
  vF : ∀ i, i < c → ∀ b, v.ownBlock = some b → ¬ F i b
  gF : ∀ i, i < c → ¬ F i gb
  gv : v.ownBlock ≠ some gb
  g0 : w0.heap.size ≤ gb
  gs : gb < w.heap.size
  B : Below w0.heap.size w0 w
theorem Many.turns {w0 w w' : World} {gb : Nat} {v : Value} {c k : Nat} {d : Nat → Nat} {S : Nat → DevS} {F : Nat → Nat → Prop} {G : Nat → Prop} (h : Many w0 w gb v c k d S F) (t : Turns G w w') (h1 : ∀ i, i < c → ∀ g, F i g → ¬ G g) (h2 : ∀ b, v.ownBlock = some b → ¬ G b) (h3 : ∀ g, G g → w0.heap.size ≤ g) : Many w0 w' gb v c k d S F :=
  ⟨fun i hi => by
    obtain ⟨n, hn, hD⟩ := h.D i hi
    exact ⟨n, hn, hD.turns t (h1 i hi)⟩, h.ap, h.hF, own_turns h.row t h2, h.vF, h.gF, h.gv, h.g0, Nat.lt_of_lt_of_le h.gs t.size, h.B.trans (t.below h3 h.B.size)⟩
theorem Many.below {w0 w w' : World} {gb : Nat} {v : Value} {c k : Nat} {d : Nat → Nat} {S : Nat → DevS} {F : Nat → Nat → Prop} (h : Many w0 w gb v c k d S F) (b : Below w.heap.size w w') : Many w0 w' gb v c k d S F :=
  h.turns (Below.turns b (fun _ => False)) (fun _ _ _ _ => id) (fun _ _ => id) (fun _ => False.elim)
/-- The block beside them is written. -/
theorem Many.set {w0 w : World} {gb : Nat} {v : Value} {c k : Nat} {d : Nat → Nat} {S : Nat → DevS} {F : Nat → Nat → Prop} (h : Many w0 w gb v c k d S F) (o : Nat) (u : Value) : Many w0 (w.setCell ⟨gb, o, none⟩ u) gb v c k d S F :=
  h.turns (Turns.cell w gb o u) (fun i hi g hg e => by subst e; exact h.gF i hi hg) (fun b hb e => by subst e; exact h.gv hb) (fun g e => by subst e; exact h.g0)
/-- One is looked at. -/
theorem Many.look {w0 w w' : World} {gb : Nat} {v : Value} {c k : Nat} {d : Nat → Nat} {S : Nat → DevS} {F : Nat → Nat → Prop} (h : Many w0 w gb v c k d S F) {i n : Nat} (hi : i < c) (hn : n ≤ (S i).pend.length) (q : Same0 w w' (d i) (S i) k n (F i)) : Many w0 w' gb v c k d S F :=
  ⟨fun j hj => by
    by_cases e : j = i
    · subst e; exact ⟨n, hn, q.1⟩
    · obtain ⟨m, hm, hD⟩ := h.D j hj
      exact ⟨m, hm, hD.turns q.2 (h.ap j i hj hi e)⟩, h.ap, h.hF, own_turns h.row q.2 (fun b hb => h.vF i hi b hb), h.vF, h.gF, h.gv, h.g0, Nat.lt_of_lt_of_le h.gs q.2.size, h.B.trans (q.2.below (h.hF i hi) h.B.size)⟩
/-- One goes on. -/
theorem Many.went {w0 w w' : World} {gb : Nat} {v : Value} {c k : Nat} {d : Nat → Nat} {S : Nat → DevS} {F : Nat → Nat → Prop} (h : Many w0 w gb v c k d S F) {i n : Nat} {S' : DevS} (hi : i < c) (hn : n ≤ S'.pend.length) (q : Went w w' (d i) S' k n (F i)) :
    Many w0 w' gb v c k d (fun j => if j = i then S' else S j) (fun j => if j = i then grow (F i) w w' else F j) := by
  have hlt : ∀ j, j < c → ∀ g, F j g → g < w.heap.size := fun j hj => by
    obtain ⟨m, hm, hD⟩ := h.D j hj
    exact hD.lt
  refine ⟨fun j hj => ?_, fun a b ha hb hab g hg => ?_, fun j hj g hg => ?_, own_turns h.row q.2 (fun b hb => h.vF i hi b hb), fun j hj b hb => ?_, fun j hj => ?_, h.gv, h.g0, Nat.lt_of_lt_of_le h.gs q.2.size, h.B.trans (q.2.below (h.hF i hi) h.B.size)⟩
  · by_cases e : j = i
    · subst e; rw [if_pos rfl, if_pos rfl]; exact ⟨n, hn, q.1⟩
    · rw [if_neg e, if_neg e]
      obtain ⟨m, hm, hD⟩ := h.D j hj
      exact ⟨m, hm, hD.turns q.2 (h.ap j i hj hi e)⟩
  · by_cases e : a = i
    · have e' : b ≠ i := fun q => hab (e.trans q.symm)
      rw [if_pos e] at hg
      rw [if_neg e']
      exact grow_apart (h.ap i b hi hb (fun q => e' q.symm)) (hlt b hb) g hg
    · rw [if_neg e] at hg
      by_cases e' : b = i
      · rw [if_pos e']
        exact fun q => grow_apart (h.ap i a hi ha (fun q => e q.symm)) (hlt a ha) g q hg
      · rw [if_neg e']
        exact h.ap a b ha hb hab g hg
  · by_cases e : j = i
    · rw [if_pos e] at hg; exact grow_below (h.hF i hi) h.B.size g hg
    · rw [if_neg e] at hg; exact h.hF j hj g hg
  · by_cases e : j = i
    · rw [if_pos e]
      intro q
      exact q.elim (h.vF i hi b hb) (fun q => by have := (h.row.lt b hb).2; omega)
    · rw [if_neg e]; exact h.vF j hj b hb
  · by_cases e : j = i
    · rw [if_pos e]
      intro q
      exact q.elim (h.gF i hi) (fun q => by have := h.gs; omega)
    · rw [if_neg e]; exact h.gF j hj
/-- A device beside them that is not in the list yet. -/
structure Beside (w0 w : World) (gb : Nat) (v : Value) (c k : Nat) (d : Nat → Nat) (S : Nat → DevS) (F : Nat → Nat → Prop) (db : Nat) (T : DevS) (G : Nat → Prop) : Prop where
  M : Many w0 w gb v c k d S F
  D : Dev w db 0 T k 0 G
  ap : ∀ i, i < c → ∀ g, F i g → ¬ G g
  hG : ∀ g, G g → w0.heap.size ≤ g
  vG : ∀ b, v.ownBlock = some b → ¬ G b
  gG : ¬ G gb
theorem Beside.new {w0 w w' : World} {gb : Nat} {v : Value} {c k : Nat} {d : Nat → Nat} {S : Nat → DevS} {F : Nat → Nat → Prop} {db : Nat} {T : DevS} (h : Many w0 w gb v c k d S F) (hD : Dev w' db 0 T k 0 (grow (fun _ => False) w w')) (b : Below w.heap.size w w') : Beside w0 w' gb v c k d S F db T (grow (fun _ => False) w w') := by
  have hs := h.B.size
  refine ⟨h.below b, hD, fun i hi g hg q => ?_, fun g q => ?_, fun b hb q => ?_, fun q => ?_⟩
  · obtain ⟨m, hm, hE⟩ := h.D i hi
    have := hE.lt g hg
    have := q.elim False.elim id
    omega
  · have := q.elim False.elim id
    omega
  · have := (h.row.lt b hb).2
    have := q.elim False.elim id
    omega
  · have := h.gs
    have := q.elim False.elim id
    omega
theorem Beside.arm {w0 w w' : World} {gb : Nat} {v : Value} {c k : Nat} {d : Nat → Nat} {S : Nat → DevS} {F : Nat → Nat → Prop} {db : Nat} {T T' : DevS} {G : Nat → Prop} (h : Beside w0 w gb v c k d S F db T G) (q : Same0 w w' db T' k 0 G) : Beside w0 w' gb v c k d S F db T' G :=
  ⟨h.M.turns q.2 h.ap h.vG h.hG, q.1, h.ap, h.hG, h.vG, h.gG⟩
theorem Beside.add {w0 w w' : World} {gb : Nat} {v v' : Value} {c k : Nat} {d : Nat → Nat} {S : Nat → DevS} {F : Nat → Nat → Prop} {db : Nat} {T : DevS} {G : Nat → Prop} (h : Beside w0 w gb v c k d S F db T G) (t : Turns (fun i => v.ownBlock = some i) w w')
    (hr : w'.ownsRow w0.heap.size 25 1 v' (c + 1) ((List.range c).map (fun i => pt (d i)) ++ [pt db])) (hat : v'.ownBlock = v.ownBlock ∨ ∃ i, v'.ownBlock = some i ∧ w.heap.size ≤ i) :
    Many w0 w' gb v' (c + 1) k (fun j => if j = c then db else d j) (fun j => if j = c then T else S j) (fun j => if j = c then G else F j) := by
  have hM : ∀ i, i < c → ∃ n, n ≤ (S i).pend.length ∧ Dev w' (d i) 0 (S i) k n (F i) := fun i hi => by
    obtain ⟨n, hn, hE⟩ := h.M.D i hi
    exact ⟨n, hn, hE.turns t (fun g hg q => h.M.vF i hi g q hg)⟩
  have hlt : ∀ i, i < c → ∀ g, F i g → g < w.heap.size := fun i hi => by
    obtain ⟨n, hn, hE⟩ := h.M.D i hi
    exact hE.lt
  have hc : ∀ j, j < c + 1 → j ≠ c → j < c := fun j hj e => by omega
  refine ⟨fun j hj => ?_, fun a b ha hb hab g hg => ?_, fun j hj g hg => ?_, ?_, fun j hj b hb => ?_, fun j hj => ?_, ?_, h.M.g0, Nat.lt_of_lt_of_le h.M.gs t.size, h.M.B.trans (t.below (fun i q => (h.M.row.lt i q).1) h.M.B.size)⟩
  · by_cases e : j = c
    · rw [if_pos e, if_pos e, if_pos e]; exact ⟨0, Nat.zero_le _, h.D.turns t (fun g hg q => h.vG g q hg)⟩
    · rw [if_neg e, if_neg e, if_neg e]; exact hM j (hc j hj e)
  · by_cases e : a = c
    · have e' : b ≠ c := fun q => hab (e.trans q.symm)
      rw [if_pos e] at hg
      rw [if_neg e']
      exact fun q => h.ap b (hc b hb e') g q hg
    · rw [if_neg e] at hg
      by_cases e' : b = c
      · rw [if_pos e']
        exact h.ap a (hc a ha e) g hg
      · rw [if_neg e']
        exact h.M.ap a b (hc a ha e) (hc b hb e') hab g hg
  · by_cases e : j = c
    · rw [if_pos e] at hg; exact h.hG g hg
    · rw [if_neg e] at hg; exact h.M.hF j (hc j hj e) g hg
  · have e1 : (List.range (c + 1)).map (fun i => pt (if i = c then db else d i)) = (List.range c).map (fun i => pt (d i)) ++ [pt db] := by
      rw [List.range_succ, List.map_append]
      congr 1
      · exact List.map_congr_left (fun i hi => by rw [if_neg (by have := List.mem_range.1 hi; omega)])
      · simp
    rw [e1]
    exact hr
  · by_cases e : j = c
    · rw [if_pos e]
      rcases hat with q | ⟨i, q, hi⟩
      · exact h.vG b (by rw [← q]; exact hb)
      · rw [q] at hb; cases hb
        exact fun q => by have := h.D.lt _ q; omega
    · rw [if_neg e]
      rcases hat with q | ⟨i, q, hi⟩
      · exact h.M.vF j (hc j hj e) b (by rw [← q]; exact hb)
      · rw [q] at hb; cases hb
        exact fun q => by have := hlt j (hc j hj e) _ q; omega
  · by_cases e : j = c
    · rw [if_pos e]; exact h.gG
    · rw [if_neg e]; exact h.M.gF j (hc j hj e)
  · rcases hat with q | ⟨i, q, hi⟩
    · rw [q]; exact h.M.gv
    · rw [q]; intro e; cases e
      have := h.M.gs
      omega
/-- A device of the list, by its number. -/
theorem Many.at_ {w0 w : World} {gb : Nat} {v : Value} {c k : Nat} {d : Nat → Nat} {S : Nat → DevS} {F : Nat → Nat → Prop} (h : Many w0 w gb v c k d S F) {i : Nat} (hi : i < c) : ∃ g cap, v = .slice (some ⟨g, 0, none⟩) c cap ∧ w.cell? ⟨g, i, none⟩ = some (pt (d i)) := by
  rcases h.row.2 with ⟨_, e⟩ | ⟨g, cap, cur, hv, hb, hg, h1, h2, h3, h4⟩
  · omega
  · refine ⟨g, cap, hv, ?_⟩
    have e1 : (cur.toList.take (c * 1))[i]? = some (pt (d i)) := by
      rw [h4]; simp [hi]
    rw [List.getElem?_take, if_pos (by omega)] at e1
    simp only [World.cell?, hg]
    simpa using e1
theorem Many.cell {w0 w : World} {gb g cap : Nat} {c k : Nat} {d : Nat → Nat} {S : Nat → DevS} {F : Nat → Nat → Prop} (h : Many w0 w gb (.slice (some ⟨g, 0, none⟩) c cap) c k d S F) {i : Nat} (hi : i < c) : w.cell? ⟨g, i, none⟩ = some (pt (d i)) := by
  obtain ⟨g', cap', e, q⟩ := h.at_ hi
  cases e
  exact q
/-- What the devices are when they are made, and behind the write. -/
def st0 (k : Nat) (x : Int) (fz : Nat) (i : Nat) : DevS := { last := if i % 2 = 1 then List.replicate (512 * k) ((x + i) % 256) else List.replicate (512 * k) 0, pend := [], fuse := if i % 3 = 0 then fz else 0, off := false }
def st1 (k : Nat) (x : Int) (fz : Nat) (i : Nat) : DevS := { last := (st0 k x fz i).last, pend := [(0, List.replicate 512 (200 + (i : Int)))], fuse := if i % 3 = 0 then fz - 1 else 0, off := false }
theorem st1_of (k : Nat) (x : Int) (fz : Nat) (i : Nat) (hk : 1 ≤ k) (hf : 2 ≤ fz) : wrE (st0 k x fz i) k 0 512 = 0 ∧ wrS (st0 k x fz i) k 0 (List.replicate 512 (200 + (i : Int))) = st1 k x fz i := by
  have hb : (0 : Int) ≤ 0 ∧ (0 : Int) < k := ⟨Int.le_refl _, by omega⟩
  have hbu : burnt (st0 k x fz i) = { st0 k x fz i with fuse := if i % 3 = 0 then fz - 1 else 0 } := by
    unfold burnt
    by_cases e : i % 3 = 0
    · have h1 : (st0 k x fz i).fuse = fz := by simp [st0, e]
      rw [h1, if_neg (by omega)]
      simp [st0, e]
      omega
    · have h1 : (st0 k x fz i).fuse = 0 := by simp [st0, e]
      rw [h1, if_pos rfl]
      simp [st0, e]
  have ho : ¬ (burnt (st0 k x fz i)).off = true := by rw [hbu]; simp [st0]
  refine ⟨?_, ?_⟩
  · unfold wrE; rw [if_neg (fun q => q hb), if_neg (fun q => q rfl), if_neg ho]
  · unfold wrS; rw [if_neg (fun q => q hb), if_neg (fun q => q (by simp)), if_neg ho, hbu]
    simp [wrote, st1, st0]
theorem st1_rd (k : Nat) (x : Int) (fz : Nat) (i : Nat) : rdB (st1 k x fz i) 0 = List.replicate 512 (200 + (i : Int)) := by
  simp [rdB, newest, st1]
theorem st1_first (k : Nat) (x : Int) (fz : Nat) (i : Nat) (hk : 1 ≤ k) : (((st1 k x fz i).last).map (Value.int .u8)).toArray[0]? = some (.int .u8 (if i % 2 = 1 then (x + i) % 256 else 0)) := by
  have : 0 < 512 * k := by omega
  by_cases e : i % 2 = 1
  · simp [st1, st0, e, this]
  · simp [st1, st0, e, this]
end Go.Proofs.Ytkffnbcfmaoldaa
