/- The document's own device (annexref5) in memory, by the same account as the program's; New, Image, Size, Power, Durable, Arm, fails by their contracts. -/
import Derived.Test.YtejfbjjhnhlagaaLC
import Derived.Test.YtejfbjjhnhlagaaMJ
namespace Go.Proofs.Ytejfbjjhnhlagaa
open Go.RowKit Go.Maps
set_option maxRecDepth 100000

/-- Bytes, and what lies behind them in the same block. -/
abbrev bt (bs : List Int) (tl : List Value) : Obj := .cells (bs.map (Value.int .u8) ++ tl).toArray 5 (0, 0)
theorem Lies.bt {w : World} {g n c : Nat} {bs : List Int} {tl : List Value} (h : w.heap[g]? = some (bt bs tl)) (hn : bs.length = n) (hc : n ≤ c) : Lies w (some ⟨g, 0, none⟩) n c bs := by
  refine ⟨hn, hc, (fun h => by cases h), fun ad had t u hu => ?_⟩
  obtain rfl := Option.some.inj had
  rw [Addr.add_lit, Nat.zero_add]
  have ht : t < (bs.map (Value.int .u8)).length := (List.getElem?_eq_some_iff.1 hu).1
  simp only [World.cell?, h]
  rw [List.getElem?_toArray, List.getElem?_append_left ht]
  exact hu
theorem own_bt {w : World} {base n : Nat} {v : Value} {bs : List Int} (h : w.ownsRow base 5 1 v n (bs.map (Value.int .u8))) (h0 : 0 < n) : ∃ g tl, v = .slice (some ⟨g, 0, none⟩) n (n + tl.length) ∧ base ≤ g ∧ w.heap[g]? = some (bt bs tl) := by
  rcases h.2 with ⟨_, rfl⟩ | ⟨g, cap, cur, rfl, hg, hh, hnc, _, hcs, htk⟩
  · omega
  · refine ⟨g, cur.toList.drop n, ?_, hg, ?_⟩
    · simp [hcs, Nat.add_sub_cancel' hnc]
    · rw [hh]
      have e : cur.toList = bs.map (Value.int .u8) ++ cur.toList.drop n := by
        conv => lhs; rw [← List.take_append_drop n cur.toList]
        rw [Nat.mul_one] at htk
        rw [htk]
      show some (Obj.cells cur _ _) = some (Obj.cells _ _ _)
      rw [← e]

/-- The cells of the writes that pend. -/
def rv (v : Nat × List Value) : Value := .slice (some ⟨v.1, 0, none⟩) 512 (512 + v.2.length)
def rpc : List (Nat × List Int) → List (Nat × List Value) → List Value
  | p :: ps, v :: vs => .int .i64 p.1 :: rv v :: rpc ps vs
  | _, _ => []
theorem rpc_snoc : ∀ (ps : List (Nat × List Int)) (gs : List (Nat × List Value)) (b : Nat) (d : List Int) (g : Nat × List Value), gs.length = ps.length → rpc (ps ++ [(b, d)]) (gs ++ [g]) = rpc ps gs ++ [.int .i64 b, rv g]
  | [], [], _, _, _, _ => rfl
  | [], g :: gs, _, _, _, h => by cases h
  | p :: ps, [], _, _, _, h => by cases h
  | p :: ps, g :: gs, b, d, g', h => by
    have := rpc_snoc ps gs b d g' (by simpa using h)
    simp [rpc, this]
theorem rpc_at : ∀ (ps : List (Nat × List Int)) (gs : List (Nat × List Value)) (i : Nat) (p : Nat × List Int) (g : Nat × List Value), ps[i]? = some p → gs[i]? = some g → (rpc ps gs)[i * 2]? = some (.int .i64 p.1) ∧ (rpc ps gs)[i * 2 + 1]? = some (rv g)
  | [], _, _, _, _, h, _ => by simp at h
  | p :: ps, [], _, _, _, _, h => by simp at h
  | p :: ps, g :: gs, 0, _, _, h1, h2 => by
    simp at h1 h2; subst h1; subst h2
    simp [rpc]
  | p :: ps, g :: gs, i + 1, p', g', h1, h2 => by
    have := rpc_at ps gs i p' g' (by simpa using h1) (by simpa using h2)
    rw [show (i + 1) * 2 = i * 2 + 1 + 1 by omega]
    simpa [rpc] using this

/-- The document's device in memory, with all its parts. -/
structure RX (w : World) (rb : Nat) (S : DevS) (k gl : Nat) (tl : List Value) (pv : Value) (vs : List (Nat × List Value)) : Prop where
  good : Good S k
  calm : S.off = true → S.fuse = 0
  blk : w.heap[rb]? = some (.cells #[.slice (some ⟨gl, 0, none⟩) (512 * k) (512 * k + tl.length), pv, .bool S.off, .int .i64 S.fuse] 92 (0, 0))
  lst : w.heap[gl]? = some (bt S.last tl)
  row : w.ownsRow 0 69 2 pv S.pend.length (rpc S.pend vs)
  vsl : vs.length = S.pend.length
  dat : ∀ (i : Nat) p v, S.pend[i]? = some p → vs[i]? = some v → w.heap[v.1]? = some (bt p.2 v.2)
  a3 : ∀ v ∈ vs, v.1 ≠ gl
structure RFoot (R : Nat → Prop) (rb gl : Nat) (pv : Value) (vs : List (Nat × List Value)) : Prop where
  f1 : R rb
  f2 : R gl
  f4 : ∀ b, pv.ownBlock = some b → R b
  f5 : ∀ v ∈ vs, R v.1
def RDev (w : World) (rb : Nat) (S : DevS) (k : Nat) (R : Nat → Prop) : Prop := ∃ gl tl pv vs, RX w rb S k gl tl pv vs ∧ RFoot R rb gl pv vs ∧ ∀ i, R i → i < w.heap.size
def RWent (w w' : World) (rb : Nat) (S : DevS) (k : Nat) (R : Nat → Prop) : Prop := RDev w' rb S k (grow R w w') ∧ Turns R w w'
theorem rdat_turns {F : Nat → Prop} {w w' : World} {ps : List (Nat × List Int)} {vs : List (Nat × List Value)} (h : ∀ (i : Nat) p v, ps[i]? = some p → vs[i]? = some v → w.heap[v.1]? = some (bt p.2 v.2)) (ht : Turns F w w') (hF : ∀ v ∈ vs, ¬ F v.1) :
    ∀ (i : Nat) p v, ps[i]? = some p → vs[i]? = some v → w'.heap[v.1]? = some (bt p.2 v.2) := fun i p v h1 h2 => by
  have hb := h i p v h1 h2
  exact (ht.block v.1 (heap_lt hb) (hF v (List.mem_of_getElem? h2))).trans hb
theorem RX.turns {G : Nat → Prop} {w w' : World} {rb : Nat} {S : DevS} {k gl : Nat} {tl : List Value} {pv : Value} {vs : List (Nat × List Value)} (h : RX w rb S k gl tl pv vs) (ht : Turns G w w')
    (h1 : ¬ G rb) (h2 : ¬ G gl) (h4 : ∀ b, pv.ownBlock = some b → ¬ G b) (h5 : ∀ v ∈ vs, ¬ G v.1) : RX w' rb S k gl tl pv vs :=
  { h with
    blk := (ht.block rb (heap_lt h.blk) h1).trans h.blk
    lst := (ht.block gl (heap_lt h.lst) h2).trans h.lst
    row := own_turns h.row ht h4
    dat := rdat_turns h.dat ht h5 }
theorem RX.below {w w' : World} {rb : Nat} {S : DevS} {k gl : Nat} {tl : List Value} {pv : Value} {vs : List (Nat × List Value)} (h : RX w rb S k gl tl pv vs) (hb : Below w.heap.size w w') : RX w' rb S k gl tl pv vs :=
  h.turns (Below.turns hb (fun _ => False)) id id (fun _ _ => id) (fun _ _ => id)
theorem RDev.turns {R G : Nat → Prop} {w w' : World} {rb : Nat} {S : DevS} {k : Nat} (h : RDev w rb S k R) (ht : Turns G w w') (hG : ∀ i, R i → ¬ G i) : RDev w' rb S k R := by
  obtain ⟨gl, tl, pv, vs, h, f, hl⟩ := h
  exact ⟨gl, tl, pv, vs, h.turns ht (hG _ f.f1) (hG _ f.f2) (fun b hb => hG _ (f.f4 b hb)) (fun v hv => hG _ (f.f5 v hv)), f, fun i hi => Nat.lt_of_lt_of_le (hl i hi) ht.size⟩
theorem RDev.below {R : Nat → Prop} {w w' : World} {rb : Nat} {S : DevS} {k : Nat} (h : RDev w rb S k R) (hb : Below w.heap.size w w') : RDev w' rb S k R :=
  h.turns (Below.turns hb (fun _ => False)) (fun _ _ => id)
theorem RDev.lt {R : Nat → Prop} {w : World} {rb : Nat} {S : DevS} {k : Nat} (h : RDev w rb S k R) : ∀ i, R i → i < w.heap.size := by
  obtain ⟨gl, tl, pv, vs, h, f, hl⟩ := h
  exact hl
theorem RDev.good {R : Nat → Prop} {w : World} {rb : Nat} {S : DevS} {k : Nat} (h : RDev w rb S k R) : Good S k := by
  obtain ⟨gl, tl, pv, vs, h, f, hl⟩ := h
  exact h.good
theorem RDev.calm {R : Nat → Prop} {w : World} {rb : Nat} {S : DevS} {k : Nat} (h : RDev w rb S k R) : S.off = true → S.fuse = 0 := by
  obtain ⟨gl, tl, pv, vs, h, f, hl⟩ := h
  exact h.calm
theorem RX.cells {w : World} {rb : Nat} {S : DevS} {k gl : Nat} {tl : List Value} {pv : Value} {vs : List (Nat × List Value)} (h : RX w rb S k gl tl pv vs) :
    w.cell? ⟨rb, 0, none⟩ = some (.slice (some ⟨gl, 0, none⟩) (512 * k) (512 * k + tl.length)) ∧ w.cell? ⟨rb, 1, none⟩ = some pv ∧ w.cell? ⟨rb, 2, none⟩ = some (.bool S.off) ∧ w.cell? ⟨rb, 3, none⟩ = some (.int .i64 S.fuse) ∧ ∀ j, w.frozen? ⟨rb, j, none⟩ = false := by
  refine ⟨?_, ?_, ?_, ?_, fun j => ?_⟩ <;> simp [World.cell?, World.frozen?, h.blk]
theorem obj_ne {w : World} {a b : Nat} {ca cb : Array Value} {ta tb : TypeId} {fa fb : Nat × Nat} (h1 : w.heap[a]? = some (.cells ca ta fa)) (h2 : w.heap[b]? = some (.cells cb tb fb)) (h : ta ≠ tb) : a ≠ b := fun e => by
  subst e; rw [h1] at h2; exact h (Obj.cells.inj (Option.some.inj h2)).2.1
theorem own_ne2 {w : World} {base e size n hb t : Nat} {v : Value} {xs : List Value} {cs : Array Value} {f : Nat × Nat} (h : w.ownsRow base e size v n xs) (hb' : w.heap[hb]? = some (.cells cs t f)) (hne : e ≠ t) : v.ownBlock ≠ some hb := by
  rcases h.2 with ⟨rfl, _⟩ | ⟨g, cap, cur, rfl, hg, hh, _⟩
  · intro q; cases q
  · intro q; cases q
    exact obj_ne hh hb' hne rfl
theorem RX.rg {w : World} {rb : Nat} {S : DevS} {k gl : Nat} {tl : List Value} {pv : Value} {vs : List (Nat × List Value)} (h : RX w rb S k gl tl pv vs) : rb ≠ gl := obj_ne h.blk h.lst (by decide)
theorem RX.pr {w : World} {rb : Nat} {S : DevS} {k gl : Nat} {tl : List Value} {pv : Value} {vs : List (Nat × List Value)} (h : RX w rb S k gl tl pv vs) : pv.ownBlock ≠ some rb := own_ne2 h.row h.blk (by decide)
theorem RX.pg {w : World} {rb : Nat} {S : DevS} {k gl : Nat} {tl : List Value} {pv : Value} {vs : List (Nat × List Value)} (h : RX w rb S k gl tl pv vs) : pv.ownBlock ≠ some gl := own_ne2 h.row h.lst (by decide)
theorem RX.vat {w : World} {rb : Nat} {S : DevS} {k gl : Nat} {tl : List Value} {pv : Value} {vs : List (Nat × List Value)} (h : RX w rb S k gl tl pv vs) {v : Nat × List Value} (hv : v ∈ vs) : ∃ bs, w.heap[v.1]? = some (bt bs v.2) := by
  obtain ⟨i, hi⟩ := List.mem_iff_getElem?.1 hv
  have hlt : i < S.pend.length := by rw [← h.vsl]; exact (List.getElem?_eq_some_iff.1 hi).1
  exact ⟨_, h.dat i _ _ (List.getElem?_eq_getElem hlt) hi⟩
theorem RX.vr {w : World} {rb : Nat} {S : DevS} {k gl : Nat} {tl : List Value} {pv : Value} {vs : List (Nat × List Value)} (h : RX w rb S k gl tl pv vs) : ∀ v ∈ vs, v.1 ≠ rb := fun v hv => by
  obtain ⟨bs, hb⟩ := h.vat hv
  exact obj_ne hb h.blk (by decide)
theorem RX.pw {w : World} {rb : Nat} {S : DevS} {k gl : Nat} {tl : List Value} {pv : Value} {vs : List (Nat × List Value)} (h : RX w rb S k gl tl pv vs) : ∀ v ∈ vs, pv.ownBlock ≠ some v.1 := fun v hv => by
  obtain ⟨bs, hb⟩ := h.vat hv
  exact own_ne2 h.row hb (by decide)
/-- One cell of the device's own block is written; nothing but the fuse and the power. -/
theorem RX.rb {w : World} {rb : Nat} {S S' : DevS} {k gl : Nat} {tl : List Value} {pv : Value} {vs : List (Nat × List Value)} (h : RX w rb S k gl tl pv vs) (j : Nat) (v : Value)
    (hS : S'.last = S.last ∧ S'.pend = S.pend ∧ S'.fuse ≤ 9223372036854775807) (hc : S'.off = true → S'.fuse = 0)
    (hb : (#[.slice (some ⟨gl, 0, none⟩) (512 * k) (512 * k + tl.length), pv, .bool S.off, .int .i64 S.fuse] : Array Value).setIfInBounds j v = #[.slice (some ⟨gl, 0, none⟩) (512 * k) (512 * k + tl.length), pv, .bool S'.off, .int .i64 S'.fuse]) :
    RX (w.setCell ⟨rb, j, none⟩ v) rb S' k gl tl pv vs := by
  have ht : Turns (fun i => i = rb) w (w.setCell ⟨rb, j, none⟩ v) := Turns.setCell w j v rfl
  obtain ⟨e1, e2, e3⟩ := hS
  refine ⟨⟨by rw [e1]; exact h.good.len, h.good.pos, h.good.top, by rw [e1]; exact h.good.by_, by rw [e2]; exact h.good.pend, e3⟩, hc, ?_, ?_, ?_, by rw [e2]; exact h.vsl, ?_, h.a3⟩
  · rw [heap_setCell_same _ _ _ _ _ _ h.blk, hb]
  · rw [e1]; exact (ht.block gl (heap_lt h.lst) (fun e => h.rg e.symm)).trans h.lst
  · rw [e2]; exact own_turns h.row ht (fun b hb e => h.pr (by rw [hb, e]))
  · rw [e2]; exact rdat_turns h.dat ht (fun v hv e => h.vr v hv e)
theorem RDev.of {w w' : World} {rb : Nat} {S : DevS} {k gl : Nat} {tl : List Value} {pv pv0 : Value} {vs vs0 : List (Nat × List Value)} {R : Nat → Prop} (h : RX w' rb S k gl tl pv vs) (f : RFoot R rb gl pv0 vs0) (hl : ∀ i, R i → i < w.heap.size) (ht : Turns R w w')
    (h4 : ∀ b, pv.ownBlock = some b → pv0.ownBlock = some b ∨ w.heap.size ≤ b) (h5 : ∀ v ∈ vs, v ∈ vs0 ∨ w.heap.size ≤ v.1) : RWent w w' rb S k R := by
  refine ⟨⟨gl, tl, pv, vs, h, ⟨Or.inl f.f1, Or.inl f.f2, fun b hb => ?_, fun v hv => ?_⟩, fun i hi => ?_⟩, ht⟩
  · rcases h4 b hb with q | q
    · exact Or.inl (f.f4 b q)
    · exact Or.inr ⟨q, (h.row.lt b hb).2⟩
  · rcases h5 v hv with q | q
    · exact Or.inl (f.f5 v q)
    · obtain ⟨bs, hb⟩ := h.vat hv
      exact Or.inr ⟨q, heap_lt hb⟩
  · rcases hi with hi | hi
    · exact Nat.lt_of_lt_of_le (hl i hi) ht.size
    · exact hi.2

set_option maxHeartbeats 1000000 in
theorem refNew_good (k : Nat) (w : World) (h1 : 1 ≤ k) (h2 : k ≤ 4096) :
    Calls Try.prog 20 #[.int .i64 k] w fun e w' => ∃ rb, e = .returned (.pointer (some ⟨rb, 0, none⟩)) ∧ RDev w' rb (fresh (List.replicate (512 * k) 0)) k (grow (fun _ => False) w w') ∧ Below w.heap.size w w' := by
  obtain ⟨i0, hi, hz0, hz1, hz2⟩ := info_parts Try.info5
  have h1i : (1 : Int) ≤ k := by omega
  have h2i : (k : Int) ≤ 4096 := by omega
  have hG : Good (fresh (List.replicate (512 * k) 0)) k := Good.fresh (by simp) h1 h2 (fun x hx => by have := List.eq_of_mem_replicate hx; omega)
  have hz := zeros_bl w (512 * k)
  have hb1 : Below w.heap.size w (w.alloc (.cells (madeCells #[.int .u8 0] (512 * k)) 5)) := (Below.refl _ w).alloc (Nat.le_refl _) _
  go_enter Try.func20, Try.ntmps20
  go_wp2_with (at_make; (refine wpList_make_row _ rfl _ _ 33 rfl 5 i0 (.int .u8 0) Try.underlying33 hi hz0 hz1 rfl .i64 .i64 (512 * k) (by show Value.int .i64 (512 * (k : Int)) = _; congr 1) (by show Value.int .i64 (512 * (k : Int)) = _; congr 1) (by rw [hz2]; omega) (by omega) ?_))
  go_ret
  have hsz := heap_lt hz
  have hb2 := fun o => hb1.alloc hb1.size o
  refine ⟨_, rfl, ⟨w.heap.size, [], .slice none 0 0, [], ⟨hG, (fun h => by cases h), ?_, ?_, World.ownsRow_nil _ _ _ _, rfl, (fun i p v h => by simp [fresh] at h), by simp⟩, ⟨Or.inr ⟨by simp, by simp⟩, Or.inr ⟨Nat.le_refl _, by simp; omega⟩, (fun b h => by simp [Value.ownBlock] at h), by simp⟩, fun i hi => (hi.elim False.elim id).2⟩, hb2 _⟩
  · have hs1 : (w.alloc (.cells (madeCells #[.int .u8 0] (512 * k)) 5)).heap.size = w.heap.size + 1 := by simp
    rw [← hs1, (MapKept.heap_alloc _ _).1]; rfl
  · refine (((Below.refl _ _).alloc (Nat.le_refl _) _).block _ hsz).trans (hz.trans ?_)
    simp [fresh]
set_option maxHeartbeats 1000000 in
theorem refNew_bad (n : Int) (w : World) (h : ¬ (1 ≤ n ∧ n ≤ 4096)) :
    Calls Try.prog 20 #[.int .i64 n] w fun e w' => e = .returned (.pointer none) ∧ w' = w := by
  by_cases h1 : n < 1
  · go_enter Try.func20, Try.ntmps20
    go_wp2
    go_ret
    exact ⟨rfl, rfl⟩
  · have h2 : (4096 : Int) < n := by omega
    go_enter Try.func20, Try.ntmps20
    go_wp2
    go_ret
    exact ⟨rfl, rfl⟩
/-- How many bytes make an image. -/
def imgB (n : Nat) : Prop := n % 512 = 0 ∧ 1 ≤ n / 512 ∧ n / 512 ≤ 4096
set_option maxHeartbeats 1000000 in
theorem image_bad (ao : Option Addr) (n c : Nat) (w : World) (hn : n ≤ 140737488355328) (h : ¬ imgB n) :
    Calls Try.prog 22 #[.slice ao n c] w fun e w' => e = .returned (.tuple #[.pointer none, .int .i64 51]) ∧ w' = w := by
  have hni : (n : Int) ≤ 140737488355328 := by omega
  by_cases h1 : n % 512 = 0
  · have hk : ¬ (1 ≤ (n : Int) / 512 ∧ (n : Int) / 512 ≤ 4096) := by
      unfold imgB at h
      omega
    have hm : (n : Int) % 512 = 0 := by omega
    have hkd := decide_eq_false hk
    go_enter Try.func22, Try.ntmps22
    go_wp2_with (go_at_call 40; refine (canBe_any _ _).mono ?_; rintro e wn ⟨rfl, hwn⟩; subst wn; rw [hkd])
    go_ret2
    exact ⟨rfl, rfl⟩
  · have hm : ¬ (n : Int) % 512 = 0 := by omega
    go_enter Try.func22, Try.ntmps22
    go_wp2
    go_ret2
    exact ⟨rfl, rfl⟩
set_option maxHeartbeats 1000000 in
theorem refImage_bad (ao : Option Addr) (n c : Nat) (w : World) (hn : n ≤ 140737488355328) (h : ¬ imgB n) :
    Calls Try.prog 23 #[.slice ao n c] w fun e w' => e = .returned (.tuple #[.pointer none, .int .i64 51]) ∧ w' = w := by
  have hni : (n : Int) ≤ 140737488355328 := by omega
  by_cases h1 : n % 512 = 0
  · have hm : (n : Int) % 512 = 0 := by omega
    by_cases h2 : (n : Int) / 512 < 1
    · go_enter Try.func23, Try.ntmps23
      go_wp2
      go_ret2
      exact ⟨rfl, rfl⟩
    · have h3 : (4096 : Int) < (n : Int) / 512 := by
        unfold imgB at h
        omega
      go_enter Try.func23, Try.ntmps23
      go_wp2
      go_ret2
      exact ⟨rfl, rfl⟩
  · have hm : ¬ (n : Int) % 512 = 0 := by omega
    go_enter Try.func23, Try.ntmps23
    go_wp2
    go_ret2
    exact ⟨rfl, rfl⟩
set_option maxHeartbeats 1000000 in
theorem refImage_good (ao : Option Addr) (k c : Nat) (bs : List Int) (w : World) (h1 : 1 ≤ k) (h2 : k ≤ 4096) (hL : Lies w ao (512 * k) c bs) (hby : ∀ x ∈ bs, 0 ≤ x ∧ x ≤ 255) :
    Calls Try.prog 23 #[.slice ao (512 * k) c] w fun e w' => ∃ rb, e = .returned (.tuple #[.pointer (some ⟨rb, 0, none⟩), .int .i64 0]) ∧ RDev w' rb (fresh bs) k (grow (fun _ => False) w w') ∧ Below w.heap.size w w' := by
  obtain ⟨i0, hi, hz0, hz1, hz2⟩ := info_parts Try.info5
  have h1i : (1 : Int) ≤ k := by omega
  have h2i : (k : Int) ≤ 4096 := by omega
  obtain ⟨b, o, rfl, hc⟩ := hL.at (by omega)
  have hlen := hL.hlen
  have hG : Good (fresh bs) k := Good.fresh hlen h1 h2 hby
  have hcells : ∀ j u, (bs.map (Value.int .u8))[j]? = some u → w.cell? ((⟨b, o, none⟩ : Addr).add j) = some u := hL.hcells _ rfl
  clear hc hL
  go_enter Try.func23, Try.ntmps23
  go_wp2_with (at_builtin; refine wpList_append_own _ rfl _ _ 33 rfl w.heap.size 5 i0 (.int .u8 0) 1 1 Try.underlying33 hi hz0 hz1 hz2 rfl (by decide) (.slice none 0 0) 0 [] rfl (World.ownsRow_nil _ _ _ _) ⟨b, o, none⟩ (512 * k) c (bs.map (Value.int .u8)) rfl (by simp [hlen]) hcells (ints_oneCell _ _) (by unfold maxLen; omega) (by omega) (Nat.le_refl _) ?_; intro v' w1 hown1 hgrow1 hnil1; simp only [Nat.zero_add, List.nil_append] at hown1; obtain ⟨g1, tl, rfl, hg1, hb1⟩ := own_bt hown1 (by omega))
  go_ret2
  have hB1 : Below w.heap.size w w1 := ⟨hgrow1.os, hgrow1.tape, hgrow1.output, hgrow1.size, fun i hi => hgrow1.block i hi (by simp [Value.ownBlock])⟩
  have hsz := heap_lt hb1
  have hs1 := hB1.size
  refine ⟨_, rfl, ⟨g1, tl, .slice none 0 0, [], ⟨hG, (fun h => by cases h), ?_, ?_, World.ownsRow_nil _ _ _ _, rfl, (fun i p v h => by simp [fresh] at h), by simp⟩, ⟨Or.inr ⟨hs1, by simp⟩, Or.inr ⟨hg1, by simp; omega⟩, (fun b h => by simp [Value.ownBlock] at h), by simp⟩, fun i hi => (hi.elim False.elim id).2⟩, hB1.alloc hB1.size _⟩
  · rw [(MapKept.heap_alloc _ _).1]; rfl
  · exact (((Below.refl _ _).alloc (Nat.le_refl _) _).block _ hsz).trans hb1
end Go.Proofs.Ytejfbjjhnhlagaa
