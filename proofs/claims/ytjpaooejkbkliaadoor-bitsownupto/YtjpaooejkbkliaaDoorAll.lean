/- annexlaw1.all by its contract. -/
import Derived.Test.YtjpaooejkbkliaaDoorFit
namespace Go.Proofs.YtjpaooejkbkliaaDoor
open Go.RowKit
set_option maxRecDepth 100000

theorem Tryd.info3 : (Tryd.prog.info? 3).map (fun i => (i.zero, i.size, i.bytes)) = some (some (.int .i64 0), 1, 8) := by kernel_rfl

/-- The bytes of fields, one behind the other; how many lie ahead of the i-th. -/
def putsL (ls : List Itm) : List Int := ls.flatMap fun x => putL x.K x.X x.S x.ds
def lenTo (ls : List Itm) (i : Nat) : Nat := (putsL (ls.take i)).length
def froms (ls : List Itm) (k : Nat) : List Int := (List.range k).map fun i => (lenTo ls i : Int)

theorem putL_length (K X S : Int) (ds : List Int) : (putL K X S ds).length = putN K ds.length := by
  unfold putL putN
  by_cases h1 : K = 1
  · simp [h1, be_length]
  by_cases h2 : K = 2
  · simp [h2, be_length]
  by_cases h3 : K = 3
  · simp [h3, be_length]
  by_cases h4 : K = 4
  · simp [h4, be_length, Nat.add_assoc]
  by_cases h5 : K = 5
  · simp [h5, be_length, Nat.add_assoc]
  simp [h1, h2, h3, h4, h5]
theorem putN_le (K : Int) (dl : Nat) : putN K dl ≤ dl + 8 := by
  have := padN_le dl
  unfold putN; split <;> (try split) <;> (try split) <;> (try split) <;> (try split) <;> omega
theorem putsL_snoc (ls : List Itm) (x : Itm) : putsL (ls ++ [x]) = putsL ls ++ putL x.K x.X x.S x.ds := by simp [putsL]
theorem take_snoc' (ls : List Itm) (k : Nat) (h : k < ls.length) : ls.take (k + 1) = ls.take k ++ [ls[k]] := List.take_succ_eq_append_getElem h
theorem putsL_le (ls : List Itm) (h : ∀ x ∈ ls, x.ds.length ≤ 1048576) : (putsL ls).length ≤ ls.length * 1048584 := by
  induction ls with
  | nil => simp [putsL]
  | cons x ls ih =>
    have := ih (fun y hy => h y (by simp [hy]))
    have h1 := h x (by simp)
    have h2 := putN_le x.K x.ds.length
    have e : putsL (x :: ls) = putL x.K x.X x.S x.ds ++ putsL ls := rfl
    rw [e, List.length_append, putL_length, List.length_cons]
    omega
theorem lenTo_succ (ls : List Itm) (k : Nat) (h : k < ls.length) : lenTo ls (k + 1) = lenTo ls k + putN ls[k].K ls[k].ds.length := by
  unfold lenTo
  rw [take_snoc' ls k h, putsL_snoc, List.length_append, putL_length]
theorem froms_snoc (ls : List Itm) (k : Nat) : froms ls (k + 1) = froms ls k ++ [(lenTo ls k : Int)] := by
  simp [froms, List.range_succ]

theorem own_later {w W : World} {base e size n : Nat} {v : Value} {xs : List Value} (h : w.ownsRow base e size v n xs) (hb : Below w.heap.size w W) : W.ownsRow base e size v n xs := by
  obtain ⟨h1, h2⟩ := h
  refine ⟨h1, ?_⟩
  rcases h2 with h2 | ⟨g, cap, cur, hv, hg, hh, r⟩
  · exact Or.inl h2
  · exact Or.inr ⟨g, cap, cur, hv, hg, (hb.block _ (lt_of_block hh)).trans hh, r⟩
theorem own_apart {w : World} {b1 b2 e1 e2 s1 s2 n1 n2 : Nat} {v1 v2 : Value} {x1 x2 : List Value} (h1 : w.ownsRow b1 e1 s1 v1 n1 x1) (h2 : w.ownsRow b2 e2 s2 v2 n2 x2) (hne : e1 ≠ e2) : v1.ownBlock = none ∨ v1.ownBlock ≠ v2.ownBlock := by
  rcases h1.2 with ⟨rfl, _⟩ | ⟨g1, c1, u1, rfl, _, hg1, _⟩
  · exact .inl rfl
  · right
    rcases h2.2 with ⟨rfl, _⟩ | ⟨g2, c2, u2, rfl, _, hg2, _⟩
    · simp [Value.ownBlock]
    · simp only [Value.ownBlock, ne_eq, Option.some.injEq]
      rintro rfl
      rw [hg1] at hg2
      simp at hg2
      exact hne hg2.2
/-- The cells of the k-th field of a row. -/
theorem flat_cell {w : World} {base g n c : Nat} {ls : List Itm} (h : w.ownsRow base 32 4 (.slice (some ⟨g, 0, none⟩) n c) n (flat ls)) (k j : Nat) (hk : k < ls.length) (v : Value) (hv : (ls[k]).cells[j]? = some v) : w.cell? ⟨g, k * 4 + j, none⟩ = some v := by
  have hj : j < 4 := by
    have := (List.getElem?_eq_some_iff.1 hv).1
    simpa [Itm.cells] using this
  have hl : (flat ls).length = n * 4 := h.1
  rw [flat_length] at hl
  rw [h.cellAt _ (by omega)]
  have : ∀ (ls : List Itm) (k : Nat) (hk : k < ls.length), (ls[k]).cells[j]? = some v → (flat ls)[k * 4 + j]? = some v := by
    intro ls
    induction ls with
    | nil => intro k hk; simp at hk
    | cons x ls ih =>
      intro k hk hv
      have e : flat (x :: ls) = x.cells ++ flat ls := rfl
      rw [e]
      cases k with
      | zero => rw [List.getElem?_append_left (by simp [Itm.cells]; omega)]; simpa using hv
      | succ k =>
        rw [List.getElem?_append_right (by simp [Itm.cells]; omega)]
        have := ih k (by simpa using hk) (by simpa using hv)
        rw [← this]
        congr 1
        simp [Itm.cells]; omega
  exact this ls k hk hv

set_option maxHeartbeats 1000000 in
theorem all_pos (base g c : Nat) (ls : List Itm) (w : World) (hown : w.ownsRow base 32 4 (.slice (some ⟨g, 0, none⟩) ls.length c) ls.length (flat ls)) (hls : ls.length ≤ 200) (hgood : ∀ x ∈ ls, Good x ∧ Came w x) :
    Calls Tryd.prog 26 #[.slice (some ⟨g, 0, none⟩) ls.length c] w fun e w' => ∃ ab cb vf, e = .returned (.tuple #[.slice ab (putsL ls).length cb, vf]) ∧ w'.ownsRow w.heap.size 5 1 (.slice ab (putsL ls).length cb) (putsL ls).length ((putsL ls).map (Value.int .u8)) ∧
      w'.ownsRow w.heap.size 3 1 vf ls.length ((froms ls ls.length).map (Value.int .i64)) ∧ Below w.heap.size w w' := by
  obtain ⟨i0, hi, hz0, hz1, hz2⟩ := info_parts Tryd.info3
  have hlsi : (ls.length : Int) ≤ 200 := by omega
  have hbig : ∀ k, lenTo ls k ≤ 209716800 := fun k => by
    have h1 := putsL_le (ls.take k) (fun x hx => by
      have := hgood x (List.mem_of_mem_take hx)
      rw [this.2.lies.hlen]; exact this.1.d20)
    have h2 : (ls.take k).length ≤ 200 := by simp; omega
    unfold lenTo
    omega
  go_enter Tryd.func26, Tryd.ntmps26
  go_wp2
  go_loopw [4, 5, 6] (fun vb vf i wr => ∃ (k : Nat) (ab : Option Addr) (cb : Nat), k ≤ ls.length ∧ i = .int .i64 k ∧ vb = .slice ab (lenTo ls k) cb ∧ wr.ownsRow w.heap.size 5 1 (.slice ab (lenTo ls k) cb) (lenTo ls k) ((putsL (ls.take k)).map (Value.int .u8)) ∧
      wr.ownsRow w.heap.size 3 1 vf k ((froms ls k).map (Value.int .i64)) ∧ Below w.heap.size w wr) (fun _ _ i _ => ls.length - (intOf i).toNat)
  case atStart => exact ⟨0, none, 0, Nat.zero_le _, rfl, rfl, World.ownsRow_nil _ _ _ _, World.ownsRow_nil _ _ _ _, Below.refl _ _⟩
  case round =>
    obtain ⟨k, ab, cb, hk, rfl, rfl, hob, hof, hb⟩ := hrel
    by_cases hlt : k < ls.length
    · have hlk := hbig k
      have hlki : (lenTo ls k : Int) ≤ 209716800 := by omega
      have hx := hgood ls[k] (List.getElem_mem hlt)
      have p0 := flat_cell hown k 0 hlt _ rfl
      have p1 := flat_cell hown k 1 hlt _ rfl
      have p2 := flat_cell hown k 2 hlt _ rfl
      have p3 := flat_cell hown k 3 hlt _ rfl
      simp only [Nat.add_zero] at p0
      have hS := lenTo_succ ls k hlt
      have hT : putsL (ls.take (k + 1)) = putsL (ls.take k) ++ putL ls[k].K ls[k].X ls[k].S ls[k].ds := by rw [take_snoc' ls k hlt, putsL_snoc]
      have hF := froms_snoc ls k
      generalize ls[k] = x at hx p0 p1 p2 p3 hS hT
      have HS : Hid (lenTo ls (k + 1) = lenTo ls k + putN x.K x.ds.length) := hS
      have HT : Hid (putsL (ls.take (k + 1)) = putsL (ls.take k) ++ putL x.K x.X x.S x.ds) := hT
      have HF : Hid (froms ls (k + 1) = froms ls k ++ [(lenTo ls k : Int)]) := hF
      have hl1 := hbig (k + 1)
      clear hS hT hF hbig
      go_wp2_with (at_builtin; refine wpList_append_own _ rfl (.tmp 13) (.tmp 16) 28 rfl w.heap.size 3 i0 (.int .i64 0) 1 8 Tryd.underlying28 hi hz0 hz1 hz2 rfl (by decide) _ _ _ rfl (hof.alloc _) ⟨wr.heap.size, 0, none⟩ 1 1 [.int .i64 (lenTo ls k)] rfl rfl (cell_one_new _ _ _) (by intro u hu; simp at hu; subst hu; rfl) (by unfold maxLen; omega) (by omega) (by have := hb.size; simp; omega) ?_; intro vf' w1 hof1 hgrow1 hnil1; have hb1 : Below w.heap.size w w1 := (hb.alloc hb.size _).grown hgrow1 (by simp; have := hb.size; omega) (fun k hk => (hof.lt k hk).1); have q0 := cell_later hb1 p0; have q1 := cell_later hb1 p1; have q2 := cell_later hb1 p2; have q3 := cell_later hb1 p3)
      have hob1 := (hob.alloc _).kept hgrow1 (own_apart hob hof (by decide))
      have hP := put_any ab (lenTo ls k) cb (putsL (ls.take k)) x.K x.X x.S x.bo x.dl x.dc x.ds w1 hx.2.s0 hx.2.s1 (by have := hx.1.d20; omega) (Lies.owned hob1) (hx.2.lies.below hb1 (Nat.le_refl _)) hx.2.small
      rw [← HT.out] at hP
      have e1 : lenTo ls k + putN x.K x.dl = lenTo ls (k + 1) := by rw [HS.out, hx.2.lies.hlen]
      rw [e1] at hP
      clear e1 q0 q1 q2 q3
      refine hP.mono ?_
      rintro e w2 ⟨a2, c2, rfl, ho2, hb2⟩
      have hb02 := hb1.trans (hb2.mono hb1.size)
      have hof2 := own_later hof1 hb2
      have ho2' := ownsRow_mono ho2 hb1.size
      clear hP hof1 hgrow1 hnil1 hob1 ho2 hb2
      go_wp2
      go_roundw
      case rel => exact ⟨k + 1, a2, c2, by omega, by go_num, rfl, ho2', by rw [HF.out]; simpa using hof2, hb02⟩
      case measure => simp [intOf]; omega
    · clear hbig
      go_wp2
      go_ret2
      obtain rfl : k = ls.length := by omega
      have e1 : lenTo ls ls.length = (putsL ls).length := by unfold lenTo; rw [List.take_length]
      rw [List.take_length, e1] at hob
      refine ⟨ab, cb, _, ?_, hob, hof, hb⟩
      rw [← e1]; rfl

set_option maxHeartbeats 400000 in
theorem all_zero (ao : Option Addr) (cap : Nat) (w : World) :
    Calls Tryd.prog 26 #[.slice ao 0 cap] w fun e w' => e = .returned (.tuple #[.slice none 0 0, .slice none 0 0]) ∧ w' = w := by
  go_enter Tryd.func26, Tryd.ntmps26
  go_wp2
  refine wp_loop_rounds 1 ?_
  rw [rounds_succ]
  go_wp2
  go_ret2
  exact ⟨rfl, rfl⟩

/-- fit, of whatever slice of fields. -/
theorem fit_any (ao : Option Addr) (n cap : Nat) (xs : List Itm) (w : World) (hn : n ≤ 140737488351232) (hl : xs.length = n) (hnone : ao = none → n = 0)
    (hc : ∀ b o, ao = some ⟨b, o, none⟩ → ∀ i (h : i < n) j v, (xs[i]'(by omega)).cells[j]? = some v → w.cell? ⟨b, o + i * 4 + j, none⟩ = some v) (hsp : 0 < n → ∃ b o, ao = some ⟨b, o, none⟩) (hcame : ∀ x ∈ xs, Came w x) :
    Calls Tryd.prog 25 #[.slice ao n cap] w fun e w' => ∃ v ls, e = .returned v ∧ w'.ownsRow w.heap.size 32 4 v ls.length (flat ls) ∧ ls.length ≤ 200 ∧ (∀ x ∈ ls, Good x ∧ Came w x) ∧ Below w.heap.size w w' := by
  by_cases h0 : 0 < n
  · obtain ⟨b, o, rfl⟩ := hsp h0
    exact fit_pos b o n cap xs w hn hl (hc b o rfl) hcame
  · obtain rfl : n = 0 := by omega
    refine (fit_zero ao cap w).mono ?_
    rintro e w' ⟨rfl, rfl⟩
    exact ⟨_, [], rfl, World.ownsRow_nil _ _ _ _, by simp, by simp, Below.refl _ _⟩

/-- all, of fitted fields. -/
theorem all_any (base : Nat) (v : Value) (ls : List Itm) (w : World) (hown : w.ownsRow base 32 4 v ls.length (flat ls)) (hls : ls.length ≤ 200) (hgood : ∀ x ∈ ls, Good x ∧ Came w x) :
    Calls Tryd.prog 26 #[v] w fun e w' => ∃ ab cb vf, e = .returned (.tuple #[.slice ab (putsL ls).length cb, vf]) ∧ w'.ownsRow w.heap.size 5 1 (.slice ab (putsL ls).length cb) (putsL ls).length ((putsL ls).map (Value.int .u8)) ∧
      w'.ownsRow w.heap.size 3 1 vf ls.length ((froms ls ls.length).map (Value.int .i64)) ∧ Below w.heap.size w w' := by
  rcases hown.2 with ⟨rfl, h0⟩ | ⟨g, c, cur, rfl, r⟩
  · obtain rfl := List.eq_nil_of_length_eq_zero h0
    refine (all_zero none 0 w).mono ?_
    rintro e w' ⟨rfl, rfl⟩
    exact ⟨none, 0, _, rfl, World.ownsRow_nil _ _ _ _, World.ownsRow_nil _ _ _ _, Below.refl _ _⟩
  · exact all_pos base g c ls w hown hls hgood
end Go.Proofs.YtjpaooejkbkliaaDoor
