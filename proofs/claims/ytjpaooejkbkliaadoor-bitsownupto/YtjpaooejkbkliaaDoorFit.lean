/- Fields in memory, and annexlaw1.fit by its contract. -/
import Derived.Test.YtjpaooejkbkliaaDoorOneMid
namespace Go.Proofs.YtjpaooejkbkliaaDoor
open Go.RowKit
set_option maxRecDepth 100000

/-- A field of the statements: kind, number, sum, and its bytes, with where they lie. -/
structure Itm where
  K : Int
  X : Int
  S : Int
  bo : Option Addr
  dl : Nat
  dc : Nat
  ds : List Int
def Itm.cells (x : Itm) : List Value := [.int .i64 x.K, .int .i64 x.X, .int .u64 x.S, .slice x.bo x.dl x.dc]
def flat (ls : List Itm) : List Value := ls.flatMap Itm.cells
theorem flat_length (ls : List Itm) : (flat ls).length = ls.length * 4 := by
  induction ls with
  | nil => rfl
  | cons x ls ih =>
    have : flat (x :: ls) = x.cells ++ flat ls := rfl
    rw [this, List.length_append, ih, List.length_cons]
    simp [Itm.cells]; omega

/-- A field as it may come in. -/
structure Came (w : World) (x : Itm) : Prop where
  lies : Lies w x.bo x.dl x.dc x.ds
  small : ∀ y ∈ x.ds, 0 ≤ y ∧ y ≤ 255
  s0 : 0 ≤ x.S
  s1 : x.S ≤ 18446744073709551615
  x1 : x.X ≤ 9223372036854775807
theorem Came.below {B : Nat} {w w' : World} {x : Itm} (h : Came w x) (hb : Below B w w') (hB : w.heap.size ≤ B) : Came w' x := ⟨h.lies.below hb hB, h.small, h.s0, h.s1, h.x1⟩

/-- A field that can be read back as it is. -/
structure Good (x : Itm) : Prop where
  k1 : 1 ≤ x.K
  k5 : x.K ≤ 5
  x0 : 0 ≤ x.X
  x32 : x.K = 1 → x.X ≤ 4294967295
  d20 : x.dl ≤ 1048576

theorem Tryd.info32 : (Tryd.prog.info? 32).map (fun i => (i.zero, i.size, i.bytes)) = some (some (.agg #[.int .i64 0, .int .i64 0, .int .u64 0, .slice none 0 0]), 4, 48) := by kernel_rfl

theorem cells_new (W : World) (C : Array Value) (t : TypeId) (k : Nat) (hk : k = W.heap.size) : ∀ j u, C.toList[j]? = some u → (W.alloc (.cells C t)).cell? ((⟨k, 0, none⟩ : Addr).add j) = some u := by
  intro j u hu
  rw [Addr.add_lit, Nat.zero_add, World.cell?_alloc_at _ _ _ _ hk]
  simpa using hu
theorem Itm.one (x : Itm) : ∀ u ∈ x.cells, u.oneCell' = true := by
  intro u hu
  simp [Itm.cells] at hu
  rcases hu with rfl | rfl | rfl | rfl <;> rfl
theorem fit_step {w wn : World} {ls : List Itm} {y : Itm} {v' : Value} (hgood : ∀ x ∈ ls, Good x ∧ Came w x) (hy : Good y ∧ Came w y) (h1 : wn.ownsRow w.heap.size 32 4 v' (ls.length + 1) (flat ls ++ y.cells)) :
    ∃ av c, v' = .slice av (ls ++ [y]).length c ∧ wn.ownsRow w.heap.size 32 4 (.slice av (ls ++ [y]).length c) (ls ++ [y]).length (flat (ls ++ [y])) ∧ ∀ x ∈ ls ++ [y], Good x ∧ Came w x := by
  have e : (ls ++ [y]).length = ls.length + 1 := by simp
  have e2 : flat (ls ++ [y]) = flat ls ++ y.cells := by simp [flat]
  have hall : ∀ x ∈ ls ++ [y], Good x ∧ Came w x := by
    intro x hx
    rcases List.mem_append.1 hx with h | h
    · exact hgood x h
    · simp at h; subst h; exact hy
  rw [e, e2]
  rcases h1.2 with ⟨hv, h0⟩ | ⟨g, cap, cur, hv, r⟩
  · omega
  · subst hv
    exact ⟨_, _, rfl, h1, hall⟩
theorem flat_snoc (ls : List Itm) (x : Itm) : flat (ls ++ [x]) = flat ls ++ x.cells := by simp [flat]

set_option maxHeartbeats 1000000 in
theorem fit_pos (b o n cap : Nat) (xs : List Itm) (w : World) (hn : n ≤ 140737488351232) (hl : xs.length = n)
    (hc : ∀ i (h : i < n) j v, (xs[i]'(by omega)).cells[j]? = some v → w.cell? ⟨b, o + i * 4 + j, none⟩ = some v) (hcame : ∀ x ∈ xs, Came w x) :
    Calls Tryd.prog 25 #[.slice (some ⟨b, o, none⟩) n cap] w fun e w' => ∃ v ls, e = .returned v ∧ w'.ownsRow w.heap.size 32 4 v ls.length (flat ls) ∧ ls.length ≤ 200 ∧ (∀ x ∈ ls, Good x ∧ Came w x) ∧ Below w.heap.size w w' := by
  obtain ⟨i0, hi, hz0, hz1, hz2⟩ := info_parts Tryd.info32
  have hni : (n : Int) ≤ 140737488351232 := by omega
  go_enter Tryd.func25, Tryd.ntmps25
  go_wp2
  go_loopw [3, 4] (fun v i wr => ∃ (k : Nat) (ls : List Itm) (av : Option Addr) (c : Nat), k ≤ n ∧ i = .int .i64 k ∧ v = .slice av ls.length c ∧ wr.ownsRow w.heap.size 32 4 (.slice av ls.length c) ls.length (flat ls) ∧ ls.length ≤ 200 ∧ (∀ x ∈ ls, Good x ∧ Came w x) ∧ Below w.heap.size w wr) (fun _ i _ => n - (intOf i).toNat)
  case atStart => exact ⟨0, [], none, 0, Nat.zero_le _, rfl, rfl, World.ownsRow_nil _ _ _ _, by simp, by simp, Below.refl _ _⟩
  case round =>
    obtain ⟨k, ls, av, c, hk, rfl, rfl, hown, hls, hgood, hb⟩ := hrel
    by_cases hlt : k < n ∧ ls.length < 200
    · obtain ⟨hlt, hl2⟩ := hlt
      have hki : decide ((k : Int) < (n : Int)) = true := by simpa using hlt
      have hl2i : decide ((ls.length : Int) < 200) = true := by simp; omega
      obtain ⟨x, hx⟩ : ∃ x, x = xs[k]'(by omega) := ⟨_, rfl⟩
      have hxin : x ∈ xs := by rw [hx]; exact List.getElem_mem _
      have hcx := hcame x hxin
      have q0 := cell_later hb (hc k hlt 0 (.int .i64 x.K) (by rw [← hx]; rfl))
      have q1 := cell_later hb (hc k hlt 1 (.int .i64 x.X) (by rw [← hx]; rfl))
      have q2 := cell_later hb (hc k hlt 2 (.int .u64 x.S) (by rw [← hx]; rfl))
      have q3 := cell_later hb (hc k hlt 3 (.slice x.bo x.dl x.dc) (by rw [← hx]; rfl))
      clear hc hx
      simp only [Nat.add_zero] at q0
      have step := fun (v' : Value) (wn : World) (y : Itm) (hy : Good y ∧ Came w y) (h1 : wn.ownsRow w.heap.size 32 4 v' (ls.length + 1) (flat ls ++ y.cells)) => fit_step hgood hy h1
      by_cases h1 : x.K < 1
      · go_wp2
        go_roundw
        case rel => exact ⟨k + 1, ls, av, c, by omega, by go_num, rfl, hown.alloc _, hls, hgood, hb.alloc hb.size _⟩
        case measure => simp [intOf]; omega
      by_cases h2 : 5 < x.K
      · go_wp2
        go_roundw
        case rel => exact ⟨k + 1, ls, av, c, by omega, by go_num, rfl, hown.alloc _, hls, hgood, hb.alloc hb.size _⟩
        case measure => simp [intOf]; omega
      by_cases h3 : x.X < 0
      · go_wp2
        go_roundw
        case rel => exact ⟨k + 1, ls, av, c, by omega, by go_num, rfl, hown.alloc _, hls, hgood, hb.alloc hb.size _⟩
        case measure => simp [intOf]; omega
      by_cases h4 : 1048576 < x.dl
      · go_wp2
        go_roundw
        case rel => exact ⟨k + 1, ls, av, c, by omega, by go_num, rfl, hown.alloc _, hls, hgood, hb.alloc hb.size _⟩
        case measure => simp [intOf]; omega
      have hK1 : 1 ≤ x.K := by omega
      have hK5 : x.K ≤ 5 := by omega
      have hX0 : 0 ≤ x.X := by omega
      have hX1 := hcx.x1
      have hd : x.dl ≤ 1048576 := by omega
      clear h1 h2 h3 h4 step
      by_cases hKK : x.K = 1
      · have hy : Good { x with X := x.X % 4294967296 } ∧ Came w { x with X := x.X % 4294967296 } := ⟨⟨hK1, hK5, by simp only; omega, fun _ => by simp only; omega, hd⟩, ⟨hcx.lies, hcx.small, hcx.s0, hcx.s1, by simp only; omega⟩⟩
        have hKb : (x.K == 1) = true := by simpa using hKK
        clear hKK hcx
        go_wp2_with (at_builtin; refine wpList_append_own _ rfl (.tmp 47) (.tmp 49) 45 rfl w.heap.size 32 i0 (.agg #[.int .i64 0, .int .i64 0, .int .u64 0, .slice none 0 0]) 4 48 Tryd.underlying45 hi hz0 hz1 hz2 rfl (by decide) _ _ _ rfl ((hown.alloc _).alloc _) ⟨wr.heap.size + 1, 0, none⟩ 1 1 ({ x with X := x.X % 4294967296 } : Itm).cells rfl rfl (cells_new _ _ 32 _ (by simp)) (Itm.one _) (by unfold maxLen; omega) (by omega) (by have := hb.size; simp; omega) ?_; intro v' w1 hown1 hgrow1 hnil1)
        obtain ⟨av', c', rfl, ho', hg'⟩ := fit_step hgood hy hown1
        have hbn : Below w.heap.size w w1 := ((hb.alloc hb.size _).alloc (by simp; have := hb.size; omega) _).grown hgrow1 (by simp; have := hb.size; omega) (fun k hk => (hown.lt k hk).1)
        go_roundw
        case rel => exact ⟨k + 1, ls ++ [({ x with X := x.X % 4294967296 } : Itm)], av', c', by omega, by go_num, rfl, ho', by simp; omega, hg', hbn⟩
        case measure => simp [intOf]; omega
      · have hy : Good x ∧ Came w x := ⟨⟨hK1, hK5, hX0, fun h => absurd h hKK, hd⟩, hcx⟩
        have hKb : (x.K == 1) = false := by simpa using hKK
        clear hKK hcx
        go_wp2_with (at_builtin; refine wpList_append_own _ rfl (.tmp 47) (.tmp 49) 45 rfl w.heap.size 32 i0 (.agg #[.int .i64 0, .int .i64 0, .int .u64 0, .slice none 0 0]) 4 48 Tryd.underlying45 hi hz0 hz1 hz2 rfl (by decide) _ _ _ rfl ((hown.alloc _).alloc _) ⟨wr.heap.size + 1, 0, none⟩ 1 1 (x).cells rfl rfl (cells_new _ _ 32 _ (by simp)) (Itm.one _) (by unfold maxLen; omega) (by omega) (by have := hb.size; simp; omega) ?_; intro v' w1 hown1 hgrow1 hnil1)
        obtain ⟨av', c', rfl, ho', hg'⟩ := fit_step hgood hy hown1
        have hbn : Below w.heap.size w w1 := ((hb.alloc hb.size _).alloc (by simp; have := hb.size; omega) _).grown hgrow1 (by simp; have := hb.size; omega) (fun k hk => (hown.lt k hk).1)
        go_roundw
        case rel => exact ⟨k + 1, ls ++ [x], av', c', by omega, by go_num, rfl, ho', by simp; omega, hg', hbn⟩
        case measure => simp [intOf]; omega
    · by_cases hlk : k < n
      · have hki : decide ((k : Int) < (n : Int)) = true := by simpa using hlk
        have hl2i : decide ((ls.length : Int) < 200) = false := by simp; omega
        clear hc hlt
        go_wp2
        go_ret
        exact ⟨_, ls, rfl, hown, hls, hgood, hb⟩
      · have hki : decide ((k : Int) < (n : Int)) = false := by simp; omega
        clear hc hlt
        go_wp2
        go_ret
        exact ⟨_, ls, rfl, hown, hls, hgood, hb⟩

set_option maxHeartbeats 400000 in
theorem fit_zero (ao : Option Addr) (cap : Nat) (w : World) :
    Calls Tryd.prog 25 #[.slice ao 0 cap] w fun e w' => e = .returned (.slice none 0 0) ∧ w' = w := by
  go_enter Tryd.func25, Tryd.ntmps25
  go_wp2
  refine wp_loop_rounds 1 ?_
  rw [rounds_succ]
  go_wp2
  go_ret
  exact ⟨rfl, rfl⟩
end Go.Proofs.YtjpaooejkbkliaaDoor
