/- sink and settle of a heap whose keys are bytes, by their contracts. -/
import Derived.Test.YtbopghpfghaoeaaH5u
namespace Go.Proofs.Ytbopghpfghaoeaa
open Go.RowKit Go.Maps
set_option maxRecDepth 100000
attribute [local go_sem ↓] Go.wp_at_zero Go.wp_at_succ
/-- What sink leaves. -/
def SnkU (w w' : World) (lab : Nat → Nat) (k hb bm : Nat) (rv : Value) (g : Nat) (x : Int × Int) (M : List (Int × Int)) (j : Nat) : Prop := ∃ l, GpU w' lab k hb bm rv g x M l j ∧ Hp OU (l.set j x) ∧ Turns (Fb bm rv) w w'
theorem GpU.hil {w : World} {lab : Nat → Nat} {k hb bm g : Nat} {rv : Value} {x : Int × Int} {M l : List (Int × Int)} {i : Nat} (h : GpU w lab k hb bm rv g x M l i) : i < l.length := by
  obtain ⟨D, f, h1, h2, h3, h4⟩ := h
  exact h2.hi
set_option maxHeartbeats 2000000 in
theorem sink_U {w : World} {lab : Nat → Nat} {k hb bm g : Nat} {rv : Value} {x : Int × Int} {M l : List (Int × Int)} {i : Nat} (h : GpU w lab k hb bm rv g x M l i) (hup : 0 < i → ∀ y, l[(i - 1) / 2]? = some y → ah OU x y = false) :
    Calls Try.prog 73 #[.pointer (some ⟨hb, 0, none⟩), .int .i64 i, .agg #[.int .u8 x.1, .int .i64 x.2]] w fun e w' => ∃ j : Nat, e = .returned (.int .i64 j) ∧ SnkU w w' lab k hb bm rv g x M j := by
  obtain ⟨gr, cap, hrv, hcap, hlb, hlg, hlm⟩ := h.shape
  subst hrv
  obtain ⟨N, hN⟩ : ∃ N, M.length = N := ⟨_, rfl⟩
  rw [hN] at h hcap
  have HN : Hid (M.length = N) := hN
  rw [hN]
  clear hN
  obtain ⟨W, hW⟩ : ∃ W, w.alloc (.cells #[.int .u8 x.1, .int .i64 x.2] 129) = W := ⟨_, rfl⟩
  have z0 : W.cell? ⟨w.heap.size, 0, none⟩ = some (.int .u8 x.1) := by rw [← hW]; simp only [World.cell?]; rw [heap_alloc_new]; rfl
  have z1 : W.cell? ⟨w.heap.size, 1, none⟩ = some (.int .i64 x.2) := by rw [← hW]; simp only [World.cell?]; rw [heap_alloc_new]; rfl
  have bW : Below w.heap.size w W := by rw [← hW]; exact (Below.refl _ w).alloc (Nat.le_refl _) _
  have hG := h.below bW
  have tW : Turns (Fb bm (.slice (some ⟨gr, 0, none⟩) N cap)) w W := Below.turns bW _
  have hWs := bW.size
  have hxb := World.block_lt_of_cell? W _ z0
  have HX := fb_newU (n := N) (cap := cap) hlm hlg (Nat.le_refl w.heap.size)
  have HU : Hid (0 < i → ∀ y, l[(i - 1) / 2]? = some y → ah OU x y = false) := hup
  clear h bW hup
  go_enter Try.func73, Try.ntmps73
  go_wp2_with (go_at_call 76; refine (gap_belowU hG).mono ?_; rintro e wB ⟨c, rfl, hB, bB⟩)
  have hGB := hG.below bB
  have tB : Turns (Fb bm (.slice (some ⟨gr, 0, none⟩) N cap)) W wB := Below.turns bB _
  have HBel : Hid (BelU l i c) := hB
  clear hG hB
  go_loopw [1, 7] (fun v u wr => ∃ (j c : Nat) (l : List (Int × Int)), v = .int .i64 j ∧ u = .int .i64 c ∧ GpU wr lab k hb bm (.slice (some ⟨gr, 0, none⟩) N cap) g x M l j ∧ Hid (BelU l j c) ∧ Hid (0 < j → ∀ y, l[(j - 1) / 2]? = some y → ah OU x y = false) ∧ Turns (Fb bm (.slice (some ⟨gr, 0, none⟩) N cap)) W wr) (fun v _ _ => N - (intOf v).toNat)
  case atStart => exact ⟨i, c, l, rfl, rfl, hGB, HBel, HU, tB⟩
  case round =>
    clear hGB HBel HU tB bB
    obtain ⟨j, c, l, rfl, rfl, hG, HBel, HU, tr⟩ := hrel
    obtain ⟨hl, hj, hM⟩ := hG.len
    rw [HN.out] at hl hj hM
    have y0 := (World.cell?_of_block (w := W) (a := ⟨w.heap.size, 0, none⟩) (tr.block _ hxb HX)).trans z0
    have y1 := (World.cell?_of_block (w := W) (a := ⟨w.heap.size, 1, none⟩) (tr.block _ hxb HX)).trans z1
    clear z0 z1
    by_cases hp : c < N
    · obtain ⟨hc0, hcj, hbest⟩ : 0 < c ∧ (c - 1) / 2 = j ∧ ∀ (j' : Nat) x y, 0 < j' → (j' - 1) / 2 = j → l[j']? = some x → l[c]? = some y → ah OU x y = false := by
        rcases HBel.out with q | q
        · omega
        · exact q.2
      have HBest : Hid (∀ (j' : Nat) x y, 0 < j' → (j' - 1) / 2 = j → l[j']? = some x → l[c]? = some y → ah OU x y = false) := hbest
      obtain ⟨y, hy⟩ : ∃ y, l[c]? = some y := ⟨_, List.getElem?_eq_getElem (by omega)⟩
      obtain ⟨c0, c2, u0, u1⟩ := hG.cells hy
      have HG : Hid (GpU wr lab k hb bm (.slice (some ⟨gr, 0, none⟩) N cap) g x M l j) := hG
      have HY : Hid (l[c]? = some y) := hy
      have HP : Hid ((c - 1) / 2 = j) := hcj
      have hcj2 : j < c := by omega
      have a1 : (c : Int) < N := by omega
      have a2 : decide ((c : Int) < N) = true := decide_eq_true a1
      have a4 : (0 : Int) ≤ c := by omega
      have a5 : (N : Int) ≤ cap := by omega
      have hlb2 : hb < wr.heap.size := World.block_lt_of_cell? wr _ c0
      have hlg2 : gr < wr.heap.size := World.block_lt_of_cell? wr _ u0
      have hxb2 : w.heap.size < wr.heap.size := World.block_lt_of_cell? wr _ y0
      clear hG hy hcj hbest HBel
      go_wp2_with fail
      go_region_held3 (fun w' => w'.cell? ⟨hb, 0, none⟩ = some (.slice (some ⟨gr, 0, none⟩) N cap) ∧ w'.cell? ⟨hb, 2, none⟩ = some (.func (.func 57) #[] #[]) ∧ w'.cell? ⟨gr, c * 2, none⟩ = some (.int .u8 y.1) ∧ w'.cell? ⟨gr, c * 2 + 1, none⟩ = some (.int .i64 y.2) ∧ w'.cell? ⟨w.heap.size, 0, none⟩ = some (.int .u8 x.1) ∧ w'.cell? ⟨w.heap.size, 1, none⟩ = some (.int .i64 x.2))
        (first | exact ⟨c0, c2, u0, u1, y0, y1⟩ | exact ⟨q0, q1, q2, q3, q4, q5⟩)
        (first
          | (go_at_call 57; refine (ahead_U y x _).mono ?_; rintro e wA ⟨rfl, bA⟩; have q0 := (bA.cell (p := ⟨hb, 0, none⟩) hlb2).trans c0; have q1 := (bA.cell (p := ⟨hb, 2, none⟩) hlb2).trans c2; have q2 := (bA.cell (p := ⟨gr, c * 2, none⟩) hlg2).trans u0; have q3 := (bA.cell (p := ⟨gr, c * 2 + 1, none⟩) hlg2).trans u1; have q4 := (bA.cell (p := ⟨w.heap.size, 0, none⟩) hxb2).trans y0; have q5 := (bA.cell (p := ⟨w.heap.size, 1, none⟩) hxb2).trans y1))
      have bA : Below wr.heap.size wr wA := (below_drewN wr 1).trans bA
      have GA := HG.out.below bA
      have tA := tr.trans (Below.turns bA (Fb bm (.slice (some ⟨gr, 0, none⟩) N cap))) (fun _ _ q => q)
      have HL : Hid (l.length = N) := hl
      clear q0 q1 q2 q3 q4 q5 c0 c2 u0 u1 HG bA tr hl y0 y1
      cases e : ah OU y x
      · go_wp2_with fail
        go_ret
        refine ⟨j, rfl, l, GA, GA.hpg.done GA.hil x HU.out (fun j' z hj' hz hlz => le_tr _ e (HBest.out j' z y hj' hz hlz HY.out)), tW.trans tA (fun _ _ q => q)⟩
      · obtain ⟨c0, c2, u0, u1⟩ := GA.cells HY.out
        have HLay : Hid (Calls Try.prog 74 #[.pointer (some ⟨hb, 0, none⟩), .int .i64 j, .agg #[.int .u8 y.1, .int .i64 y.2]] wA fun e w'' => e = .returned (.tuple #[]) ∧ GpU w'' lab k hb bm (.slice (some ⟨gr, 0, none⟩) N cap) g x M (l.set j y) c ∧ Turns (Fb bm (.slice (some ⟨gr, 0, none⟩) N cap)) wA w'') := gap_layU GA (q := c) (by omega) HY.out (GA.hpg.sink GA.hil hc0 HP.out HY.out (fun j' z h1 h2 h3 => HBest.out j' z y h1 h2 h3 HY.out))
        have HU2 : Hid (0 < c → ∀ z, (l.set j y)[(c - 1) / 2]? = some z → ah OU x z = false) := fun _ z hz => by
          rw [HP.out, List.getElem?_set, if_pos rfl, if_pos (by rw [HL.out]; exact hj)] at hz
          cases hz
          exact ah_as _ e
        clear GA HL HU
        go_wp2_with (first
          | (go_at_call 74; refine HLay.out.mono ?_; rintro e wL ⟨rfl, GL, tL⟩)
          | (go_at_call 76; refine (gap_belowU GL).mono ?_; rintro e wC ⟨c', rfl, hC, bC⟩))
        have tR := (tA.trans tL (fun _ _ q => q)).trans (Below.turns bC (Fb bm (.slice (some ⟨gr, 0, none⟩) N cap))) (fun _ _ q => q)
        have GR := GL.below bC
        have HC : Hid (BelU (l.set j y) c c') := hC
        clear c0 c2 u0 u1 HLay hC tL tA GL
        go_roundw
        case rel => exact ⟨c, c', _, rfl, rfl, GR, HC, HU2, tR⟩
        case measure => simp [intOf]; omega
    · have a2 : decide ((c : Int) < N) = false := decide_eq_false (by omega)
      have HD : Hid (∀ (j' : Nat) z, 0 < j' → (j' - 1) / 2 = j → l[j']? = some z → ah OU z x = false) := fun j' z h1 h2 h3 => by
        have := (List.getElem?_eq_some_iff.1 h3).1
        rcases HBel.out with q | q
        · omega
        · omega
      obtain ⟨c0, c2, u0, u1⟩ := hG.cells (List.getElem?_eq_getElem hG.hil)
      have HG : Hid (GpU wr lab k hb bm (.slice (some ⟨gr, 0, none⟩) N cap) g x M l j) := hG
      clear u0 u1 hG HBel
      go_wp2_with fail
      go_region
      go_wp2_with fail
      go_ret
      exact ⟨j, rfl, l, HG.out.below (below_drewN wr 1), HG.out.hpg.done HG.out.hil x HU.out HD.out, tW.trans (tr.trans (Turns.drewN (fun _ => False) wr 1) (fun _ _ q => q.elim)) (fun _ _ q => q)⟩
/-- settle: x is laid where it belongs. -/
theorem settle_U {w : World} {lab : Nat → Nat} {k hb bm g : Nat} {rv : Value} {x : Int × Int} {M l : List (Int × Int)} {i : Nat} (h : GpU w lab k hb bm rv g x M l i) (hx : KU.ok x.1) :
    Calls Try.prog 66 #[.pointer (some ⟨hb, 0, none⟩), .int .i64 i, .agg #[.int .u8 x.1, .int .i64 x.2]] w fun e w' => e = .returned (.tuple #[]) ∧ (∃ l', FlU w' lab k hb bm rv g l' ∧ l'.Perm M) ∧ Turns (Fb bm rv) w w' := by
  obtain ⟨gr, cap, hrv, hcap, hlb, hlg, hlm⟩ := h.shape
  subst hrv
  obtain ⟨W, hW⟩ : ∃ W, w.alloc (.cells #[.int .u8 x.1, .int .i64 x.2] 129) = W := ⟨_, rfl⟩
  have z0 : W.cell? ⟨w.heap.size, 0, none⟩ = some (.int .u8 x.1) := by rw [← hW]; simp only [World.cell?]; rw [heap_alloc_new]; rfl
  have z1 : W.cell? ⟨w.heap.size, 1, none⟩ = some (.int .i64 x.2) := by rw [← hW]; simp only [World.cell?]; rw [heap_alloc_new]; rfl
  have bW : Below w.heap.size w W := by rw [← hW]; exact (Below.refl _ w).alloc (Nat.le_refl _) _
  have hG := h.below bW
  have tW : Turns (Fb bm (.slice (some ⟨gr, 0, none⟩) M.length cap)) w W := Below.turns bW _
  have hxb := World.block_lt_of_cell? W _ z0
  have HX := fb_newU (n := M.length) (cap := cap) hlm hlg (Nat.le_refl w.heap.size)
  clear h bW
  go_enter Try.func66, Try.ntmps66
  go_wp2_with fail
  refine (rise_U hG).mono ?_
  rintro e w1 ⟨j, rfl, l1, G1, u1, t1⟩
  have y0 := (World.cell?_of_block (w := W) (a := ⟨w.heap.size, 0, none⟩) (t1.block _ hxb HX)).trans z0
  have y1 := (World.cell?_of_block (w := W) (a := ⟨w.heap.size, 1, none⟩) (t1.block _ hxb HX)).trans z1
  have hxb1 := World.block_lt_of_cell? w1 _ y0
  clear hG z0 z1
  go_wp2_with fail
  refine (sink_U G1 u1).mono ?_
  rintro e w2 ⟨j2, rfl, l2, G2, u2, t2⟩
  have x0 := (World.cell?_of_block (w := w1) (a := ⟨w.heap.size, 0, none⟩) (t2.block _ hxb1 HX)).trans y0
  have x1 := (World.cell?_of_block (w := w1) (a := ⟨w.heap.size, 1, none⟩) (t2.block _ hxb1 HX)).trans y1
  clear G1 y0 y1
  go_wp2_with fail
  refine (gap_doneU G2 hx u2).mono ?_
  rintro e w3 ⟨rfl, h3, t3⟩
  go_wp2_with fail
  first | go_end0 | refine bodyPost_ret (results_none rfl _ _ _) rfl ?_
  exact ⟨rfl, h3, ((tW.trans t1 (fun _ _ q => q)).trans t2 (fun _ _ q => q)).trans t3 (fun _ _ q => q)⟩
end Go.Proofs.Ytbopghpfghaoeaa
