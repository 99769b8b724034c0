/- rise of a heap whose keys are bytes, by its contract. -/
import Derived.Test.YtbopghpfghaoeaaH4u
namespace Go.Proofs.Ytbopghpfghaoeaa
open Go.RowKit Go.Maps
set_option maxRecDepth 100000
attribute [local go_sem ↓] Go.wp_at_zero Go.wp_at_succ
theorem GpU.len {w : World} {lab : Nat → Nat} {k hb bm g : Nat} {rv : Value} {x : Int × Int} {M l : List (Int × Int)} {i : Nat} (h : GpU w lab k hb bm rv g x M l i) : l.length = M.length ∧ i < M.length ∧ M.length ≤ 4398046511104 := by
  obtain ⟨D, f, h1, h2, h3, h4⟩ := h
  have e := h4.length_eq
  rw [List.length_set] at e
  exact ⟨e, by have := h2.hi; omega, by have := h1.hl; omega⟩
theorem GpU.shape {w : World} {lab : Nat → Nat} {k hb bm g : Nat} {rv : Value} {x : Int × Int} {M l : List (Int × Int)} {i : Nat} (h : GpU w lab k hb bm rv g x M l i) : ∃ gr cap, rv = .slice (some ⟨gr, 0, none⟩) M.length cap ∧ M.length ≤ cap ∧ hb < w.heap.size ∧ gr < w.heap.size ∧ bm < w.heap.size := by
  have e := h.len
  obtain ⟨D, f, h1, h2, h3, h4⟩ := h
  obtain ⟨gr, cap, hrv, hcap, x0, _⟩ := h1.at (List.getElem?_eq_getElem h2.hi)
  rw [e.1] at hrv hcap
  exact ⟨gr, cap, hrv, hcap, heap_lt h1.box, World.block_lt_of_cell? w _ x0, h1.map.lt⟩
theorem GpU.cells {w : World} {lab : Nat → Nat} {k hb bm g gr n cap : Nat} {x : Int × Int} {M l : List (Int × Int)} {i : Nat} (h : GpU w lab k hb bm (.slice (some ⟨gr, 0, none⟩) n cap) g x M l i) {p : Nat} {y : Int × Int} (hy : l[p]? = some y) :
    w.cell? ⟨hb, 0, none⟩ = some (.slice (some ⟨gr, 0, none⟩) n cap) ∧ w.cell? ⟨hb, 2, none⟩ = some (.func (.func 57) #[] #[]) ∧ w.cell? ⟨gr, p * 2, none⟩ = some (.int .u8 y.1) ∧ w.cell? ⟨gr, p * 2 + 1, none⟩ = some (.int .i64 y.2) := by
  obtain ⟨D, f, h1, h2, h3, h4⟩ := h
  obtain ⟨gr', cap', hrv, hcap, x0, x1, _⟩ := h1.at hy
  cases hrv
  exact ⟨h1.cells.c0, h1.cells.c2, x0, x1⟩
theorem GpU.hpg {w : World} {lab : Nat → Nat} {k hb bm g : Nat} {rv : Value} {x : Int × Int} {M l : List (Int × Int)} {i : Nat} (h : GpU w lab k hb bm rv g x M l i) : HpG OU l i := by
  obtain ⟨D, f, h1, h2, h3, h4⟩ := h
  exact h3
/-- What rise leaves. -/
def RisU (w w' : World) (lab : Nat → Nat) (k hb bm : Nat) (rv : Value) (g : Nat) (x : Int × Int) (M : List (Int × Int)) (j : Nat) : Prop := ∃ l, GpU w' lab k hb bm rv g x M l j ∧ (0 < j → ∀ y, l[(j - 1) / 2]? = some y → ah OU x y = false) ∧ Turns (Fb bm rv) w w'
theorem fb_newU {w : World} {bm gr n cap : Nat} (h1 : bm < w.heap.size) (h2 : gr < w.heap.size) {i : Nat} (hi : w.heap.size ≤ i) : ¬ Fb bm (.slice (some ⟨gr, 0, none⟩) n cap) i := by
  rintro (q | q)
  · omega
  · cases q; simp at hi; omega
set_option maxHeartbeats 2000000 in
theorem rise_U {w : World} {lab : Nat → Nat} {k hb bm g : Nat} {rv : Value} {x : Int × Int} {M l : List (Int × Int)} {i : Nat} (h : GpU w lab k hb bm rv g x M l i) :
    Calls Try.prog 72 #[.pointer (some ⟨hb, 0, none⟩), .int .i64 i, .agg #[.int .u8 x.1, .int .i64 x.2]] w fun e w' => ∃ j : Nat, e = .returned (.int .i64 j) ∧ RisU w w' lab k hb bm rv g x M j := by
  obtain ⟨gr, cap, hrv, hcap, hlb, hlg, hlm⟩ := h.shape
  subst hrv
  obtain ⟨N, hN⟩ : ∃ N, M.length = N := ⟨_, rfl⟩
  rw [hN] at h hcap
  have HN : Hid (M.length = N) := hN
  rw [hN]
  clear hN
  obtain ⟨W, hW⟩ : ∃ W, w.alloc (.cells #[.int .u8 x.1, .int .i64 x.2] 129) = W := ⟨_, rfl⟩
  have z0 : W.cell? ⟨w.heap.size, 0, none⟩ = some (.int .u8 x.1) := by rw [← hW]; simp only [World.cell?]; rw [heap_alloc_new]; rfl
  have z1 : W.cell? ⟨w.heap.size, 1, none⟩ = some (.int .i64 x.2) := by rw [← hW]; simp only [World.cell?]; rw [heap_alloc_new]; rfl
  have bW : Below w.heap.size w W := by rw [← hW]; exact (Below.refl _ w).alloc (Nat.le_refl _) _
  have hG := h.below bW
  have tW : Turns (Fb bm (.slice (some ⟨gr, 0, none⟩) N cap)) w W := Below.turns bW _
  have hWs := bW.size
  have hxb := World.block_lt_of_cell? W _ z0
  have HX := fb_newU (n := N) (cap := cap) hlm hlg (Nat.le_refl w.heap.size)
  clear h bW
  go_enter Try.func72, Try.ntmps72
  go_wp2_with fail
  go_loopw [1] (fun v wr => ∃ (j : Nat) (l : List (Int × Int)), v = .int .i64 j ∧ GpU wr lab k hb bm (.slice (some ⟨gr, 0, none⟩) N cap) g x M l j ∧ Turns (Fb bm (.slice (some ⟨gr, 0, none⟩) N cap)) W wr) (fun v _ => (intOf v).toNat)
  case atStart => exact ⟨i, l, rfl, hG, Turns.refl _ _⟩
  case round =>
    clear hG
    obtain ⟨j, l, rfl, hG, tr⟩ := hrel
    obtain ⟨hl, hj, hM⟩ := hG.len
    rw [HN.out] at hl hj hM
    have y0 := (World.cell?_of_block (w := W) (a := ⟨w.heap.size, 0, none⟩) (tr.block _ hxb HX)).trans z0
    have y1 := (World.cell?_of_block (w := W) (a := ⟨w.heap.size, 1, none⟩) (tr.block _ hxb HX)).trans z1
    clear z0 z1
    by_cases hp : 0 < j
    · obtain ⟨p, hpe⟩ : ∃ p, (j - 1) / 2 = p := ⟨_, rfl⟩
      have hpj : p < j := by omega
      obtain ⟨y, hy⟩ : ∃ y, l[p]? = some y := ⟨_, List.getElem?_eq_getElem (by omega)⟩
      obtain ⟨c0, c2, u0, u1⟩ := hG.cells hy
      have hab : ∀ w', Calls Try.prog 70 #[.int .i64 j] w' fun e w'' => e = .returned (.int .i64 p) ∧ w'' = w' := fun w' => by rw [← hpe]; exact above_U j hp (by omega) w'
      have HG : Hid (GpU wr lab k hb bm (.slice (some ⟨gr, 0, none⟩) N cap) g x M l j) := hG
      have HY : Hid (l[p]? = some y) := hy
      have HP : Hid ((j - 1) / 2 = p) := hpe
      have a1 : (0 : Int) < j := by omega
      have a2 : decide ((0 : Int) < j) = true := decide_eq_true a1
      have a3 : (p : Int) < N := by omega
      have a4 : (0 : Int) ≤ p := by omega
      have a5 : (N : Int) ≤ cap := by omega
      have hlb2 : hb < wr.heap.size := World.block_lt_of_cell? wr _ c0
      have hlg2 : gr < wr.heap.size := World.block_lt_of_cell? wr _ u0
      have hxb2 : w.heap.size < wr.heap.size := World.block_lt_of_cell? wr _ y0
      clear hG hy hpe
      go_wp2_with fail
      go_region_held3 (fun w' => w'.cell? ⟨hb, 0, none⟩ = some (.slice (some ⟨gr, 0, none⟩) N cap) ∧ w'.cell? ⟨hb, 2, none⟩ = some (.func (.func 57) #[] #[]) ∧ w'.cell? ⟨gr, p * 2, none⟩ = some (.int .u8 y.1) ∧ w'.cell? ⟨gr, p * 2 + 1, none⟩ = some (.int .i64 y.2) ∧ w'.cell? ⟨w.heap.size, 0, none⟩ = some (.int .u8 x.1) ∧ w'.cell? ⟨w.heap.size, 1, none⟩ = some (.int .i64 x.2))
        (first | exact ⟨c0, c2, u0, u1, y0, y1⟩ | exact ⟨q0, q1, q2, q3, q4, q5⟩)
        (first
          | (go_at_call 70; refine (hab _).mono ?_; rintro e wn ⟨rfl, hwn⟩; subst wn)
          | (go_at_call 57; refine (ahead_U x y _).mono ?_; rintro e wA ⟨rfl, bA⟩; have q0 := (bA.cell (p := ⟨hb, 0, none⟩) hlb2).trans c0; have q1 := (bA.cell (p := ⟨hb, 2, none⟩) hlb2).trans c2; have q2 := (bA.cell (p := ⟨gr, p * 2, none⟩) hlg2).trans u0; have q3 := (bA.cell (p := ⟨gr, p * 2 + 1, none⟩) hlg2).trans u1; have q4 := (bA.cell (p := ⟨w.heap.size, 0, none⟩) hxb2).trans y0; have q5 := (bA.cell (p := ⟨w.heap.size, 1, none⟩) hxb2).trans y1))
      have bA : Below wr.heap.size wr wA := (below_drewN wr 1).trans bA
      have GA := HG.out.below bA
      have tA := tr.trans (Below.turns bA (Fb bm (.slice (some ⟨gr, 0, none⟩) N cap))) (fun _ _ q => q)
      have HL : Hid (l.length = N) := hl
      clear q0 q1 q4 q5 c0 c2 u0 u1 HG bA tr hl
      cases e : ah OU x y
      · clear q2 q3 y0 y1
        go_wp2_with fail
        go_ret
        exact ⟨j, rfl, l, GA, fun _ z hz => by rw [HP.out, HY.out] at hz; cases hz; exact e, tW.trans tA (fun _ _ q => q)⟩
      · obtain ⟨c0, c2, u0, u1⟩ := GA.cells HY.out
        have hlay := fun w' (b : Below wA.heap.size wA w') => gap_layU (GA.below b) (q := p) (by omega) HY.out (by have := HY.out; rw [← HP.out] at this ⊢; exact GA.hpg.rise hp (by rw [HL.out]; exact hj) this)
        have HLay : Hid (∀ w', Below wA.heap.size wA w' → Calls Try.prog 74 #[.pointer (some ⟨hb, 0, none⟩), .int .i64 j, .agg #[.int .u8 y.1, .int .i64 y.2]] w' fun e w'' => e = .returned (.tuple #[]) ∧ GpU w'' lab k hb bm (.slice (some ⟨gr, 0, none⟩) N cap) g x M (l.set j y) p ∧ Turns (Fb bm (.slice (some ⟨gr, 0, none⟩) N cap)) w' w'') := hlay
        have HY2 : Hid ((l.set j y)[p]? = some y) := by
          show _ = _
          rw [List.getElem?_set_ne (by omega)]; exact HY.out
        clear hlay GA q2 q3 y0 y1 HL
        go_wp2_with fail
        go_region_held3 (fun w' => w'.cell? ⟨hb, 0, none⟩ = some (.slice (some ⟨gr, 0, none⟩) N cap) ∧ w'.cell? ⟨gr, p * 2, none⟩ = some (.int .u8 y.1) ∧ w'.cell? ⟨gr, p * 2 + 1, none⟩ = some (.int .i64 y.2))
          (first | exact ⟨c0, u0, u1⟩ | exact ⟨q0, q2, q3⟩)
          (first
            | (go_at_call 70; refine (hab _).mono ?_; rintro e wn ⟨rfl, hwn⟩; subst wn)
            | (go_at_call 74; refine (HLay.out _ (below_drewN wA 1)).mono ?_; rintro e wL ⟨rfl, GL, tL⟩; obtain ⟨q0, q1, q2, q3⟩ := GL.cells HY2.out))
        have tR := tA.trans ((Turns.drewN (Fb bm (.slice (some ⟨gr, 0, none⟩) N cap)) wA 1).trans tL (fun _ _ q => q)) (fun _ _ q => q)
        clear q0 q1 q2 q3 c0 c2 u0 u1 HLay HY2 tL tA
        go_wp2_with (go_at_call 70; refine (hab _).mono ?_; rintro e wn ⟨rfl, hwn⟩; subst wn)
        go_roundw
        case rel => exact ⟨p, _, rfl, GL, tR⟩
        case measure => simp [intOf]; omega
    · have a2 : decide ((0 : Int) < j) = false := decide_eq_false (by omega)
      have HG : Hid (GpU wr lab k hb bm (.slice (some ⟨gr, 0, none⟩) N cap) g x M l j) := hG
      clear hG hl
      go_wp2_with fail
      go_region
      go_wp2_with fail
      go_ret
      exact ⟨j, rfl, l, HG.out.below (below_drewN wr 1), fun q => absurd q hp, tW.trans (tr.trans (Turns.drewN (fun _ => False) wr 1) (fun _ _ q => q.elim)) (fun _ _ q => q)⟩
end Go.Proofs.Ytbopghpfghaoeaa
