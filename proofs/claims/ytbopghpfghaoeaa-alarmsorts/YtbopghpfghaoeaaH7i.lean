/- set of a heap whose keys are ints, by its contract. -/
import Derived.Test.YtbopghpfghaoeaaH6i
import Derived.Deep.AppendLies
namespace Go.Proofs.Ytbopghpfghaoeaa
open Go.RowKit Go.Maps
set_option maxRecDepth 100000
attribute [local go_sem ↓] Go.wp_at_zero Go.wp_at_succ
theorem zero_intI (w : World) : (zeroValue 3).run Try.prog w = .ok (.int .i64 0) w := by kernel_rfl
/-- What set leaves. -/
def SetRI (w w' : World) (lab : Nat → Nat) (k hb bm g : Nat) (l : List (Int × Int)) (x : Int × Int) : Prop := ∃ rv l', FlI w' (rl lab w k) k hb bm rv g l' ∧ Turns (fun i => lab i = k) w w' ∧ ∀ S, Sh OI l S → Sh OI l' (setS OI S x.1 x.2)
theorem Hx.relab {κ : Type} {K : Kd κ} {w w0 : World} {lab : Nat → Nat} {k hb bm g : Nat} {rv : Value} {D : DataW Value} {f : κ → Option Nat} {l : List (κ × Int)} (h : Hx K w lab k hb bm rv D f l g) (hb0 : hb < w0.heap.size) (hm0 : bm < w0.heap.size) (hr0 : ∀ b, rv.ownBlock = some b → b < w0.heap.size) : Hx K w (rl lab w0 k) k hb bm rv D f l g :=
  { h with lh := (rl_old hb0).trans h.lh, lm := (rl_old hm0).trans h.lm, lr := fun b e => (rl_old (hr0 b e)).trans (h.lr b e) }
set_option maxHeartbeats 2000000 in
theorem set_oldI {w : World} {lab : Nat → Nat} {k hb bm g : Nat} {rv : Value} {D : DataW Value} {f : Int → Option Nat} {l : List (Int × Int)} (h : Hx KI w lab k hb bm rv D f l g) (hm : Mp f l) (hp : Hp OI l) (x : Int × Int) (hx : KI.ok x.1) (n : Nat) (hn : f x.1 = some n) :
    Calls Try.prog 39 #[.pointer (some ⟨hb, 0, none⟩), .agg #[.int .i64 x.1, .int .i64 x.2]] w fun e w' => e = .returned (.tuple #[]) ∧ SetRI w w' lab k hb bm g l x := by
  obtain ⟨a, ha⟩ := hm.at hn
  have hnl := (List.getElem?_eq_some_iff.1 ha).1
  obtain ⟨W, hW⟩ : ∃ W, w.alloc (.cells #[.int .i64 x.1, .int .i64 x.2] 88) = W := ⟨_, rfl⟩
  have z0 : W.cell? ⟨w.heap.size, 0, none⟩ = some (.int .i64 x.1) := by rw [← hW]; simp only [World.cell?]; rw [heap_alloc_new]; rfl
  have z1 : W.cell? ⟨w.heap.size, 1, none⟩ = some (.int .i64 x.2) := by rw [← hW]; simp only [World.cell?]; rw [heap_alloc_new]; rfl
  have bW : Below w.heap.size w W := by rw [← hW]; exact (Below.refl _ w).alloc (Nat.le_refl _) _
  have h1 := (h.relab (w0 := w) (heap_lt h.box) h.map.lt (fun b e => own_lt h.row e)).turns (Below.turns bW (fun _ => False)) (fun _ _ _ q => q) (fun _ _ => rfl) (lab' := rl lab w k)
  obtain ⟨c0, c1, c2, c3, fz⟩ := h1.cells
  have hlo : (Instr.lookup 80 (.map (some bm)) (.int .i64 x.1) true).run Try.prog W.drew = .ok (.tuple #[.int .i64 n, .bool true]) W.drew := by
    have := h1.mis.look (w := W.drew) h1.map.drew Try.underlying80 (zero_intI _) x.1 hx
    rw [hn] at this
    exact this
  have HG : Hid (GpI W.drew (rl lab w k) k hb bm rv g x (l.set n x) l n) := ⟨D, f, h1.drew 1, by have := hm.same (b := x.2) ha; exact this, hp.gap n, List.Perm.refl _⟩
  have HT : Hid (Turns (Fb bm rv) w W.drew) := (Below.turns bW (Fb bm rv)).trans (Turns.drewN _ W 1) (fun _ _ q => q)
  have HF : Hid (∀ i, Fb bm rv i → lab i = k) := fun i hi => (h.fb hi).2
  clear h h1 bW c0 c2 c3 fz
  go_enter Try.func39, Try.ntmps39
  go_wp2_with fail
  go_region
  go_wp2_with fail
  refine (settle_I HG.out hx).mono ?_
  rintro e w3 ⟨rfl, ⟨l', h3, p3⟩, t3⟩
  go_wp2_with fail
  first | go_end0 | refine bodyPost_ret (results_none rfl _ _ _) rfl ?_
  exact ⟨rfl, rv, l', h3, (HT.out.trans t3 (fun _ _ q => q)).mono (fun i _ q => HF.out i q), fun S hS => (hS.anew ha).of_perm p3⟩
set_option maxHeartbeats 2000000 in
theorem set_newI {w : World} {lab : Nat → Nat} {k hb bm g : Nat} {rv : Value} {D : DataW Value} {f : Int → Option Nat} {l : List (Int × Int)} (h : Hx KI w lab k hb bm rv D f l g) (hm : Mp f l) (hp : Hp OI l) (x : Int × Int) (hx : KI.ok x.1) (hn : f x.1 = none) (hl : l.length < 4398046511104) :
    Calls Try.prog 39 #[.pointer (some ⟨hb, 0, none⟩), .agg #[.int .i64 x.1, .int .i64 x.2]] w fun e w' => e = .returned (.tuple #[]) ∧ SetRI w w' lab k hb bm g l x := by
  obtain ⟨i0, hi, hz0, hz1, hz2⟩ := info_parts Try.infoTI
  obtain ⟨W, hW⟩ : ∃ W, w.alloc (.cells #[.int .i64 x.1, .int .i64 x.2] 88) = W := ⟨_, rfl⟩
  have z0 : W.cell? ⟨w.heap.size, 0, none⟩ = some (.int .i64 x.1) := by rw [← hW]; simp only [World.cell?]; rw [heap_alloc_new]; rfl
  have z1 : W.cell? ⟨w.heap.size, 1, none⟩ = some (.int .i64 x.2) := by rw [← hW]; simp only [World.cell?]; rw [heap_alloc_new]; rfl
  have bW : Below w.heap.size w W := by rw [← hW]; exact (Below.refl _ w).alloc (Nat.le_refl _) _
  have h1 := (h.relab (w0 := w) (heap_lt h.box) h.map.lt (fun b e => own_lt h.row e)).turns (Below.turns bW (fun _ => False)) (fun _ _ _ q => q) (fun _ _ => rfl) (lab' := rl lab w k)
  obtain ⟨c0, c1, c2, c3, fz⟩ := h1.cells
  have hlo : (Instr.lookup 80 (.map (some bm)) (.int .i64 x.1) true).run Try.prog W.drew = .ok (.tuple #[.int .i64 0, .bool false]) W.drew := by
    have := h1.mis.look (w := W.drew) h1.map.drew Try.underlying80 (zero_intI _) x.1 hx
    rw [hn] at this
    exact this
  have hrow := h1.row
  have hbl := heap_lt h1.box
  have hxl := World.block_lt_of_cell? W _ z0
  have hne := h1.rvh
  have hnm := h1.bmr
  obtain ⟨ao, cap, hrv⟩ := own_slice hrow
  rw [hrv] at c0 hrow hne hnm
  have hR := h1.box
  rw [hrv] at hR
  obtain ⟨m, hml⟩ : ∃ m, l.length = m := ⟨_, rfl⟩
  have HM : Hid (l.length = m) := hml
  rw [hml] at c0 hrow hne hnm hR hl
  have HH : Hid (Hx KI W (rl lab w k) k hb bm (.slice ao m cap) D f l g) := by
    have := h1; rw [hrv, hml] at this; exact this
  have hrd : W.drew.drew.ownsRow 0 88 2 (.slice ao m cap) m (l.flatMap (tc KI)) := hrow
  have n1 : (W.drew.drew.alloc (.cells #[.int .i64 x.1, .int .i64 x.2] 88)).cell? ⟨hb, 0, none⟩ = some (.slice ao m cap) := (World.cell?_of_block (w := W) (a := ⟨hb, 0, none⟩) (Below.heap_alloc W.drew.drew _ hb hbl)).trans c0
  have a1 : (m : Int) < 4398046511104 := by omega
  have HB : Hid (Turns (fun i => lab i = k) w W) := Below.turns bW _
  have HX : Hid (¬ (w.heap.size = hb ∨ (Value.slice ao m cap).ownBlock = some w.heap.size)) := by
    rintro (q | q)
    · have := heap_lt h.box; omega
    · rw [← hml, ← hrv] at q; have := own_lt h.row q; omega
  have HL : Hid (∀ i, (i = hb ∨ (Value.slice ao m cap).ownBlock = some i) → lab i = k) := by
    rintro i (q | q)
    · subst q; exact h.lh
    · rw [← hml, ← hrv] at q; exact h.lr i q
  have hWs := bW.size
  clear hml hrv h1 c2 c3 h bW
  go_enter Try.func39, Try.ntmps39
  go_wp2_with fail
  go_region
  go_wp2_with fail
  go_region_law
    (first
      | (refine step_append_lies _ rfl _ _ 81 rfl 0 88 i0 (.agg #[.int .i64 0, .int .i64 0]) 2 16 Try.underlying81 hi hz0 hz1 hz2 rfl (by decide) _ m _ rfl (World.ownsRow.alloc hrd _) ⟨W.heap.size, 0, none⟩ 1 1 [.int .i64 x.1, .int .i64 x.2] rfl rfl (World.news_of_block (heap_alloc_new _ _)) (by intro u hu; simp at hu; rcases hu with rfl | rfl <;> rfl) (by decide) (by unfold maxLen; omega) (by omega) (Nat.zero_le _) _ rfl ?_; intro gC cC wC hoC hgC hatC hltC; have tC := ((Turns.drewN _ W 2).trans ((Turns.alloc _ _ _).trans (Turns.grown (F := fun i => (Value.slice ao m cap).ownBlock = some i) hgC (fun b hb => hb)) (fun _ _ h => h)) (fun _ _ h => h)); have hrC := (tC.block hb hbl hne).trans hR; have f3 : wC.cell? ⟨hb, 0, none⟩ = some (.slice ao m cap) := by { simp [World.cell?, hrC] }; have z3 : wC.frozen? ⟨hb, 0, none⟩ = false := by { simp [World.frozen?, hrC] })
      | fail)
  all_goals
    clear f3 z3 hrC
    have hE : (Value.slice (some ⟨gC, 0, none⟩) (m + 1) cC).ownBlock = some gC := rfl
    have HG := HH.out.grew (x := x) (rv' := .slice (some ⟨gC, 0, none⟩) (m + 1) cC) tC (by rw [HM.out]; exact hoC) (fun b hb' => by
      cases hb'
      rcases hatC with q | q
      · exact HH.out.lr _ q
      · exact rl_new (by show w.heap.size ≤ gC; simp at q; omega)) hx (by rw [HM.out]; exact hl)
    obtain ⟨W3, hW3⟩ : ∃ W3, wC.setCell ⟨hb, 0, none⟩ (.slice (some ⟨gC, 0, none⟩) (m + 1) cC) = W3 := ⟨_, rfl⟩
    rw [hW3] at HG ⊢
    obtain ⟨h3, t3⟩ := HG
    have x0 := (World.cell?_of_block (w := W) (a := ⟨w.heap.size, 0, none⟩) (t3.block _ hxl HX.out)).trans z0
    have x1 := (World.cell?_of_block (w := W) (a := ⟨w.heap.size, 1, none⟩) (t3.block _ hxl HX.out)).trans z1
    have G3 : GpI W3 (rl lab w k) k hb bm (.slice (some ⟨gC, 0, none⟩) (m + 1) cC) g x (l ++ [x]) (l ++ [x]) m := ⟨D, f, h3, by rw [← HM.out]; exact hm.snoc hn, by rw [← HM.out]; exact hp.snoc x, by rw [← HM.out]; simp⟩
    have HT : Hid (Turns (fun i => lab i = k) w W3) := HB.out.trans (t3.mono (G := fun i => i = hb ∨ (Value.slice ao m cap).ownBlock = some i) (fun _ _ q => q)) (fun i _ q => HL.out i q)
    have HF : Hid (∀ i, i < w.heap.size → Fb bm (.slice (some ⟨gC, 0, none⟩) (m + 1) cC) i → lab i = k) := fun i hi q => by have := (h3.fb q).2; rw [rl_old hi] at this; exact this
    clear hoC hgC hatC hltC tC h3 t3 z0 z1 hW3
    go_wp2_with fail
    refine (settle_I G3 hx).mono ?_
    rintro e w4 ⟨rfl, ⟨l', h4, p4⟩, t4⟩
    go_wp2_with fail
    first | go_end0 | refine bodyPost_ret (results_none rfl _ _ _) rfl ?_
    exact ⟨rfl, _, l', h4, HT.out.trans t4 (fun i hi q => HF.out i hi q), fun S hS => (hS.more (hm.no hn)).of_perm p4⟩
/-- set. -/
theorem set_I {w : World} {lab : Nat → Nat} {k hb bm g : Nat} {rv : Value} {l : List (Int × Int)} (h : FlI w lab k hb bm rv g l) (x : Int × Int) (hx : KI.ok x.1) (hl : l.length < 4398046511104) :
    Calls Try.prog 39 #[.pointer (some ⟨hb, 0, none⟩), .agg #[.int .i64 x.1, .int .i64 x.2]] w fun e w' => e = .returned (.tuple #[]) ∧ SetRI w w' lab k hb bm g l x := by
  obtain ⟨D, f, h1, hm, hp⟩ := h
  cases e : f x.1 with
  | none => exact set_newI h1 hm hp x hx e hl
  | some n => exact set_oldI h1 hm hp x hx n e
end Go.Proofs.Ytbopghpfghaoeaa
