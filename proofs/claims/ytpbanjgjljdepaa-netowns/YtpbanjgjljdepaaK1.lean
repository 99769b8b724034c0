/- SameFlights, num, known: what every statement asks first. -/
import Derived.Test.YtpbanjgjljdepaaD5
namespace Go.Proofs.Ytpbanjgjljdepaa
open Go.RowKit Go.Maps
set_option maxRecDepth 100000
variable {w w' : World} {lab lab' : Nat → Nat} {k j xb : Nat} {v : Value} {last : Int} {es : List En} {F : Nat → Prop} {S : St}

theorem Below.from_drewN {w w' : World} {m : Nat} (h : Below (w.drewN m).heap.size (w.drewN m) w') : Below w.heap.size w w' := ⟨h.os, h.tape, h.output, h.size, h.block⟩
set_option maxHeartbeats 1000000 in
theorem sameFl_true (no to : Int) (d : List Int) (a1 a2 : Option Addr) (n c1 c2 : Nat) (w : World) (hn : n ≤ 140737488355328) (h1 : Lies w a1 n c1 d) (h2 : Lies w a2 n c2 d) :
    Calls Try.prog 35 #[.agg #[.int .i64 no, .int .i64 to, .slice a1 n c1], .agg #[.int .i64 no, .int .i64 to, .slice a2 n c2]] w fun e w' => e = .returned (.bool true) ∧ Below w.heap.size w w' := by
  obtain ⟨W1, hW1⟩ : ∃ W, (w.alloc (.cells #[.int .i64 no, .int .i64 to, .slice a1 n c1] 42)).alloc (.cells #[.int .i64 no, .int .i64 to, .slice a2 n c2] 42) = W := ⟨_, rfl⟩
  have b1 : Below w.heap.size w W1 := by rw [← hW1]; exact ((Below.refl _ w).alloc (Nat.le_refl _) _).alloc (by simp) _
  have z2 : W1.heap[w.heap.size + 1]? = some (.cells #[.int .i64 no, .int .i64 to, .slice a2 n c2] 42) := by
    rw [← hW1]
    have := heap_alloc_new (w.alloc (.cells #[.int .i64 no, .int .i64 to, .slice a1 n c1] 42)) (.cells #[.int .i64 no, .int .i64 to, .slice a2 n c2] 42)
    simpa using this
  have z1 : W1.heap[w.heap.size]? = some (.cells #[.int .i64 no, .int .i64 to, .slice a1 n c1] 42) := by
    rw [← hW1, Below.heap_alloc _ _ _ (by simp)]; exact heap_alloc_new _ _
  have x0 : W1.cell? ⟨w.heap.size, 0, none⟩ = some (.int .i64 no) := by simp [World.cell?, z1]
  have x1 : W1.cell? ⟨w.heap.size, 1, none⟩ = some (.int .i64 to) := by simp [World.cell?, z1]
  have x2 : W1.cell? ⟨w.heap.size, 2, none⟩ = some (.slice a1 n c1) := by simp [World.cell?, z1]
  have y0 : W1.cell? ⟨w.heap.size + 1, 0, none⟩ = some (.int .i64 no) := by simp [World.cell?, z2]
  have y1 : W1.cell? ⟨w.heap.size + 1, 1, none⟩ = some (.int .i64 to) := by simp [World.cell?, z2]
  have y2 : W1.cell? ⟨w.heap.size + 1, 2, none⟩ = some (.slice a2 n c2) := by simp [World.cell?, z2]
  have hS := same_any a1 a2 n n c1 c2 d d W1 (by omega) (h1.below b1 (Nat.le_refl _)) (h2.below b1 (Nat.le_refl _))
  simp only [decide_true] at hS
  clear h1 h2 z1 z2
  go_enter Try.func35, Try.ntmps35
  go_wp2_with fail
  refine hS.mono ?_
  rintro e w2 ⟨rfl, m, rfl⟩
  go_wp2_with fail
  go_ret
  exact ⟨by simp, b1.trans ((below_drewN W1 m).mono b1.size)⟩
set_option maxHeartbeats 2000000 in
theorem sameFls_true {k1 k2 : Nat} {v1 v2 : Value} {e1 e2 : List En} (h1 : FRow w lab k1 v1 e1) (h2 : FRow w lab' k2 v2 e2) (he : e1.map En.fl = e2.map En.fl) (hf : e1.length ≤ 1000000) :
    Calls Try.prog 18 #[v1, v2] w fun e w' => e = .returned (.bool true) ∧ Below w.heap.size w w' := by
  obtain ⟨n, hn⟩ : ∃ n, e1.length = n := ⟨_, rfl⟩
  have hn2 : e2.length = n := by rw [← hn]; have := congrArg List.length he; simpa using this.symm
  obtain ⟨a1, c1, hv1⟩ := own_slice h1.row
  obtain ⟨a2, c2, hv2⟩ := own_slice h2.row
  rw [hn] at hv1 hf
  rw [hn2] at hv2
  subst hv1; subst hv2
  have H1 : Hid (FRow w lab k1 (.slice a1 n c1) e1) := h1
  have H2 : Hid (FRow w lab' k2 (.slice a2 n c2) e2) := h2
  have HE : Hid (e1.map En.fl = e2.map En.fl) := he
  have HN : Hid (e1.length = n) := hn
  have HN2 : Hid (e2.length = n) := hn2
  have hni : (n : Int) ≤ 1000000 := by omega
  have hnb : ((n : Int) != (n : Int)) = false := by simp
  clear h1 h2 he hn hn2
  go_enter Try.func18, Try.ntmps18
  go_wp2_with fail
  go_loopw [5] (fun u wr => ∃ t : Nat, t ≤ n ∧ u = .int .i64 t ∧ Below w.heap.size w wr) (fun u _ => n - (intOf u).toNat)
  case atStart => exact ⟨0, Nat.zero_le _, rfl, Below.refl _ _⟩
  case round =>
    obtain ⟨t, ht, rfl, hB⟩ := hrel
    by_cases htn : t < n
    · have hti : (t : Int) < n := by omega
      obtain ⟨x, hx⟩ : ∃ x, e1[t]? = some x := ⟨_, List.getElem?_eq_getElem (by rw [HN.out]; exact htn)⟩
      obtain ⟨y, hy⟩ : ∃ y, e2[t]? = some y := ⟨_, List.getElem?_eq_getElem (by rw [HN2.out]; exact htn)⟩
      have hxy : x.fl = y.fl := by
        have e := congrArg (fun l => l[t]?) HE.out
        simp only [List.getElem?_map, hx, hy] at e
        exact Option.some.inj e
      have R1 := H1.out.turns (Below.turns hB (fun _ => False)) (fun _ _ _ q => q) (lab' := lab) (fun _ _ q => q)
      have R2 := H2.out.turns (Below.turns hB (fun _ => False)) (fun _ _ _ q => q) (lab' := lab') (fun _ _ q => q)
      obtain ⟨g1, d1, hv1, x0, x1, x2⟩ := R1.at hx
      obtain ⟨g2, d2, hv2, y0, y1, y2⟩ := R2.at hy
      rw [HN.out] at hv1
      rw [HN2.out] at hv2
      obtain ⟨rfl, rfl⟩ : a1 = some ⟨g1, 0, none⟩ ∧ c1 = d1 := by cases hv1; exact ⟨rfl, rfl⟩
      obtain ⟨rfl, rfl⟩ : a2 = some ⟨g2, 0, none⟩ ∧ c2 = d2 := by cases hv2; exact ⟨rfl, rfl⟩
      have dx := R1.en.da x (List.mem_of_getElem? hx)
      have dy := R2.en.da y (List.mem_of_getElem? hy)
      obtain ⟨xno, xto, xd, xv⟩ := x
      obtain ⟨yno, yto, yd, yv⟩ := y
      obtain ⟨rfl, rfl, rfl⟩ : xno = yno ∧ xto = yto ∧ xd = yd := by
        injection hxy with q1 q2 q3; exact ⟨q1, q2, q3⟩
      obtain ⟨ax, cx, hxv, Lx⟩ := Lies.da dx
      obtain ⟨ay, cy, hyv, Ly⟩ := Lies.da dy
      have hln : xd.length ≤ 140737488355328 := dx.len
      obtain ⟨m, hm⟩ : ∃ m, xd.length = m := ⟨_, rfl⟩
      change xv = .slice ax xd.length cx at hxv
      change yv = .slice ay xd.length cy at hyv
      change Lies wr ax xd.length cx xd at Lx
      change Lies wr ay xd.length cy xd at Ly
      rw [hm] at hxv hyv Lx Ly hln
      subst hxv; subst hyv
      simp only at x0 x1 x2 y0 y1 y2
      clear R1 R2 dx dy hv1 hv2 hxy hx hy hm
      go_wp2_with fail
      go_region_held3 (fun w' => w'.cell? ⟨g1, t * 3, none⟩ = some (.int .i64 xno) ∧ w'.cell? ⟨g1, t * 3 + 1, none⟩ = some (.int .i64 xto) ∧ w'.cell? ⟨g1, t * 3 + 2, none⟩ = some (.slice ax m cx) ∧ w'.cell? ⟨g2, t * 3, none⟩ = some (.int .i64 xno) ∧ w'.cell? ⟨g2, t * 3 + 1, none⟩ = some (.int .i64 xto) ∧ w'.cell? ⟨g2, t * 3 + 2, none⟩ = some (.slice ay m cy))
        (first | exact ⟨x0, x1, x2, y0, y1, y2⟩ | exact ⟨p0, p1, p2, q0, q1, q2⟩)
        (first
          | (go_at_call 35; refine (sameFl_true xno xto xd ax ay m cx cy _ hln (Lx.below (below_drewN wr 1) (Nat.le_refl _)) (Ly.below (below_drewN wr 1) (Nat.le_refl _))).mono ?_; rintro e w2 ⟨rfl, b2⟩; have b2 := Below.from_drewN b2; have p0 := cell_later b2 x0; have p1 := cell_later b2 x1; have p2 := cell_later b2 x2; have q0 := cell_later b2 y0; have q1 := cell_later b2 y1; have q2 := cell_later b2 y2))
      have hB2 : Below w.heap.size w w2 := hB.trans (b2.mono hB.size)
      clear p0 p1 p2 q0 q1 q2 x0 x1 x2 y0 y1 y2
      go_wp2_with fail
      go_roundw
      case rel => exact ⟨t + 1, by omega, by go_num, hB2⟩
      case measure => simp [intOf]; omega
    · obtain rfl : t = n := by omega
      go_wp2_with fail
      go_ret
      exact ⟨rfl, hB⟩
theorem num_any (x : Int) (w : World) : Calls Try.prog 13 #[.int .i64 x] w fun e w' => e = .returned (.int .i64 x) ∧ w' = w := by
  go_enter Try.func13, Try.ntmps13
  go_wp2
  go_ret
  exact ⟨rfl, rfl⟩
/-- What lay there at the start lies there, and is labelled 0. -/
structure Wk (w0 : World) (lab : Nat → Nat) (w : World) : Prop where
  b : Below w0.heap.size w0 w
  z : ∀ i, i < w0.heap.size → lab i = 0
theorem Wk.refl (w : World) : Wk w (fun _ => 0) w := ⟨Below.refl _ _, fun _ _ => rfl⟩
theorem Wk.turns {w0 : World} (h : Wk w0 lab w) (t : Turns F w w') (hF : ∀ i, F i → lab i ≠ 0) (hl : ∀ i, i < w0.heap.size → lab' i = lab i) : Wk w0 lab' w' :=
  ⟨h.b.trans ((t.mono (G := fun i => F i ∧ w0.heap.size ≤ i) (fun i _ q => ⟨q, by
    rcases Nat.lt_or_ge i w0.heap.size with r | r
    · exact absurd (h.z i r) (hF i q)
    · exact r⟩)).below (fun _ q => q.2) h.b.size), fun i hi => by rw [hl i hi]; exact h.z i hi⟩
theorem Wk.step {w0 : World} (h : Wk w0 lab w) (t : Turns (fun i => lab i = k) w w') (hk : k ≠ 0) : Wk w0 (rl lab w k) w' :=
  h.turns t (fun _ q r => hk (q.symm.trans r)) (fun _ hi => rl_old (Nat.lt_of_lt_of_le hi h.b.size))
theorem Wk.below {w0 : World} (h : Wk w0 lab w) (b : Below w.heap.size w w') (k : Nat) : Wk w0 (rl lab w k) w' :=
  h.turns (Below.turns b (fun _ => False)) (fun _ q => q.elim) (fun _ hi => rl_old (Nat.lt_of_lt_of_le hi h.b.size))
theorem Wk.take {w0 : World} (h : Wk w0 lab w) (t : Turns (fun i => lab i = k) w w') (hk : k ≠ 0) (hv : ∀ b, v.ownBlock = some b → lab b = k ∧ b < w.heap.size) (j : Nat) : Wk w0 (tl lab w k j v) w' :=
  h.turns t (fun _ q r => hk (q.symm.trans r)) (fun i hi => by
    rw [tl_off (fun q => by have := (hv i q).1; rw [h.z i hi] at this; exact hk this.symm)]
    exact rl_old (Nat.lt_of_lt_of_le hi h.b.size))
end Go.Proofs.Ytpbanjgjljdepaa
