/- A town at rest; the ways out of a run. -/
import Derived.Test.YtnmdnglbpkpfdaaGreatDoorPk23
import Derived.Test.YtnmdnglbpkpfdaaGreatDoorPk19
import Derived.Test.YtnmdnglbpkpfdaaGreatDoorPk18
import Derived.Test.YtnmdnglbpkpfdaaGreatDoorPk16
import Derived.Test.YtnmdnglbpkpfdaaGreatDoorPk22
import Derived.Test.YtnmdnglbpkpfdaaGreatDoorPk17
import Derived.Test.YtnmdnglbpkpfdaaGreatDoorPk01
import Derived.Test.YtnmdnglbpkpfdaaGreatDoorPk21
namespace Go.Proofs.YtnmdnglbpkpfdaaGreatDoor
open Go.RowKit Go.Maps
set_option maxRecDepth 100000
theorem Tg.fell {w w' : World} {G G' : Nat → Prop} {tw db st sz : Nat} {ov wv nv : Value} {os : List Nat} {xs ys : List It} (T : Tg w G tw db st sz ov wv os xs) (W : Wt w G nv ys) (t : Turns (fun i => G i ∨ i = tw) w w') (hG : ∀ i, G' i → G i ∨ w.heap.size ≤ i) (hb : w'.heap[tw]? = some (.cells #[.pointer (some ⟨db, 0, none⟩), .int .i64 (st : Nat), .int .i64 (sz : Nat), ov, nv] 42)) : Tg w' G' tw db st sz ov nv os ys := by
  have n : ∀ i, i < w.heap.size → ¬ G i → ¬ G' i := fun i hi hg r => (hG i r).elim hg (fun q => by omega)
  refine ⟨hb, ⟨own_turns T.o.row t (fun b hb r => r.elim (T.o.gr b hb) (fun e => own_typeJ T.o.row T.box (by decide) (by rw [hb, e]))), fun b hb => n b (T.o.row.lt b hb).2 (T.o.gr b hb)⟩, ⟨own_turns W.row t (fun b hb r => r.elim (W.gr b hb) (fun e => own_typeJ W.row T.box (by decide) (by rw [hb, e]))), fun b hb => n b (W.row.lt b hb).2 (W.gr b hb), fun x hx => ?_⟩, n tw (heap_lt T.box) T.gt⟩
  have hI := W.it x hx
  exact ⟨own_turns hI.own t (fun b hb r => r.elim (fun g => hI.ng (by cases hb; exact g)) (fun e => own_typeJ hI.own T.box (by decide) (by rw [hb, e]))), n x.g (hI.own.lt x.g rfl).2 hI.ng, hI.by_⟩
/-- A town at rest: its device is calm, and its log holds what is wanted. -/
structure RsI (w : World) (G : Nat → Prop) (M Q tw db k st sz : Nat) (ov : Value) (os : List Nat) : Prop where
  ex : ∃ (S : DevS) (N seq place : Nat) (free : Int) (T : List TxL) (seq0 place0 : Nat) (wv : Value) (xs : List It), Dev w db 0 S k N G ∧ Lg S k st sz seq place free T seq0 place0 ∧ Calm S ∧ Tg w G tw db st sz ov wv os xs ∧ xs.length = os.length ∧ (∀ (i o : Nat) (x : It), os[i]? = some o → xs[i]? = some x → x.bs = seeT S T o) ∧ N ≤ M ∧ seq ≤ Q
/-- What a run leaves. -/
structure RunR (ws w' : World) (F : Nat → Prop) (M Q tw db k st sz : Nat) (ov : Value) (os : List Nat) : Prop where
  ex : ∃ G, RsI w' G M Q tw db k st sz ov os ∧ ∀ i, G i → F i ∨ ws.heap.size ≤ i
  tr : Turns (fun i => F i ∨ i = tw) ws w'
/-- What a crash makes of it, where no transaction is in doubt. -/
def CrN (R : DevS) (k st sz Q : Nat) (old : Nat → List Int) (ks : List Bool) : Prop := ∃ (seq place : Nat) (free : Int) (T : List TxL) (seq0 place0 : Nat), Lg (crashed R ks) k st sz seq place free T seq0 place0 ∧ seq ≤ Q ∧ ∀ b, b < k → (b < st ∨ st + sz ≤ b) → seeT (crashed R ks) T b = old b
theorem CrO.same {R : DevS} {k st sz seq Q : Nat} {old : Nat → List Int} {ks : List Bool} (h : CrO R k st sz seq old old ks) (hQ : seq + 1 ≤ Q) : CrN R k st sz Q old ks := by
  obtain ⟨s, p, fr, T, s0, p0, L, hs, h1, h2⟩ := h.ex
  refine ⟨s, p, fr, T, s0, p0, L, by omega, ?_⟩
  by_cases hb : SurvB R.pend ks st sz
  · exact h1 hb
  · exact h2 hb
theorem CrN.calm {S : DevS} {k st sz seq place Q : Nat} {free : Int} {T : List TxL} {seq0 place0 : Nat} (h : Lg S k st sz seq place free T seq0 place0) (hQ : seq ≤ Q) (ks : List Bool) {old : Nat → List Int} (ho : ∀ b, b < k → (b < st ∨ st + sz ≤ b) → seeT S T b = old b) : CrN S k st sz Q old ks := by
  obtain ⟨L, hb⟩ := calm_crash h ks
  exact ⟨_, _, _, _, _, _, L, hQ, fun b h1 h2 => (hb b).trans (ho b h1 h2)⟩
theorem fallN {ws w : World} {F G : Nat → Prop} {tw db k st sz M Q N : Nat} {ov wv : Value} {os : List Nat} {xs : List It} {R : DevS} {old : Nat → List Int} {ao : Option Addr} {m c : Nat} {ks : List Bool} (hD : Dev w db 0 R k N G) (T : Tg w G tw db st sz ov wv os xs) (hxl : xs.length = os.length) (hos : ∀ o ∈ os, o < k ∧ (o < st ∨ st + sz ≤ o)) (hsee : ∀ (i o : Nat) (x : It), os[i]? = some o → xs[i]? = some x → x.bs = old o) (hG : ∀ i, G i → F i ∨ ws.heap.size ≤ i) (tr : Turns (fun i => F i ∨ i = tw) ws w) (hK : ∀ W, Turns (fun i => F i ∨ i = tw) ws W → KLies W ao m c ks) (hkl : ks.length = m) (hm : m ≤ 140737488355328) (hN : N ≤ M) (hM : M ≤ 900000000) (hcr : CrN R k st sz Q old ks) (arm : Int) :
    Calls Tryz.prog 71 #[.pointer (some ⟨tw, 0, none⟩), .agg #[.int .i64 arm, .slice ao m c], .slice none 0 0] w fun e w' => e = .returned (.bool true) ∧ RunR ws w' F M Q tw db k st sz ov os := by
  have hY : ∀ i, i < ws.heap.size → G i → F i ∨ i = tw := fun i hi r => (hG i r).elim Or.inl (fun q => by omega)
  have s0 := tr.size
  refine (fall_none hD T.box (by simp [World.cell?, T.box]) T.gt (fun W t => hK W (tr.trans t hY)) hkl hm (by omega)).mono ?_
  rintro e w' ⟨rfl, ⟨G', D', hG'⟩, t'⟩
  obtain ⟨s, p, fr, Tl, s1, p1, L, hs, hold⟩ := hcr
  refine ⟨rfl, ⟨G', ⟨_, N, s, p, fr, Tl, s1, p1, wv, xs, D', L, ⟨rfl, rfl⟩, T.to (Kp.same t') hG', hxl, fun i o x ho hx => ?_, hN, hs⟩, fun i hi => (hG' i hi).elim (hG i) (fun r => Or.inr (by omega))⟩, tr.trans t' hY⟩
  have h3 := hos o (List.mem_of_getElem? ho)
  rw [hsee i o x ho hx, hold o h3.1 h3.2]
theorem fallS {ws w : World} {F G : Nat → Prop} {tw db k st sz M Q N seq : Nat} {ov wv : Value} {os : List Nat} {xs ys : List It} {R : DevS} {old new : Nat → List Int} {ao : Option Addr} {m c : Nat} {ks : List Bool} {na : Addr} {nn nc : Nat} (hD : Dev w db 0 R k N G) (T : Tg w G tw db st sz ov wv os xs) (W : Wt w G (.slice (some na) nn nc) ys) (hxl : xs.length = os.length) (hyl : ys.length = os.length) (hos : ∀ o ∈ os, o < k ∧ (o < st ∨ st + sz ≤ o)) (hsx : ∀ (i o : Nat) (x : It), os[i]? = some o → xs[i]? = some x → x.bs = old o) (hsy : ∀ (i o : Nat) (x : It), os[i]? = some o → ys[i]? = some x → x.bs = new o) (hG : ∀ i, G i → F i ∨ ws.heap.size ≤ i) (tr : Turns (fun i => F i ∨ i = tw) ws w) (hK : ∀ W, Turns (fun i => F i ∨ i = tw) ws W → KLies W ao m c ks) (hkl : ks.length = m) (hm : m ≤ 140737488355328) (hN : N ≤ M) (hM : M ≤ 900000000) (hsz : st + sz ≤ k) (hcr : CrO R k st sz seq old new ks) (hQ : seq + 1 ≤ Q) (arm : Int) :
    Calls Tryz.prog 71 #[.pointer (some ⟨tw, 0, none⟩), .agg #[.int .i64 arm, .slice ao m c], .slice (some na) nn nc] w fun e w' => e = .returned (.bool true) ∧ RunR ws w' F M Q tw db k st sz ov os := by
  have hY : ∀ i, i < ws.heap.size → (G i ∨ i = tw) → F i ∨ i = tw := fun i hi r => r.elim (fun r => (hG i r).elim Or.inl (fun q => by omega)) Or.inr
  have s0 := tr.size
  have hgood := hD.good
  have hpn : R.pend.length ≤ N := by
    obtain ⟨_, _, _, _, _, _, h, _, _⟩ := hD
    exact h.pn
  have htop := hgood.top
  refine (fall_some hD T.box T.gt (fun W t => hK W (tr.trans t hY)) hkl hm (by omega) (by omega) (fun p hp => ⟨by have := (hgood.pend p hp).1; omega, (hgood.pend p hp).2.1⟩) (by omega) na nn nc).mono ?_
  rintro e w' ⟨rfl, ⟨G', D', hG'⟩, t', wv', hb, h1, h2⟩
  obtain ⟨s, p, fr, Tl, s1, p1, L, hs, hnew, hold⟩ := hcr.ex
  have hGG : ∀ i, G' i → F i ∨ ws.heap.size ≤ i := fun i hi => (hG' i hi).elim (hG i) (fun r => Or.inr (by omega))
  by_cases hsv : SurvB R.pend ks st sz
  · rw [h1 hsv] at hb
    refine ⟨rfl, ⟨G', ⟨_, N, s, p, fr, Tl, s1, p1, _, ys, D', L, ⟨rfl, rfl⟩, T.fell W t' hG' hb, hyl, fun i o x ho hx => ?_, hN, by omega⟩, hGG⟩, tr.trans t' hY⟩
    have h3 := hos o (List.mem_of_getElem? ho)
    rw [hsy i o x ho hx, hnew hsv o h3.1 h3.2]
  · rw [h2 hsv] at hb
    refine ⟨rfl, ⟨G', ⟨_, N, s, p, fr, Tl, s1, p1, _, xs, D', L, ⟨rfl, rfl⟩, T.fell T.x t' hG' hb, hxl, fun i o x ho hx => ?_, hN, by omega⟩, hGG⟩, tr.trans t' hY⟩
    have h3 := hos o (List.mem_of_getElem? ho)
    rw [hsx i o x ho hx, hold hsv o h3.1 h3.2]
/-- What a run's loop holds. -/
structure RnI (ws w : World) (F G : Nat → Prop) (M Q tw db k st sz : Nat) (ov : Value) (os : List Nat) (jb t : Nat) : Prop where
  ex : ∃ (S : DevS) (N seq place : Nat) (free : Int) (bm nd : Nat) (a : List (Nat × Nat)) (fa : Nat → List Int) (T : List TxL) (seq0 place0 : Nat) (wv : Value) (xs : List It), JS w db S k N G jb st sz seq place free bm nd a fa T seq0 place0 ∧ S.off = false ∧ Tg w G tw db st sz ov wv os xs ∧ xs.length = os.length ∧ (∀ (i o : Nat) (x : It), os[i]? = some o → xs[i]? = some x → x.bs = seesF S [] fa a fa o) ∧ N ≤ M + 10000 + 10000 * t ∧ seq ≤ Q + t ∧ ws.heap.size ≤ bm
  gB : ∀ i, G i → F i ∨ ws.heap.size ≤ i
  lj : ws.heap.size ≤ jb
  tr : Turns (fun i => F i ∨ i = tw) ws w
def RnE (ws w : World) (F : Nat → Prop) (M Q tw db k st sz : Nat) (ov : Value) (os : List Nat) (jb t : Nat) : Prop := ∃ G, RnI ws w F G M Q tw db k st sz ov os jb t
end Go.Proofs.YtnmdnglbpkpfdaaGreatDoor

/- run: by its contract. -/
namespace Go.Proofs.YtnmdnglbpkpfdaaGreatDoor
open Go.RowKit Go.Maps
set_option maxRecDepth 100000
theorem RunR.back {ws W w' : World} {F : Nat → Prop} {M Q tw db k st sz : Nat} {ov : Value} {os : List Nat} (h : RunR W w' F M Q tw db k st sz ov os) (t : Turns (fun _ => False) ws W) : RunR ws w' F M Q tw db k st sz ov os := by
  obtain ⟨G, hR, hG⟩ := h.ex
  have := t.size
  exact ⟨⟨G, hR, fun i hi => (hG i hi).imp id (fun r => by omega)⟩, (t.mono (fun _ _ r => r.elim)).trans h.tr (fun _ _ r => r)⟩
theorem armed_off {S : DevS} (h : S.off = false) (x : Int) : (armed S x).off = false ∧ (armed S x).last = S.last ∧ (armed S x).pend = S.pend ∧ (x ≤ 9223372036854775807 → S.fuse ≤ 9223372036854775807 → (armed S x).fuse ≤ 9223372036854775807) := by
  unfold armed
  split
  · exact ⟨h, rfl, rfl, fun _ h => h⟩
  · split
    · exact ⟨h, rfl, rfl, fun _ h => h⟩
    · exact ⟨h, rfl, rfl, fun h _ => by show x.toNat ≤ _; omega⟩
theorem sees_armed {S S' : DevS} (hl : S'.last = S.last) (hp : S'.pend = S.pend) (m a : List (Nat × Nat)) (f fa : Nat → List Int) (o : Nat) : seesF S' m f a fa o = seesF S m f a fa o := by
  have e : rdB S' o = rdB S o := by unfold rdB; rw [hl, hp]
  unfold seesF
  rw [e]
set_option maxHeartbeats 8000000 in
theorem run_any (er : Nat → Addr) {w0 ws : World} (hE : Errs w0 er) (hg : ErT w0) (B0 : Below w0.heap.size w0 ws) {F : Nat → Prop} {M Q tw db k st sz n : Nat} {ov : Value} {os : List Nat} (R : RsI ws F M Q tw db k st sz ov os) (hF : ∀ i, F i → w0.heap.size ≤ i) (ltw : w0.heap.size ≤ tw) (hol : os.length = n) (hn : 0 < n ∧ n ≤ 4096) (hnd : os.Nodup) (hos : ∀ o ∈ os, o < k ∧ (o < st ∨ st + sz ≤ o)) (hM : M ≤ 400000000) (hQ : Q ≤ 400000000) (ao : Option Addr) (nt ct : Nat) (ts : List TxIn) (hnt : nt ≤ 140737488355328) (htl : ts.length = nt) (hPs : ∀ x ∈ ts, PtLies w0 x.pa x.pn x.ps ∧ x.pn ≤ 140737488355328) (hTs : ∀ W, Turns (fun i => F i ∨ i = tw) ws W → ∀ (j : Nat) x, ts[j]? = some x → ∃ g p, ao = some ⟨g, p, none⟩ ∧ W.cell? ⟨g, p + j, none⟩ = some (.slice x.pa x.pn x.pc)) (arm : Int) (harm : arm ≤ 9223372036854775807) (bo : Option Addr) (m c : Nat) (ks : List Bool) (hm : m ≤ 140737488355328) (hkl : ks.length = m) (hK : ∀ W, Turns (fun i => F i ∨ i = tw) ws W → KLies W bo m c ks) :
    Calls Tryz.prog 37 #[.pointer (some ⟨tw, 0, none⟩), .slice ao nt ct, .agg #[.int .i64 arm, .slice bo m c]] ws fun e w' => e = .returned (.bool true) ∧ RunR ws w' F (M + 1000000) (Q + 100) tw db k st sz ov os := by
  obtain ⟨S0, N0, seq0, place0, free0, T0, q00, p00, wv0, xs0, D0, L0, C0, T0g, hxl0, hse0, hN0, hq0⟩ := R.ex
  obtain ⟨W, hW⟩ : ∃ W, ws.alloc (.cells #[.int .i64 arm, .slice bo m c] 76) = W := ⟨_, rfl⟩
  have bW : Below ws.heap.size ws W := by rw [← hW]; exact (Below.refl _ ws).alloc (Nat.le_refl _) _
  have tW := Below.turns bW (fun _ => False)
  have DW : Dev W db 0 S0 k N0 F := D0.turns tW (fun _ _ => id)
  have TW := T0g.kp (Kp.below (G := F) bW)
  have FW : W.heap[ws.heap.size]? = some (.cells #[.int .i64 arm, .slice bo m c] 76) := by rw [← hW]; exact (MapKept.heap_alloc ws _).1
  have hFl := D0.lt
  have lfb := heap_lt FW
  have ltl := heap_lt T0g.box
  have hFb : ∀ w', Turns (fun i => F i ∨ i = tw) W w' → w'.cell? ⟨ws.heap.size, 0, none⟩ = some (.int .i64 arm) ∧ w'.cell? ⟨ws.heap.size, 1, none⟩ = some (.slice bo m c) := fun w' t => by
    have := (t.block _ lfb (fun r => r.elim (fun r => by have := hFl _ r; omega) (fun r => by omega))).trans FW
    exact ⟨by simp [World.cell?, this], by simp [World.cell?, this]⟩
  have BW : Below w0.heap.size w0 W := B0.trans (bW.mono B0.size)
  have tY : ∀ w', Turns (fun i => F i ∨ i = tw) W w' → Turns (fun i => F i ∨ i = tw) ws w' := fun w' t => (tW.mono (fun _ _ r => r.elim)).trans t (fun _ _ r => r)
  have HTs : Hid (∀ w', Turns (fun i => F i ∨ i = tw) W w' → ∀ (j : Nat) x, ts[j]? = some x → ∃ g p, ao = some ⟨g, p, none⟩ ∧ w'.cell? ⟨g, p + j, none⟩ = some (.slice x.pa x.pn x.pc)) := fun w' t => hTs w' (tY w' t)
  have HK : Hid (∀ w', Turns (fun i => F i ∨ i = tw) W w' → KLies w' bo m c ks) := fun w' t => hK w' (tY w' t)
  have HB : Hid (∀ w', Turns (fun i => F i ∨ i = tw) W w' → Below w0.heap.size w0 w') := fun w' t => BW.trans (t.below (fun i r => r.elim (hF i) (fun e => by omega)) BW.size)
  have HR : Hid (∀ w', RunR W w' F (M + 1000000) (Q + 100) tw db k st sz ov os → RunR ws w' F (M + 1000000) (Q + 100) tw db k st sz ov os) := fun w' h => h.back tW
  have hEF : ∀ w', Turns F W w' → Errs w' er := fun w' t => hE.below (BW.trans (t.below hF BW.size)) (Nat.le_refl _)
  have h2 : st + sz ≤ k := L0.s2
  have s0 := B0.size
  have sW := bW.size
  have hg0 := hg.lt
  clear hTs hK tY B0 D0 T0g
  go_enter Tryz.func37, Tryz.ntmps37
  go_wp2_with fail
  try rw [hW]
  refine (openG TW DW L0 C0 (by omega) (by omega) hEF).mono ?_
  rintro e w3 ⟨jb, bm, rfl, lj, lb, hO⟩
  obtain ⟨⟨S', N', G, J, L, C, hN', hrd, hG, T3⟩, t3⟩ := hO
  have t3' : Turns (fun i => F i ∨ i = tw) W w3 := t3.mono (fun _ _ => Or.inl)
  have k3 := hFb w3 t3'
  have mA := arm_any (J.D.below (w' := w3.drew) ⟨rfl, rfl, rfl, Nat.le_refl _, fun _ _ => rfl⟩) arm harm
  have dr : Turns G w3 w3.drew := Turns.drewN G w3 1
  have hcs : ∀ w' : World, w'.heap[tw]? = w3.heap[tw]? → w'.heap[ws.heap.size]? = w3.heap[ws.heap.size]? → w'.cell? ⟨tw, 0, none⟩ = some (.pointer (some ⟨db, 0, none⟩)) ∧ w'.cell? ⟨ws.heap.size, 0, none⟩ = some (.int .i64 arm) := fun w' e1 e2 => by
    refine ⟨by simp [World.cell?, e1, T3.box], ?_⟩
    have := k3.1
    simp only [World.cell?, e2] at this ⊢
    exact this
  have k0 := hcs w3.drew rfl rfl
  clear hW
  have lT3 := heap_lt T3.box
  have lf3 : ws.heap.size < w3.heap.size := Nat.lt_of_lt_of_le lfb t3.size
  have gfb : ¬ G ws.heap.size := fun r => (hG _ r).elim (fun r => by have := hFl _ r; omega) (fun r => by omega)
  go_wp2_with fail
  go_region_held3 (fun w' => w'.cell? ⟨tw, 0, none⟩ = some (.pointer (some ⟨db, 0, none⟩)) ∧ w'.cell? ⟨ws.heap.size, 0, none⟩ = some (.int .i64 arm))
    (first | exact k0 | exact k1)
    (first
      | (go_at_call 19; refine mA.mono ?_; rintro e w4 ⟨rfl, q4⟩; have k1 := hcs w4 (q4.2.block tw lT3 T3.gt) (q4.2.block _ lf3 gfb)))
  have HI : Hid (RnE W w4 F M Q tw db k st sz ov os jb 0) := by
    have ha := armed_off C.on arm
    have t4 : Turns G w3 w4 := dr.trans q4.2 (fun _ _ r => r)
    refine ⟨G, ⟨armed S' arm, N', seq0, place0, (sz : Int) - 1, bm, 0, [], fun _ => [], [], seq0, place0, wv0, xs0, ⟨(J.below ⟨rfl, rfl, rfl, Nat.le_refl _, fun _ _ => rfl⟩ : Jn w3.drew db S' k N' G jb st sz (seq0 : Int) place0 ((sz : Int) - 1) bm 0 [] (fun _ => [])).same q4, L.like ha.2.1 (ha.2.2.1.trans L.calm) (ha.2.2.2 harm L.good.fuse), fun b => rfl, (fun p hp => by cases hp), by omega⟩, ha.1, T3.kp (Kp.same t4), hxl0, fun i o x ho hx => ?_, by omega, by omega, by omega⟩, hG, by omega, t3'.trans t4 (fun i hi r => (hG i r).elim Or.inl (fun q => by omega))⟩
    have h3 := hos o (List.mem_of_getElem? ho)
    rw [hse0 i o x ho hx, sees_armed ha.2.1 ha.2.2.1]
    simp only [seesF, lk]
    rw [hrd o h3.1 h3.2]
    rfl
  clear k0 k1 hcs mA dr k3 t3 T3 J L C hrd DW TW hse0 hEF
  go_wp2_with fail
  go_loopw [10] (fun i wr => ∃ t : Nat, t ≤ nt ∧ t ≤ 30 ∧ i = .int .i64 t ∧ RnE W wr F M Q tw db k st sz ov os jb t) (fun i _ => 30 - (intOf i).toNat)
  case atStart => exact ⟨0, Nat.zero_le _, Nat.zero_le _, rfl, HI.out⟩
  case round =>
    clear HI
    obtain ⟨t, ht1, ht2, rfl, G1, ⟨S, N1, seq, place, free, bm1, nd, a, fa, T, seq1, place1, wv1, xs1, JJ, hon, Tr, hxl, hsee, hN1, hsq, lbm⟩, gB, ljb, tr⟩ := hrel
    have hnti : (nt : Int) ≤ 140737488355328 := by omega
    have Br := HB.out wr tr
    have kf := hFb wr tr
    have kf0 := kf.1
    have kf1 := kf.2
    have gB0 : ∀ i, G1 i → w0.heap.size ≤ i := fun i hi => (gB i hi).elim (hF i) (fun r => by omega)
    have hz : ¬ G1 0 := fun r => by have := gB0 _ r; omega
    have gr : ErT wr := hg.below Br hg0
    by_cases hlt : t < nt ∧ t < 30
    · obtain ⟨hl1, hl2⟩ := hlt
      have hi1 : (t : Int) < nt := by omega
      have hi2 : (t : Int) < 30 := by omega
      obtain ⟨x, hx⟩ : ∃ x, ts[t]? = some x := ⟨_, List.getElem?_eq_getElem (by rw [htl]; exact hl1)⟩
      obtain ⟨hPx, hpx⟩ := hPs x (List.mem_of_getElem? hx)
      obtain ⟨ge, pe, hao, _⟩ := HTs.out wr tr t x hx
      subst hao
      have HC : Hid (∀ w', Turns (fun i => F i ∨ i = tw) W w' → w'.cell? ⟨ge, pe + t, none⟩ = some (.slice x.pa x.pn x.pc)) := fun w' t' => by
        obtain ⟨g, p, e, h⟩ := HTs.out w' t' t x hx
        cases e
        exact h
      clear hx kf
      go_wp2_with fail
      refine (Tx.begin JJ.J hon fa).mono ?_
      rintro e' w4 ⟨tb, wm, rfl, l1, l2, X4, t4⟩
      have T4 := Tr.kp (Kp.turns t4 (fun x cs ty fz g hx ht e => e.elim g (jty_jb JJ.J.J hx ht)))
      have sr := tr.size
      have tr4 : Turns (fun i => F i ∨ i = tw) W w4 := tr.trans t4 (fun i hi r => r.elim (fun r => (gB i r).elim Or.inl (fun q => by omega)) (fun e => by omega))
      have B4 := HB.out w4 tr4
      have hc4 := HC.out w4 tr4
      go_wp2_with fail
      refine (fillG X4 T4 hol (hxl.trans hol) hn hon h2 hos hnd hsee w0.heap.size B4 (Nat.le_refl _) gB0 (by omega) (by omega) x.pa x.pn x.pc x.ps hpx hPx (Nat.le_refl _)).mono ?_
      rintro e' w5 ⟨ns, m', f', nv, ys, sn, ks', rfl, I⟩
      obtain ⟨gn, cn, rfl⟩ : ∃ g c, nv = .slice (some ⟨g, 0, none⟩) n c := by
        have r := I.W.row
        rw [I.yl, hol] at r
        obtain ⟨g, c, e, _⟩ := (row_nat r).resolve_left (fun q => by omega)
        exact ⟨g, c, e⟩
      have s4 := tr4.size
      have tr5 : Turns (fun i => F i ∨ i = tw) W w5 := tr4.trans I.tr (fun i hi r => r.elim (fun r => (gB i r).elim Or.inl (fun q => by omega)) (fun e => by omega))
      have g5 : ErT w5 := hg.below (HB.out w5 tr5) hg0
      clear hc4 T4 X4 t4
      by_cases hla : Lasts S (costC m' a free)
      · as_aux_lemma =>
          go_wp2_with fail
          refine (commitG I.X JJ.L JJ.C JJ.O JJ.nb (fun p hp => hos p.1 (I.mo p hp)) I.few hla (by omega) (by omega)).mono ?_
          rintro e' w6 ⟨rfl, R6⟩
          obtain ⟨td6, tr6, S', N', G', seq', place', free', bm', nd', a', fa', T', q0', p0', JJ', hG', hbm', hN', hsq1, hsq2, hoff, hfz, hsee'⟩ := R6
          have K6 := Kp.commit I.X tr6
          have T6 := I.T.to K6 hG'
          have W6 := I.W.to K6 hG'
          have s5 := tr5.size
          have trc : Turns (fun i => F i ∨ i = tw) W w6 := tr5.trans tr6 (fun i hi r => by
            rcases r with r | r | r | r
            · exact (gB i r).elim Or.inl (fun q => by omega)
            · omega
            · omega
            · omega)
          have z4 : w6.cell? ⟨tw, 4, none⟩ = some wv1 := by simp [World.cell?, T6.box]
          have zf : w6.frozen? ⟨tw, 4, none⟩ = false := by simp [World.frozen?, T6.box]
          obtain ⟨T7, u7⟩ := T6.setWant W6
          have J7 : JS (w6.setCell ⟨tw, 4, none⟩ (.slice (some ⟨gn, 0, none⟩) n cn)) db S' k N' G' jb st sz seq' place' free' bm' nd' a' fa' T' q0' p0' := ⟨JJ'.J.turn1 T6.box (by decide) (by decide) T6.gt u7, JJ'.L, JJ'.C, JJ'.O, JJ'.nb⟩
          have tr7 : Turns (fun i => F i ∨ i = tw) W (w6.setCell ⟨tw, 4, none⟩ (.slice (some ⟨gn, 0, none⟩) n cn)) := trc.trans u7 (fun _ _ e => Or.inr e)
          have gB7 : ∀ i, G' i → F i ∨ W.heap.size ≤ i := fun i hi => (hG' i hi).elim (gB i) (fun r => Or.inr (by omega))
          have hse7 : ∀ (i o : Nat) (x : It), os[i]? = some o → ys[i]? = some x → x.bs = seesF S' [] fa' a' fa' o := fun i o x ho hx => by
            have h3 := hos o (List.mem_of_getElem? ho)
            rw [I.see i o x ho hx, hsee' o h3.1 h3.2]
          have lb7 : W.heap.size ≤ bm' := by rcases hbm' with e | e <;> omega
          clear T6 W6 K6 tr6 td6 hsee' trc
          by_cases hod : t % 2 = 1
          · have hodi : (t : Int).tmod 2 = 1 := by rw [Int.tmod_eq_emod_of_nonneg (by omega)]; omega
            go_wp2_with (go_at_call 15; refine (num7 _ _).mono ?_; rintro e' wn ⟨rfl, hwn⟩; subst wn)
            obtain ⟨w7, hw7⟩ : ∃ w7, w6.setCell ⟨tw, 4, none⟩ (.slice (some ⟨gn, 0, none⟩) n cn) = w7 := ⟨_, rfl⟩
            try rw [hw7]
            rw [hw7] at T7 u7 J7 tr7
            clear hw7 z4 zf u7
            have g7 : ErT w7 := hg.below (HB.out w7 tr7) hg0
            have hz7 : ¬ G' 0 := fun r => (gB7 _ r).elim (fun r => by have := hF _ r; omega) (fun r => by omega)
            go_wp2_with fail
            refine (checkG J7 hoff (by omega) g7 hz7 (by omega)).mono ?_
            rintro e' w8 ⟨cc, rfl, R8⟩
            have tr8 : Turns (fun i => F i ∨ i = tw) W w8 := tr7.trans R8.tr (fun i hi r => r.elim (fun r => (gB7 i r).elim Or.inl (fun q => by omega)) (fun e => by omega))
            have K8 : Kp G' w7 w8 := Kp.turns R8.tr (fun x cs ty fz g hx ht e => e.elim g (jty_jb J7.J.J hx ht))
            have s7 := tr7.size
            rcases R8.ex with ⟨rfl, S8, N8, G8, place8, free8, bm8, nd8, a8, fa8, T8, q8, p8, J8, hG8, hb8, hN8, hoff8, hsee8⟩ | ⟨rfl, _, R, N8, G8, D8, hG8, hN8, hcr⟩
            · have HX : Hid (RnE W w8 F M Q tw db k st sz ov os jb (t + 1)) := by
                refine ⟨G8, ⟨S8, N8, seq', place8, free8, bm8, nd8, a8, fa8, T8, q8, p8, _, ys, J8, hoff8, T7.to K8 hG8, I.yl, fun i o x ho hx => ?_, by omega, by omega, by rcases hb8 with e | e <;> omega⟩, fun i hi => (hG8 i hi).elim (gB7 i) (fun r => Or.inr (by omega)), ljb, tr8⟩
                have h3 := hos o (List.mem_of_getElem? ho)
                rw [hse7 i o x ho hx, hsee8 o h3.1 h3.2]
              clear J7 J8 I T7 R8 K8 hsee8 hse7 JJ JJ'
              go_wp2_with (go_at_call 15; refine (num7 _ _).mono ?_; rintro e' wn ⟨rfl, hwn⟩; subst wn)
              go_roundw
              case rel => exact ⟨t + 1, by omega, by omega, by go_num, HX.out⟩
              case measure => simp [intOf]; omega
            · have kz := hFb w8 tr8
              have kz0 := kz.1
              have kz1 := kz.2
              have mF := fallN (M := M + 1000000) (Q := Q + 100) D8 (T7.to K8 hG8) I.yl hos hse7 (fun i hi => (hG8 i hi).elim (gB7 i) (fun r => Or.inr (by omega))) tr8 HK.out hkl hm (by omega) (by omega) ((hcr ks).same (by omega)) arm
              clear J7 I T7 R8 K8 hse7 kz JJ JJ'
              go_wp2_with (go_at_call 15; refine (num7 _ _).mono ?_; rintro e' wn ⟨rfl, hwn⟩; subst wn)
              refine mF.mono ?_
              rintro e' wz ⟨rfl, hz9⟩
              go_wp2_with fail
              go_ret
              exact ⟨rfl, HR.out wz hz9⟩
          · have hodi : (t : Int).tmod 2 = 0 := by rw [Int.tmod_eq_emod_of_nonneg (by omega)]; omega
            have HX : Hid (RnE W (w6.setCell ⟨tw, 4, none⟩ (.slice (some ⟨gn, 0, none⟩) n cn)) F M Q tw db k st sz ov os jb (t + 1)) :=
              ⟨G', ⟨S', N', seq', place', free', bm', nd', a', fa', T', q0', p0', _, ys, J7, hoff, T7, I.yl, hse7, by omega, by omega, lb7⟩, gB7, ljb, tr7⟩
            clear T7 J7 JJ JJ' I hse7
            go_wp2_with (go_at_call 15; refine (num7 _ _).mono ?_; rintro e' wn ⟨rfl, hwn⟩; subst wn)
            go_roundw
            case rel => exact ⟨t + 1, by omega, by omega, by go_num, HX.out⟩
            case measure => simp [intOf]; omega
      · as_aux_lemma =>
          go_wp2_with fail
          refine (commitE I.X JJ.L JJ.C JJ.O JJ.nb (fun p hp => hos p.1 (I.mo p hp)) I.few hon hla (by omega) (by omega) g5 hz (by omega) (by omega) (by omega)).mono ?_
          rintro e' w6 ⟨rfl, R6⟩
          obtain ⟨R, N6, G6, D6, hG6, hN6, hcr⟩ := R6.ex
          have K6 := Kp.commit I.X R6.tr
          have s5 := tr5.size
          have trc : Turns (fun i => F i ∨ i = tw) W w6 := tr5.trans R6.tr (fun i hi r => by
            rcases r with r | r | r | r
            · exact (gB i r).elim Or.inl (fun q => by omega)
            · omega
            · omega
            · omega)
          have kz := hFb w6 trc
          have kz0 := kz.1
          have kz1 := kz.2
          have mF := fallS (M := M + 1000000) (Q := Q + 100) D6 (I.T.to K6 hG6) (I.W.to K6 hG6) hxl I.yl hos hsee I.see (fun i hi => (hG6 i hi).elim (gB i) (fun r => Or.inr (by omega))) trc HK.out hkl hm (by omega) (by omega) h2 (hcr ks) (by omega) arm
          clear I R6 K6 JJ kz
          go_wp2_with (go_at_call 15; refine (num7 _ _).mono ?_; rintro e' wn ⟨rfl, hwn⟩; subst wn)
          refine mF.mono ?_
          rintro e' wz ⟨rfl, hz9⟩
          go_wp2_with fail
          go_ret
          exact ⟨rfl, HR.out wz hz9⟩
    · have hend : ¬ (t : Int) < nt ∨ ((t : Int) < nt ∧ ¬ (t : Int) < 30) := by omega
      as_aux_lemma =>
        have kz := hFb wr tr
        have mF := fallN (M := M + 1000000) (Q := Q + 100) JJ.J.D Tr hxl hos hsee gB tr HK.out hkl hm (by omega) (by omega) (CrN.calm JJ.L (by omega) ks (fun b _ _ => (sees_ovl JJ.C b).symm)) arm
        clear JJ Tr kf kz
        rcases hend with hd | ⟨hd1, hd2⟩
        · go_wp2_with fail
          refine mF.mono ?_
          rintro e' wz ⟨rfl, hz9⟩
          go_wp2_with fail
          go_ret
          exact ⟨rfl, HR.out wz hz9⟩
        · go_wp2_with fail
          refine mF.mono ?_
          rintro e' wz ⟨rfl, hz9⟩
          go_wp2_with fail
          go_ret
          exact ⟨rfl, HR.out wz hz9⟩
end Go.Proofs.YtnmdnglbpkpfdaaGreatDoor

/- A town made, opened, and looked at, at rest: by their contracts. -/
namespace Go.Proofs.YtnmdnglbpkpfdaaGreatDoor
open Go.RowKit Go.Maps
set_option maxRecDepth 100000
/-- The shape of a town. -/
structure Shp7 (k st sz n : Nat) (os : List Nat) : Prop where
  h : 30 ≤ k ∧ k ≤ 200 ∧ 27 ≤ sz ∧ sz ≤ k - 1 ∧ st + sz ≤ k
  ol : os.length = n
  n1 : 0 < n ∧ n ≤ 4096
  nd : os.Nodup
  os : ∀ o ∈ os, o < k ∧ (o < st ∨ st + sz ≤ o)
/-- What town leaves. -/
structure TownR (w w' : World) (e : Ending) : Prop where
  ex : ∃ (k st sz tw db n : Nat) (G : Nat → Prop) (ov : Value) (os : List Nat), e = .returned (.tuple #[.pointer (some ⟨tw, 0, none⟩), .bool true]) ∧ Shp7 k st sz n os ∧ RsI w' G 1000 1 tw db k st sz ov os ∧ (∀ i, G i → w.heap.size ≤ i) ∧ w.heap.size ≤ tw
  b : Below w.heap.size w w'
theorem townR (w : World) (n0 st0 sz0 : Int) : Calls Tryz.prog 10 #[.int .i64 n0, .int .i64 st0, .int .i64 sz0] w fun e w' => TownR w w' e := by
  refine (town_any w n0 st0 sz0).mono ?_
  rintro e w2 ⟨k, st, sz, tw, db, N, F, ov, wv, xs, hsh, rfl, D2, hN, hF, T2, hxl, hxz, ltw, lov, b2⟩
  have hfg := fresh_good k (by omega) (by omega)
  have hos : ∀ o ∈ og st sz k, o < k ∧ (o < st ∨ st + sz ≤ o) := fun o ho => og_in ho
  have h1 := og_pos (st := st) (sz := sz) (k := k) (by omega) (by omega)
  have h2 := og_le st sz k
  refine ⟨⟨k, st, sz, tw, db, _, F, ov, og st sz k, rfl, ⟨hsh, rfl, ⟨h1, by omega⟩, og_nodup st sz k, hos⟩, ⟨_, N, 1, 0, (sz : Int) - 1, [], 1, 0, wv, xs, D2, Lg.fmt hfg (by omega) (by omega), FK_calm k st sz, T2, hxl, fun i o x ho hx => ?_, hN, Nat.le_refl _⟩, hF, ltw⟩, b2⟩
  have h3 := hos o (List.mem_of_getElem? ho)
  rw [hxz x (List.mem_of_getElem? hx)]
  show zB = rdB (FK k st sz) o
  unfold FK
  rw [rdB_fmt hfg (by omega) (by omega), if_neg (by omega), if_neg (by omega), rdB_zeros k o h3.1]
/-- An opened journal of a town at rest. -/
structure OpH (w w' : World) (F : Nat → Prop) (M Q tw db k st sz : Nat) (ov : Value) (os : List Nat) (jb : Nat) : Prop where
  ex : ∃ (S : DevS) (N : Nat) (G : Nat → Prop) (seq place bm : Nat) (wv : Value) (xs : List It), Jn w' db S k N G jb st sz (seq : Int) place ((sz : Int) - 1) bm 0 [] (fun _ => []) ∧ Lg S k st sz seq place ((sz : Int) - 1) [] seq place ∧ Calm S ∧ Tg w' G tw db st sz ov wv os xs ∧ xs.length = os.length ∧ (∀ (i o : Nat) (x : It), os[i]? = some o → xs[i]? = some x → x.bs = rdB S o) ∧ N ≤ M + 4097 ∧ seq ≤ Q ∧ (∀ i, G i → F i ∨ w.heap.size ≤ i)
  lj : w.heap.size ≤ jb
  tr : Turns F w w'
theorem openR {w : World} {F : Nat → Prop} {M Q tw db k st sz : Nat} {ov : Value} {os : List Nat} {er : Nat → Addr} (R : RsI w F M Q tw db k st sz ov os) (hos : ∀ o ∈ os, o < k ∧ (o < st ∨ st + sz ≤ o)) (hM : M ≤ 900000000) (hQ : Q ≤ 900000000) (hEF : ∀ w', Turns F w w' → Errs w' er) :
    Calls Tryz.prog 11 #[.pointer (some ⟨tw, 0, none⟩)] w fun e w' => ∃ (jb t : Nat), e = .returned (.tuple #[.pointer (some ⟨jb, 0, none⟩), .int .i64 t, .int .i64 0]) ∧ OpH w w' F M Q tw db k st sz ov os jb := by
  obtain ⟨S, N, seq, place, free, T, q0, p0, wv, xs, D, L, C, Tg0, hxl, hse, hN, hq⟩ := R.ex
  refine (openG Tg0 D L C (by omega) (by omega) hEF).mono ?_
  rintro e w' ⟨jb, bm, rfl, lj, lb, ⟨S', N', G, J, L', C', hN', hrd, hG, T3⟩, t3⟩
  refine ⟨jb, _, rfl, ⟨S', N', G, seq, place, bm, wv, xs, J, L', C', T3, hxl, fun i o x ho hx => ?_, by omega, hq, hG⟩, lj, t3⟩
  have h3 := hos o (List.mem_of_getElem? ho)
  rw [hse i o x ho hx, hrd o h3.1 h3.2]
  rfl
theorem holdsR {w1 w : World} {F : Nat → Prop} {M Q tw db k st sz n : Nat} {ov : Value} {os : List Nat} {jb : Nat} (O : OpH w1 w F M Q tw db k st sz ov os jb) (P : Shp7 k st sz n os) {B : Nat} (hB : B ≤ w1.heap.size) (hF : ∀ i, F i → B ≤ i) :
    Calls Tryz.prog 22 #[.pointer (some ⟨tw, 0, none⟩), .pointer (some ⟨jb, 0, none⟩)] w fun e w' => e = .returned (.bool true) ∧ Below B w w' ∧ ∃ G, RsI w' G (M + 4097) Q tw db k st sz ov os ∧ ∀ i, G i → B ≤ i := by
  obtain ⟨S, N, G, seq, place, bm, wv, xs, J, L, C, T, hxl, hse, hN, hq, hG⟩ := O.ex
  have s1 := O.tr.size
  have lj := O.lj
  have hGB : ∀ i, G i → B ≤ i := fun i hi => (hG i hi).elim (hF i) (fun r => by omega)
  have ph := P.h
  refine (holdsG J C.on T P.ol (hxl.trans P.ol) P.n1 (by omega) P.os (fun i o x ho hx => by rw [hse i o x ho hx]; simp [seesF, lk]) (by omega) hGB (by omega)).mono ?_
  rintro e w' ⟨rfl, b, J', T'⟩
  exact ⟨rfl, b, G, ⟨S, N, seq, place, _, [], seq, place, wv, xs, J'.D, L, C, T', hxl, fun i o x ho hx => by rw [hse i o x ho hx]; rfl, hN, hq⟩, hGB⟩
end Go.Proofs.YtnmdnglbpkpfdaaGreatDoor

/- Open by its contract, whatever the device does to it. -/
namespace Go.Proofs.YtnmdnglbpkpfdaaGreatDoor
open Go.RowKit Go.Maps
set_option maxRecDepth 100000
/-- What an Open leaves that met none. -/
def OpenS (w w' : World) (F : Nat → Prop) (d : Nat) (S : DevS) (k N st sz seq place : Nat) (T : List TxL) (e : Ending) : Prop := ∃ (jb bm : Nat) (S' : DevS) (N' : Nat), e = .returned (.tuple #[.pointer (some ⟨jb, 0, none⟩), .int .i64 T.length, .int .i64 0]) ∧ w.heap.size ≤ jb ∧ w.heap.size ≤ bm ∧ N' ≤ N + 4097 ∧ S'.off = false ∧ ((T = [] ∧ S' = S) ∨ ∃ a fa, 0 < a.length ∧ Rising a ∧ OutA k st sz a ∧ Cont a fa T ∧ (∀ q ∈ a, (fa q.1).length = 512 ∧ ∀ x ∈ fa q.1, 0 ≤ x ∧ x ≤ 255) ∧ S' = ckS S fa a st ((seq : Int) + T.length) (plEnd sz place T)) ∧ Jb w' jb d st sz ((seq : Int) + T.length) (plEnd sz place T) ((sz : Int) - 1) bm none ∧ Mp w' bm 0 [] ∧ (∃ G, Dev w' d 0 S' k N' G ∧ (∀ i, G i → F i ∨ w.heap.size ≤ i) ∧ ¬ G jb ∧ ¬ G bm) ∧ Turns F w w'
/-- What an Open leaves that met an error. -/
def OpenE (w w' : World) (F : Nat → Prop) (d : Nat) (S : DevS) (k N st sz seq place : Nat) (T : List TxL) (e : Ending) : Prop := ∃ (p : Int × DevS) (N' : Nat) (a : List (Nat × Nat)) (fa : Nat → List Int), e = .returned (.tuple #[.pointer none, .int .i64 0, .int .i64 p.1]) ∧ N' ≤ N + 4097 ∧ p.1 ≠ 0 ∧ 0 < a.length ∧ Rising a ∧ OutA k st sz a ∧ Cont a fa T ∧ (∀ q ∈ a, (fa q.1).length = 512 ∧ ∀ x ∈ fa q.1, 0 ≤ x ∧ x ≤ 255) ∧ p = ckP k (0, S) fa a st ((seq : Int) + T.length) (plEnd sz place T) ∧ (∃ G, Dev w' d 0 p.2 k N' G ∧ ∀ i, G i → F i ∨ w.heap.size ≤ i) ∧ Turns F w w'
set_option maxHeartbeats 4000000 in
theorem open_all {w : World} {d : Nat} {S : DevS} {k N : Nat} {F : Nat → Prop} {er : Nat → Addr} (hD : Dev w d 0 S k N F) (st sz : Nat) (h1 : 27 ≤ sz) (h2 : st + sz ≤ k) (hEF : ∀ w', Turns F w w' → Errs w' er)
    (seq place : Nat) (hh : (hdR (rdB S st) (sz - 1)).1.1 = seq ∧ (hdR (rdB S st) (sz - 1)).2.1.1 = place) (hok : hdOk (rdB S st) (sz - 1) = true) (hp : place ≤ 4096) {T : List TxL} (hT : LogT S k st sz seq place ((sz : Int) - 1) T) (hs : (seq : Int) + T.length ≤ 4611686018427387904) (ho : S.off = false) (hg : ErT w) (hz : ¬ F 0) (hN : N ≤ 900000000)
    (hgB : ∀ b, b < k → (rdB S b).length = 512 ∧ ∀ x ∈ rdB S b, 0 ≤ x ∧ x ≤ 255) :
    Calls Tryz.prog 48 #[.pointer (some ⟨d, 0, none⟩), .int .i64 st, .int .i64 sz] w fun e w' => OpenS w w' F d S k N st sz seq place T e ∨ OpenE w w' F d S k N st sz seq place T e := by
  have hF := hD.lt
  have hk := hD.good.top
  obtain ⟨W, hW⟩ : ∃ W, w.alloc (.cells #[.pointer (some ⟨d, 0, none⟩), .int .i64 st, .int .i64 sz] 98) = W := ⟨_, rfl⟩
  have hb : Below w.heap.size w W := by rw [← hW]; exact (Below.refl _ w).alloc (Nat.le_refl _) _
  have x0 : W.cell? ⟨w.heap.size, 0, none⟩ = some (.pointer (some ⟨d, 0, none⟩)) := by rw [← hW]; simp
  have x1 : W.cell? ⟨w.heap.size, 1, none⟩ = some (.int .i64 st) := by rw [← hW]; simp
  have x2 : W.cell? ⟨w.heap.size, 2, none⟩ = some (.int .i64 sz) := by rw [← hW]; simp
  have hs0 : W.heap.size = w.heap.size + 1 := by rw [← hW]; simp
  have hDW := hD.below hb
  have hfit : fitB k st sz = true := by simp [fitB]; omega
  have m1 := fits_any hDW st sz (by omega) (by omega) (by omega)
  rw [hfit] at m1
  go_enter Tryz.func48, Tryz.ntmps48
  go_wp2_with fail
  try rw [hW]
  refine m1.mono ?_
  rintro e w1 ⟨rfl, q1⟩
  have old : ∀ j v, W.cell? ⟨w.heap.size, j, none⟩ = some v → w1.cell? ⟨w.heap.size, j, none⟩ = some v := fun j v h => (World.cell?_of_block (q1.2.block w.heap.size (by omega) (fun r => by have := hF _ r; omega))).trans h
  have y0 := old 0 _ x0
  have y1 := old 1 _ x1
  have y2 := old 2 _ x2
  have s1 := q1.2.size
  have T1 : Turns F w w1 := (Below.turns hb F).trans q1.2 (fun _ _ h => h)
  have HT1 : Hid (Turns F w w1) := T1
  clear x0 x1 x2 old m1
  go_wp2_with fail
  refine (begun_any q1.1).mono ?_
  rintro e w2 ⟨ev, rfl, hev, k2, q2⟩
  have he : begE S = 0 := by unfold begE; rw [if_neg (by simp [ho])]
  rw [he] at hev
  obtain ⟨_, rfl⟩ := hev.resolve_right (fun h => h.1 rfl)
  have hF1 : ∀ i, F i → i < w1.heap.size := fun i r => by have := hF i r; omega
  have g2 := Wg.start hF1 k2 q2
  obtain ⟨wb, hwb⟩ : ∃ wb, w1.heap.size = wb := ⟨_, rfl⟩
  rw [hwb] at g2
  have EF : ∀ w', Turns (fun i => F i ∨ i = wb) w1 w' → Errs w' er := fun w' t => hEF w' (T1.trans (t.mono (G := fun i => F i) (fun i hi r => r.elim id (fun r => by omega))) (fun _ _ h => h))
  have rg : ∀ w', Turns (fun i => F i ∨ i = wb) w1 w' → ∀ j v, w1.cell? ⟨w.heap.size, j, none⟩ = some v → w'.cell? ⟨w.heap.size, j, none⟩ = some v := fun w' t j v h => (World.cell?_of_block (t.block w.heap.size (by omega) (fun r => r.elim (fun r => by have := hF _ r; omega) (fun r => by omega)))).trans h
  have u0 := rg w2 g2.tr 0 _ y0
  have u1 := rg w2 g2.tr 1 _ y1
  have u2 := rg w2 g2.tr 2 _ y2
  have hwl := heap_lt g2.wk
  clear k2 q2 q1 hDW hD hb T1 hW
  go_wp2_with fail
  have hB0 := hgB st (by omega)
  refine (found_ok g2 st sz h1 h2 hk ho EF hB0.1 hB0.2 seq place hh hok).mono ?_
  rintro e w3 ⟨jb, bm, rfl, lj, lm, J3, M3, g3, kp3⟩
  have jw : jb ≠ wb := by omega
  have mw : bm ≠ wb := by omega
  have jl := heap_lt J3
  have ml := M3.lt
  clear u0 u1 u2 kp3 g2
  go_wp2_with fail
  have hjb : jb ≠ bm := mp_no_cells M3 J3
  refine (takeUp_any (T := T) g3 J3 M3 (Or.inr ⟨lj, jl⟩) (Or.inr ⟨lm, ml⟩) jw mw hjb (by omega) (by omega) (by omega) h2 hk hp ho EF hgB hT (by omega) hN).mono ?_
  rintro e w4 ⟨rfl, TK⟩
  obtain ⟨bm', p9, N9, lb9, hN9, C4, hp9⟩ := TK
  have T4 : Turns F w1 w4 := C4.g.tr.mono (fun i hi r => r.elim (fun r => r.elim id (fun r => by omega)) (fun r => by omega))
  have g4 : ErT w4 := hg.turns (HT1.out.trans T4 (fun _ _ h => h)) hz
  obtain ⟨ev, hev, hwk⟩ := C4.g.wk
  have e0 := hwk.c0
  have e1 := hwk.c1
  obtain ⟨G, D, hG, hX⟩ := C4.g.dv
  clear g3 J3 M3
  by_cases hc : p9.1 = 0
  · have HP9 : Hid (p9.2.off = false ∧ ((T = [] ∧ p9.2 = S) ∨ ∃ a fa, 0 < a.length ∧ Rising a ∧ OutA k st sz a ∧ Cont a fa T ∧ (∀ q ∈ a, (fa q.1).length = 512 ∧ ∀ x ∈ fa q.1, 0 ≤ x ∧ x ≤ 255) ∧ p9.2 = ckS S fa a st (seq + T.length) (plEnd sz place T))) := by
      rcases hp9 with ⟨q1, q2⟩ | ⟨a, fa, q1, q2, q3, q4, q5, q6⟩
      · rw [q2]; exact ⟨ho, Or.inl ⟨q1, rfl⟩⟩
      · have hL : Lasts S (a.length + 3) := by
          have := runP_lasts (ckO fa a st (seq + T.length) (plEnd sz place T)) S ho (ckO_ok (by omega) q3 (fun p hp => (q5 p hp).1) _ _) (by rw [← ckP_run, ← q6]; exact hc)
          rwa [show (ckO fa a st ((seq : Int) + T.length) (plEnd sz place T)).length = a.length + 3 by simp [ckO, homeW_len]] at this
        rw [ckP_ok (fun p hp => (q3 p hp).1) (fun p hp => (q5 p hp).1) (by omega) hL] at q6
        rw [q6]
        exact ⟨(ckS_lasts (n := 0) hL).on, Or.inr ⟨a, fa, q1, q2, q3, q4, q5, rfl⟩⟩
    rw [hc] at hev
    obtain ⟨_, rfl⟩ := hev.resolve_right (fun h => h.1 rfl)
    clear hp9
    go_wp2
    refine bodyPost_ret (results_tmp3 rfl _ _ _) rfl ?_
    exact Or.inl ⟨jb, bm', p9.2, N9, rfl, by omega, by omega, hN9, HP9.out.1, HP9.out.2, C4.J, C4.A, ⟨G, D, fun i hi => (hG i hi).elim (fun q => q.imp id (fun q => by omega)) (fun r => Or.inr (by omega)), hX jb (Or.inr (Or.inl rfl)), hX bm' (Or.inr (Or.inr rfl))⟩, HT1.out.trans T4 (fun _ _ h => h)⟩
  · have HP9 : Hid (∃ a fa, 0 < a.length ∧ Rising a ∧ OutA k st sz a ∧ Cont a fa T ∧ (∀ q ∈ a, (fa q.1).length = 512 ∧ ∀ x ∈ fa q.1, 0 ≤ x ∧ x ≤ 255) ∧ p9 = ckP k (0, S) fa a st (seq + T.length) (plEnd sz place T)) := by
      rcases hp9 with ⟨q1, q2⟩ | h
      · rw [q2] at hc; exact absurd rfl hc
      · exact h
    obtain ⟨s, hevs⟩ := (hev.resolve_left (fun h => hc h.1)).2
    have hev2 := hev
    subst hevs
    clear hp9
    go_wp2_with fail
    refine (jcodeOf_any hev2 g4).mono ?_
    rintro e w5 ⟨rfl, b5⟩
    go_wp2_with fail
    refine bodyPost_ret (results_tmp3 rfl _ _ _) rfl ?_
    obtain ⟨a, fa, q1, q2, q3, q4, q5, q6⟩ := HP9.out
    have b5t := Below.turns b5 (fun _ => False)
    exact Or.inr ⟨p9, N9, a, fa, rfl, hN9, hc, q1, q2, q3, q4, q5, q6, ⟨G, D.turns b5t (fun _ _ => id), fun i hi => (hG i hi).elim (fun q => q.imp id (fun q => by omega)) (fun r => Or.inr (by omega))⟩, (HT1.out.trans T4 (fun _ _ h => h)).trans b5t (fun _ _ => False.elim)⟩
end Go.Proofs.YtnmdnglbpkpfdaaGreatDoor

/- Open of a town, whatever the device does to it: by its contract. -/
namespace Go.Proofs.YtnmdnglbpkpfdaaGreatDoor
open Go.RowKit Go.Maps
set_option maxRecDepth 100000
theorem cont_nil {a : List (Nat × Nat)} {fa : Nat → List Int} (h : Cont a fa []) (h0 : 0 < a.length) : False := by
  cases a with
  | nil => simp at h0
  | cons p a =>
    have := h p.1
    rw [lk_cons, if_pos rfl] at this
    cases this
/-- What Open leaves of a device with a journal. -/
structure OpA (w w' : World) (F : Nat → Prop) (tw db : Nat) (S : DevS) (k N st sz seq place : Nat) (ov wv : Value) (os : List Nat) (xs : List It) (T : List TxL) (jb bm : Nat) : Prop where
  ex : ∃ (S' : DevS) (N' : Nat) (G : Nat → Prop), Jn w' db S' k N' G jb st sz (seq : Int) place ((sz : Int) - 1) bm 0 [] (fun _ => []) ∧ Lg S' k st sz seq place ((sz : Int) - 1) [] seq place ∧ S'.off = false ∧ (T = [] → S' = S) ∧ (Calm S → Calm S') ∧ N' ≤ N + 4097 ∧ (∀ b, b < k → (b < st ∨ st + sz ≤ b) → rdB S' b = (ovl T b).getD (rdB S b)) ∧ (∀ i, G i → F i ∨ w.heap.size ≤ i) ∧ Tg w' G tw db st sz ov wv os xs
  tr : Turns F w w'
/-- What it leaves where the power failed under it. -/
structure OpAE (w w' : World) (F : Nat → Prop) (tw db : Nat) (S : DevS) (k N st sz seq : Nat) (ov wv : Value) (os : List Nat) (xs : List It) (T : List TxL) : Prop where
  ne : T ≠ []
  ex : ∃ (R : DevS) (N' : Nat) (G : Nat → Prop), Dev w' db 0 R k N' G ∧ (∀ i, G i → F i ∨ w.heap.size ≤ i) ∧ N' ≤ N + 4097 ∧ (∀ ks new, CrO R k st sz seq (seeT S T) new ks) ∧ Tg w' G tw db st sz ov wv os xs
  tr : Turns F w w'
def OpAR (w w' : World) (F : Nat → Prop) (tw db : Nat) (S : DevS) (k N st sz seq place : Nat) (ov wv : Value) (os : List Nat) (xs : List It) (T : List TxL) (e : Ending) : Prop := (∃ jb bm, e = .returned (.tuple #[.pointer (some ⟨jb, 0, none⟩), .int .i64 T.length, .int .i64 0]) ∧ w.heap.size ≤ jb ∧ w.heap.size ≤ bm ∧ OpA w w' F tw db S k N st sz seq place ov wv os xs T jb bm) ∨ (e = .returned (.tuple #[.pointer none, .int .i64 0, .int .i64 3]) ∧ OpAE w w' F tw db S k N st sz seq ov wv os xs T)
set_option maxHeartbeats 2000000 in
theorem openA {w : World} {k N : Nat} {S : DevS} {F : Nat → Prop} {tw db st sz seq place : Nat} {free : Int} {T : List TxL} {seq0 place0 : Nat} {ov wv : Value} {os : List Nat} {xs : List It} {er : Nat → Addr} (t : Tg w F tw db st sz ov wv os xs) (hD : Dev w db 0 S k N F) (hLg : Lg S k st sz seq place free T seq0 place0) (ho : S.off = false) (hg : ErT w) (hz : ¬ F 0) (hN : N ≤ 900000000) (hs : seq ≤ 4611686018427387904) (hEF : ∀ w', Turns F w w' → Errs w' er) :
    Calls Tryz.prog 11 #[.pointer (some ⟨tw, 0, none⟩)] w fun e w' => OpAR w w' F tw db S k N st sz seq place ov wv os xs T e := by
  have dr : Turns F w w.drew := Turns.drewN F w 1
  have hDd : Dev w.drew db 0 S k N F := hD.below ⟨rfl, rfl, rfl, Nat.le_refl _, fun _ _ => rfl⟩
  have hcs : ∀ w' : World, w'.heap[tw]? = w.heap[tw]? → w'.cell? ⟨tw, 0, none⟩ = some (.pointer (some ⟨db, 0, none⟩)) ∧ w'.cell? ⟨tw, 1, none⟩ = some (.int .i64 (st : Nat)) ∧ w'.cell? ⟨tw, 2, none⟩ = some (.int .i64 (sz : Nat)) := fun w' e => by
    rw [t.box] at e
    exact ⟨by simp [World.cell?, e], by simp [World.cell?, e], by simp [World.cell?, e]⟩
  have k0 := hcs w.drew rfl
  have hq0 := hLg.q0
  have hq1 := hLg.q1
  have hp0 := hLg.p0
  have hz1 := hLg.s1
  have hz2 := hLg.s2
  have htop := hLg.good.top
  have hb := head_back seq0 place0 ((sz : Int) - 1) hq0 (by omega) (by omega) (by omega)
  have mO := open_all hDd st sz hz1 hz2 (fun w' t' => hEF w' (dr.trans t' (fun _ _ h => h))) seq0 place0 (by rw [hLg.head]; exact ⟨hb.1, hb.2.1⟩) (by rw [hLg.head]; exact hb.2.2) (by omega) (hLg.log hs) (by omega) ho (hg.turns dr hz) hz hN (fun b hb' => hLg.good.reads7 b hb')
  have HX : Hid (∀ w1 e, OpenS w.drew w1 F db S k N st sz seq0 place0 T e → ∃ jb bm, e = .returned (.tuple #[.pointer (some ⟨jb, 0, none⟩), .int .i64 T.length, .int .i64 0]) ∧ w.heap.size ≤ jb ∧ w.heap.size ≤ bm ∧ OpA w w1 F tw db S k N st sz seq place ov wv os xs T jb bm) := by
    rintro w1 e ⟨jb, bm, S', N', rfl, lj, lb, hN', hoff, hcase, J, M, ⟨G, D, hG, gj, gb⟩, t1⟩
    replace t1 := dr.trans t1 (fun _ _ h => h)
    refine ⟨jb, bm, rfl, lj, lb, ⟨S', N', G, ⟨D, ?_, M, (fun p hp => by cases hp), gj, gb, (fun p hp => by cases hp), fun e => mp_cells M J e⟩, ?_, hoff, ?_, ?_, hN', ?_, hG, t.to (Kp.same t1) hG⟩, t1⟩
    · rw [show (seq : Int) = (seq0 : Int) + T.length by omega, hLg.p1]
      exact J
    · rcases hcase with ⟨rfl, rfl⟩ | ⟨a, fa, q1, q2, q3, q4, q5, rfl⟩
      · have e1 : seq = seq0 := by simpa using hq1
        have e2 : place = place0 := hLg.p1
        have e3 : free = (sz : Int) - 1 := by have := hLg.fr; simp [strm] at this; exact this
        subst e1 e2 e3
        exact hLg
      · rw [show (seq0 : Int) + T.length = (seq : Int) by omega, ← hLg.p1]
        exact hLg.ck q2 q3 q5
    · rcases hcase with ⟨rfl, rfl⟩ | ⟨a, fa, q1, q2, q3, q4, q5, rfl⟩
      · exact fun _ => rfl
      · exact fun e => by subst e; exact absurd q1 (fun q => cont_nil q4 q)
    · rcases hcase with ⟨rfl, rfl⟩ | ⟨a, fa, q1, q2, q3, q4, q5, rfl⟩
      · exact id
      · exact fun hC => hC.ck _ _ _ _ _
    · intro b hb1 hb2
      rcases hcase with ⟨rfl, rfl⟩ | ⟨a, fa, q1, q2, q3, q4, q5, rfl⟩
      · rfl
      · rw [(rdB_ck hLg.good (by omega) q2 (fun p hp => (q3 p hp).1) q5).1, if_neg (by omega), ← q4 b]
        by_cases q : b ∈ a.map (·.1)
        · have := lk_keys.2 q
          obtain ⟨g, hg⟩ := Option.isSome_iff_exists.1 this
          rw [if_pos q, hg]
          rfl
        · have : lk a b = none := by
            cases r : lk a b with
            | none => rfl
            | some g => exact absurd (lk_keys.1 (by rw [r]; rfl)) q
          rw [if_neg q, this]
          rfl
  have HY : Hid (∀ w1 e, OpenE w.drew w1 F db S k N st sz seq0 place0 T e → e = .returned (.tuple #[.pointer none, .int .i64 0, .int .i64 3]) ∧ OpAE w w1 F tw db S k N st sz seq ov wv os xs T) := by
    rintro w1 e ⟨p, N', a, fa, rfl, hN', hc, q1, q2, q3, q4, q5, rfl, ⟨G, D, hG⟩, t1⟩
    replace t1 := dr.trans t1 (fun _ _ h => h)
    rw [show (seq0 : Int) + T.length = (seq : Int) by omega, ← hLg.p1] at *
    have cr := fun ks new => home_crash hLg ho q2 q3 q5 q4 hc ks new
    refine ⟨by rw [(cr [] (fun _ => [])).1], ?_, ⟨_, N', G, D, hG, hN', fun ks new => (cr ks new).2, t.to (Kp.same t1) hG⟩, t1⟩
    rintro rfl
    exact cont_nil q4 q1
  have HC : Hid (∀ w1 e, (OpenS w.drew w1 F db S k N st sz seq0 place0 T e ∨ OpenE w.drew w1 F db S k N st sz seq0 place0 T e) → Turns F w w1 ∧ ∃ (jo : Option Addr) (tk ec : Int), e = .returned (.tuple #[.pointer jo, .int .i64 tk, .int .i64 ec]) ∧ OpAR w w1 F tw db S k N st sz seq place ov wv os xs T e) := fun w1 e h => by
    rcases h with h | h
    · have h' := HX.out w1 e h
      obtain ⟨jb, bm, e1, _, _, hO⟩ := h'
      exact ⟨hO.tr, _, _, _, e1, Or.inl (HX.out w1 e h)⟩
    · have h' := HY.out w1 e h
      exact ⟨h'.2.tr, _, _, _, h'.1, Or.inr h'⟩
  clear HX HY
  go_enter Tryz.func11, Tryz.ntmps11
  go_wp2_with fail
  go_region_held3 (fun w' => w'.cell? ⟨tw, 0, none⟩ = some (.pointer (some ⟨db, 0, none⟩)) ∧ w'.cell? ⟨tw, 1, none⟩ = some (.int .i64 (st : Nat)) ∧ w'.cell? ⟨tw, 2, none⟩ = some (.int .i64 (sz : Nat)))
    (first | exact k0 | exact k1)
    (first
      | (go_at_call 48; refine mO.mono ?_; rintro e w1 hR; obtain ⟨t1, jo, tk, ec, rfl, hO⟩ := HC.out w1 e hR; have k1 := hcs w1 (t1.block tw (heap_lt t.box) t.gt)))
  have HO : Hid (OpAR w w1 F tw db S k N st sz seq place ov wv os xs T (.returned (.tuple #[.pointer jo, .int .i64 tk, .int .i64 ec]))) := hO
  clear hR HC mO hO
  go_wp2_with (go_at_call 15; refine (num7 _ _).mono ?_; rintro e wn ⟨rfl, hwn⟩; subst wn)
  all_goals refine bodyPost_ret (results_tmp3 rfl _ _ _) rfl ?_
  exact HO.out
end Go.Proofs.YtnmdnglbpkpfdaaGreatDoor

/- JournalAgain. -/
namespace Go.Proofs.YtnmdnglbpkpfdaaGreatDoor
open Go.RowKit Go.Maps
set_option maxRecDepth 100000
theorem TxsLies.parts {w : World} {ao : Option Addr} {n : Nat} {ts : List TxIn} (h : TxsLies w ao n ts) : ∀ x ∈ ts, PtLies w x.pa x.pn x.ps ∧ x.pn ≤ 140737488355328 := fun x hx => by
  obtain ⟨j, hj⟩ := List.getElem?_of_mem hx
  exact (h.hcells j x hj).1
theorem TxsLies.row {w w' : World} {ao : Option Addr} {n : Nat} {ts : List TxIn} (h : TxsLies w ao n ts) (b : Below w.heap.size w w') : ∀ (j : Nat) x, ts[j]? = some x → ∃ g p, ao = some ⟨g, p, none⟩ ∧ w'.cell? ⟨g, p + j, none⟩ = some (.slice x.pa x.pn x.pc) := fun j x hx => by
  obtain ⟨_, g, p, e, hc⟩ := h.hcells j x hx
  exact ⟨g, p, e, cell_later b hc⟩
theorem KLies.later {w w' : World} {ao : Option Addr} {n c : Nat} {ks : List Bool} (h : KLies w ao n c ks) (hb : Below w.heap.size w w') : KLies w' ao n c ks :=
  ⟨h.hlen, h.hle, fun j s hj => by
    obtain ⟨g, o, e, h1⟩ := h.hcells j s hj
    exact ⟨g, o, e, cell_later hb h1⟩⟩
set_option maxHeartbeats 8000000 in
theorem again_any (er : Nat → Addr) (w : World) (hE : Errs w er) (hg : ErT w) (n0 st0 sz0 : Int) (ao : Option Addr) (nt ct : Nat) (ts : List TxIn) (hnt : nt ≤ 140737488355328) (hTs : TxsLies w ao nt ts) (arm : Int) (harm : arm ≤ 9223372036854775807) (bo : Option Addr) (m c : Nat) (ks : List Bool) (hm : m ≤ 140737488355328) (hK : KLies w bo m c ks) :
    Calls Tryz.prog 7 #[.int .i64 n0, .int .i64 st0, .int .i64 sz0, .slice ao nt ct, .agg #[.int .i64 arm, .slice bo m c]] w fun e w' => e = .returned (.bool true) ∧ Below w.heap.size w w' := by
  obtain ⟨W, hW⟩ : ∃ W, w.alloc (.cells #[.int .i64 arm, .slice bo m c] 76) = W := ⟨_, rfl⟩
  have bW : Below w.heap.size w W := by rw [← hW]; exact (Below.refl _ w).alloc (Nat.le_refl _) _
  obtain ⟨fb, hfb⟩ : ∃ fb, w.heap.size = fb := ⟨_, rfl⟩
  have FW : W.heap[fb]? = some (.cells #[.int .i64 arm, .slice bo m c] 76) := by rw [← hW, ← hfb]; exact (MapKept.heap_alloc w _).1
  have lfb := heap_lt FW
  have sW := bW.size
  have hEW : Errs W er := hE.below bW (Nat.le_refl _)
  have hg0 := hg.lt
  go_enter Tryz.func7, Tryz.ntmps7
  go_wp2_with fail
  try rw [hW]
  refine (head7 er W hEW).mono ?_
  rintro e w1 ⟨rfl, B1⟩
  have s1 := B1.size
  go_wp2_with fail
  refine (townR w1 n0 st0 sz0).mono ?_
  rintro e w2 ⟨⟨k, st, sz, tw, db, n, F, ov, os, rfl, P, R2, hF, ltw⟩, b2⟩
  have B2 : Below w.heap.size w w2 := (bW.trans (B1.mono sW)).trans (b2.mono (by omega))
  have s2 := b2.size
  have f2 : w2.heap[fb]? = some (.cells #[.int .i64 arm, .slice bo m c] 76) := (b2.block fb (by omega)).trans ((B1.block fb lfb).trans FW)
  have x0 : w2.cell? ⟨fb, 0, none⟩ = some (.int .i64 arm) := by simp [World.cell?, f2]
  have x1 : w2.cell? ⟨fb, 1, none⟩ = some (.slice bo m c) := by simp [World.cell?, f2]
  have ph := P.h
  have tB : ∀ W', Turns (fun i => F i ∨ i = tw) w2 W' → Below w.heap.size w W' := fun W' t => B2.trans (t.below (fun i r => r.elim (fun r => by have := hF i r; omega) (fun e => by omega)) B2.size)
  have HRun : Hid (Calls Tryz.prog 37 #[.pointer (some ⟨tw, 0, none⟩), .slice ao nt ct, .agg #[.int .i64 arm, .slice bo m c]] w2 fun e w' => e = .returned (.bool true) ∧ RunR w2 w' F (1000 + 1000000) (1 + 100) tw db k st sz ov os) := run_any er hE hg B2 R2 (fun i r => by have := hF i r; omega) (by omega) P.ol P.n1 P.nd P.os (by omega) (by omega) ao nt ct ts hnt hTs.hlen hTs.parts (fun W' t => hTs.row (tB W' t)) arm harm bo m c ks hm hK.hlen (fun W' t => hK.later (tB W' t))
  clear hW
  go_wp2_with fail
  refine HRun.out.mono ?_
  rintro e w3 ⟨rfl, R3⟩
  obtain ⟨G3, RR, hG3⟩ := R3.ex
  have B3 : Below w.heap.size w w3 := tB w3 R3.tr
  have gB3 : ∀ i, G3 i → w.heap.size ≤ i := fun i hi => (hG3 i hi).elim (fun r => by have := hF i r; omega) (fun r => by omega)
  have hEF : ∀ w', Turns G3 w3 w' → Errs w' er := fun w' t => hE.below (B3.trans (t.below gB3 B3.size)) (Nat.le_refl _)
  clear HRun x0 x1 f2 FW R3 tB R2
  go_wp2_with fail
  refine (openR RR P.os (by omega) (by omega) hEF).mono ?_
  rintro e w4 ⟨jb, tk, rfl, O4⟩
  obtain ⟨S, N, G, seq, place, bm, wv, xs, J, L, C, T, hxl, hse, hN, hq, hG⟩ := O4.ex
  have s3 := B3.size
  have gB : ∀ i, G i → w.heap.size ≤ i := fun i hi => (hG i hi).elim (gB3 i) (fun r => by omega)
  have B4 : Below w.heap.size w w4 := B3.trans (O4.tr.below gB3 B3.size)
  have c4 : w4.cell? ⟨tw, 0, none⟩ = some (.pointer (some ⟨db, 0, none⟩)) := by simp [World.cell?, T.box]
  have s4 := B4.size
  clear RR O4 hEF
  go_wp2_with fail
  refine (durable_any J.D).mono ?_
  rintro e w5 ⟨⟨g5, rfl, lg5, hb5⟩, q5⟩
  have J5 := J.same q5
  have T5 := T.kp (Kp.same q5.2)
  have B5 := B4.trans (q5.2.below gB B4.size)
  have ng5 : ¬ G g5 := fun r => by have := J.D.lt _ r; omega
  have l5 := heap_lt hb5
  have c5 : w5.cell? ⟨tw, 0, none⟩ = some (.pointer (some ⟨db, 0, none⟩)) := by simp [World.cell?, T5.box]
  clear J T q5 c4
  go_wp2_with fail
  refine (arm_any J5.D 1 (by omega)).mono ?_
  rintro e w6 ⟨rfl, q6⟩
  rw [show (1 : Int) = ((1 : Nat) : Int) from rfl, armed_on C.on] at q6
  obtain ⟨S6, hS6⟩ : ∃ S6 : DevS, { S with fuse := 1 } = S6 := ⟨_, rfl⟩
  have L6 : Lg S6 k st sz seq place ((sz : Int) - 1) [] seq place := by rw [← hS6]; exact L.armed 1 (by omega)
  have o6 : S6.off = false := by rw [← hS6]; exact C.on
  have la6 : S6.last = S.last := by rw [← hS6]
  have pe6 : S6.pend = [] := by rw [← hS6]; exact L.calm
  rw [hS6] at q6
  have T6 := T5.kp (Kp.same q6.2)
  have B6 := B5.trans (q6.2.below gB B5.size)
  have hb6 := (q6.2.block g5 l5 ng5).trans hb5
  have g6 : ErT w6 := hg.below B6 hg0
  have hz : ¬ G 0 := fun r => by have := gB _ r; omega
  have hEF6 : ∀ w', Turns G w6 w' → Errs w' er := fun w' t => hE.below (B6.trans (t.below gB B6.size)) (Nat.le_refl _)
  clear J5 T5 c5
  go_wp2_with fail
  refine (openA T6 q6.1 L6 o6 g6 hz (by omega) (by omega) hEF6).mono ?_
  rintro e w7 hO
  obtain ⟨jb2, bm2, rfl, lj2, lb2, hO7⟩ := hO.resolve_right (fun h => h.2.ne rfl)
  obtain ⟨⟨S7, N7, G7, J7, L7, ho7, hS7, _, hN7, hrd7, hG7, T7⟩, t7⟩ := hO7
  obtain rfl : S7 = S6 := hS7 rfl
  have e0 : ((([] : List TxL).length : Nat) : Int) = 0 := rfl
  rw [e0]
  have s6 := B6.size
  have l6 := heap_lt hb6
  have gB7 : ∀ i, G7 i → w.heap.size ≤ i := fun i hi => (hG7 i hi).elim (gB i) (fun r => by omega)
  have B7 := B6.trans (t7.below gB B6.size)
  have hb7 := (t7.block g5 l6 ng5).trans hb6
  have ng7 : ¬ G7 g5 := fun r => (hG7 _ r).elim ng5 (fun r => by omega)
  have c7 : w7.cell? ⟨tw, 0, none⟩ = some (.pointer (some ⟨db, 0, none⟩)) := by simp [World.cell?, T7.box]
  clear T6 q6 hO hEF6 hS7 L6
  go_wp2_with fail
  refine (power_any J7.D).mono ?_
  rintro e w8 ⟨rfl, q8⟩
  have J8 := J7.same q8
  have T8 := T7.kp (Kp.same q8.2)
  have B8 := B7.trans (q8.2.below gB7 B7.size)
  have hb8 := (q8.2.block g5 (heap_lt hb7) ng7).trans hb7
  have c8 : w8.cell? ⟨tw, 0, none⟩ = some (.pointer (some ⟨db, 0, none⟩)) := by simp [World.cell?, T8.box]
  rw [o6]
  clear J7 T7 c7 q8
  go_wp2_with fail
  refine (arm_any J8.D 0 (by omega)).mono ?_
  rintro e w9 ⟨rfl, q9⟩
  have ha := armed_off o6 0
  obtain ⟨S9, hS9⟩ : ∃ S9 : DevS, armed S7 0 = S9 := ⟨_, rfl⟩
  rw [hS9] at q9 ha
  have J9 := J8.same q9
  have T9 := T8.kp (Kp.same q9.2)
  have B9 := B8.trans (q9.2.below gB7 B8.size)
  have hb9 := (q9.2.block g5 (heap_lt hb8) ng7).trans hb8
  have c9 : w9.cell? ⟨tw, 0, none⟩ = some (.pointer (some ⟨db, 0, none⟩)) := by simp [World.cell?, T9.box]
  clear J8 T8 c8 q9
  go_wp2_with fail
  refine (pending_any J9.D (by omega)).mono ?_
  rintro e wA ⟨⟨gp, gs, rfl, hP, lP, lg⟩, qA⟩
  have pe9 : S9.pend = [] := ha.2.2.1.trans pe6
  rw [pe9]
  have J10 := J9.same qA
  have T10 := T9.kp (Kp.same qA.2)
  have BA := B9.trans (qA.2.below gB7 B9.size)
  have hbA := (qA.2.block g5 (heap_lt hb9) ng7).trans hb9
  have cA : wA.cell? ⟨tw, 0, none⟩ = some (.pointer (some ⟨db, 0, none⟩)) := by simp [World.cell?, T10.box]
  clear J9 T9 c9 qA hP lg lP
  rw [List.length_nil]
  go_wp2_with fail
  refine (durable_any J10.D).mono ?_
  rintro e wB ⟨⟨gD, rfl, lgD, hbD⟩, qB⟩
  have J11 := J10.same qB
  have T11 := T10.kp (Kp.same qB.2)
  have BB := BA.trans (qB.2.below gB7 BA.size)
  have hbB := (qB.2.block g5 (heap_lt hbA) ng7).trans hbA
  have hlen := J11.D.good.len
  have hl9 : S9.last = S.last := ha.2.1.trans la6
  rw [hl9] at hbD hlen
  clear J10 T10 cA qB
  go_wp2_with fail
  refine (same_any (some ⟨g5, 0, none⟩) (some ⟨gD, 0, none⟩) (512 * k) (512 * k) (512 * k) (512 * k) S.last S.last wB (by omega) (Lies.full hbB hlen) (Lies.full hbD hlen)).mono ?_
  rintro e wC ⟨rfl, dm, rfl⟩
  rw [decide_eq_true (rfl : S.last = S.last)]
  have bdm : Below wB.heap.size wB (wB.drewN dm) := ⟨rfl, rfl, rfl, Nat.le_refl _, fun _ _ => rfl⟩
  have J12 := J11.below bdm
  have T12 := T11.kp (Kp.below bdm)
  have BC := BB.trans (bdm.mono BB.size)
  obtain ⟨wC, hwC⟩ : ∃ wC, wB.drewN dm = wC := ⟨_, rfl⟩
  rw [hwC] at J12 T12 BC ⊢
  clear J11 T11 hwC bdm
  go_wp2_with fail
  refine (holdsG J12 ha.1 T12 P.ol (hxl.trans P.ol) P.n1 (by omega) P.os (fun i o x ho hx => ?_) BC.size gB7 (by omega)).mono ?_
  · have h3 := P.os o (List.mem_of_getElem? ho)
    have e9 : rdB S9 o = rdB S o := by unfold rdB; rw [hl9, pe9, L.calm]
    rw [hse i o x ho hx, ← e9]
    simp [seesF, lk]
  rintro e wD ⟨rfl, BD, _, _⟩
  go_wp2_with fail
  go_ret
  exact ⟨rfl, BC.trans BD⟩
end Go.Proofs.YtnmdnglbpkpfdaaGreatDoor

/- What the laid variables say of errors.errorType. -/
namespace Go.Proofs.YtnmdnglbpkpfdaaGreatDoor
open Go.ChangeShapes Go.WideShapes Go.ChangeAt Go.RowKit
set_option maxRecDepth 100000
theorem gNE : Tryz.prog.globalNamed "errors.errorType" = some 0 := by kernel_rfl
theorem rtype_at : (Tryz.prog.cutTypes.find? (·.1 == "internal/reflectlite.rtype")).map (·.2) = some 223 := by kernel_rfl
theorem error_rows : ((List.range Tryz.prog.types.size).all fun ty => !Tryz.prog.rowNamed ty [101, 114, 114, 111, 114] || ty == 145) = true := by kernel_rfl
theorem erT_of_laid {W : World} (h : laidMetH Tryz.prog laidA W) : ErT W := by
  have h2 : handlesMet Tryz.prog [("errors.errorType", Rows.laid_errors_errorType)] W := h.2
  have h3 := h2 _ (List.mem_singleton.2 rfl)
  have h4 : ∃ name u ty, (Rows.laid_errors_errorType (H := Unit)).handleName? = some name ∧ (Tryz.prog.cutTypes.find? (·.1 == "internal/reflectlite.rtype")).map (·.2) = some u ∧ ty < Tryz.prog.types.size ∧ Tryz.prog.rowNamed ty name = true ∧ W.var? Tryz.prog "errors.errorType" = some #[.iface u (.agg #[typeHandle Tryz.prog ty])] := h3
  obtain ⟨name, u, ty, hn, hu, hty, hr, hv⟩ := h4
  have hn' : (Rows.laid_errors_errorType (H := Unit)).handleName? = some [101, 114, 114, 111, 114] := by kernel_rfl
  obtain rfl := Option.some.inj (hn'.symm.trans hn)
  obtain rfl := Option.some.inj (rtype_at.symm.trans hu)
  have := List.all_eq_true.1 error_rows ty (List.mem_range.2 hty)
  rw [hr] at this
  simp at this
  subst this
  have hc := World.var?_cell gNE hv 0
  unfold ErT
  have e : typeHandle Tryz.prog 145 = .pointer (some ⟨6, 145, none⟩) := by kernel_rfl
  rw [e] at hc
  simpa using hc
end Go.Proofs.YtnmdnglbpkpfdaaGreatDoor
