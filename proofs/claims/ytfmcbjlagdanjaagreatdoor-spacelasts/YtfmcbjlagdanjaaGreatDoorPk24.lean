/- Begin of the next part of SpaceLasts; the device's bytes on a new device, a crash, Open. -/
import Derived.Test.YtfmcbjlagdanjaaGreatDoorPk23
import Derived.Test.YtfmcbjlagdanjaaGreatDoorPk22
import Derived.Test.YtfmcbjlagdanjaaGreatDoorPk06
import Derived.Test.YtfmcbjlagdanjaaGreatDoorPk01
import Derived.Deep.Slices
namespace Go.Proofs.YtfmcbjlagdanjaaGreatDoor
open Go.RowKit Go.Maps
set_option maxRecDepth 100000

theorem Wd.moved {w0 w w' : World} {wb : Nat} {c : Tc} {D : Nat} {Y : Nat → Prop} (h : Wd w0 w wb c D) (t : Turns Y w w') (hy : ¬ Y wb) : Wd w0 w' wb c D :=
  { h with box := (t.block wb (heap_lt h.box) hy).trans h.box }
theorem wd_noB {w0 w : World} {wb : Nat} {c : Tc} {D : Nat} (h : Wd w0 w wb c D) {x : Nat} {ys : List Int} (hx : w.heap[x]? = some (bl ys)) : ¬ x = wb := fun e => by
  have := h.box
  rw [← e, hx] at this
  exact absurd (Obj.cells.inj (Option.some.inj this)).2.1 (by decide)
/-- The place of the next transaction. -/
def Tc.begun (c : Tc) (tb wm : Nat) : Tc := { c with tb := tb, wm := wm, sv := .slice none 0 0, last := 0 }
theorem Lq.begun {c : Tc} {D : Nat} {bs : List Int} {i : Nat} (h : Lq c D bs i) (tb wm : Nat) : Lq (c.begun tb wm) D bs i :=
  ⟨h.lo, h.O, h.nb, h.cm, h.N, h.st, h.sz, h.k, h.b, h.see, h.len, h.byt⟩
/-- Begin, and the world's transaction. -/
theorem Rj.begins {w0 w : World} {wb D i : Nat} {c : Tc} {bs : List Int} (R : Rj w0 w wb c D bs i) (hs : w0.heap.size ≤ w.heap.size) :
    Calls Tryz.prog 30 #[.pointer (some ⟨c.jb, 0, none⟩)] w fun e w' => ∃ tb wm, e = .returned (.pointer (some ⟨tb, 0, none⟩)) ∧ Rt w0 (w'.setCell ⟨wb, 22, none⟩ (.pointer (some ⟨tb, 0, none⟩))) wb (c.begun tb wm) D bs i ∧ Wd w0 w' wb c D ∧ w.heap.size ≤ tb ∧ w.heap.size ≤ wm ∧ Turns (fun i => c.G i ∨ i = c.jb) w w' := by
  obtain ⟨pl, hp, J⟩ := R.J
  refine (Tx.begin J R.Q.cm.on (fun _ => [])).mono ?_
  rintro e w' ⟨tb, wm, rfl, l1, l2, X, t⟩
  have A := R.A
  have hwl := heap_lt A.box
  have A' : Wd w0 w' wb c D := A.moved t (fun q => q.elim A.nG A.nj)
  have u : Turns (fun i => i = wb) w' (w'.setCell ⟨wb, 22, none⟩ (.pointer (some ⟨tb, 0, none⟩))) := Turns.setCell w' 22 _ rfl
  have X' := X.move u (fun i hi e => A.nG (e ▸ hi)) (fun e => A.nj e.symm) (fun e => X.A.ne A'.box e.symm) (by omega) (fun p hp => by cases hp) (fun p hp => wd_noB A' (X.VA p hp).1) ((u.block tb (heap_lt X.T) (by omega)).trans X.T)
  refine ⟨tb, wm, rfl, ⟨⟨heap_setCell_same _ wb 22 _ _ _ A'.box, ⟨A.fit.lb, A.fit.l1, A.fit.ok, A.fit.dl, A.fit.dm, A.fit.dt, A.fit.dk⟩, A.new, A.gnew, A.jnew, show w0.heap.size ≤ tb by omega, show w0.heap.size ≤ wm by omega, A.nG, show wb ≠ wm by omega, show wb ≠ tb by omega, A.nj⟩, ?_, R.Q.begun tb wm, rfl, rfl⟩, A', l1, l2, t⟩
  have X2 : Tx (w'.setCell ⟨wb, 22, none⟩ (.pointer (some ⟨tb, 0, none⟩))) (c.begun tb wm).d (c.begun tb wm).S (c.begun tb wm).k (c.begun tb wm).N (c.begun tb wm).G (c.begun tb wm).jb (c.begun tb wm).st (c.begun tb wm).sz (c.begun tb wm).seq pl (c.begun tb wm).free (c.begun tb wm).bm (c.begun tb wm).nd (c.begun tb wm).a (c.begun tb wm).fa (c.begun tb wm).tb (c.begun tb wm).wm 0 [] (fun _ => []) (c.begun tb wm).sv (c.begun tb wm).last := X'
  exact X2.ts hp (R.Q.begun tb wm).con (Or.inl rfl) ((R.Q.begun tb wm).see _) R.Q.len R.Q.byt
/-- Durable. -/
theorem Rj.durable {w0 w : World} {wb D i : Nat} {c : Tc} {bs : List Int} (R : Rj w0 w wb c D bs i) :
    Calls Tryz.prog 27 #[.pointer (some ⟨c.d, 0, none⟩)] w fun e w' => ∃ g, e = .returned (.slice (some ⟨g, 0, none⟩) (512 * c.k) (512 * c.k)) ∧ w'.heap[g]? = some (bl c.S.last) ∧ Wd w0 w' wb c D ∧ Turns c.G w w' := by
  obtain ⟨pl, hp, J⟩ := R.J
  refine (durable_any J.D).mono ?_
  rintro e w' ⟨⟨g, rfl, _, hg⟩, _, t⟩
  exact ⟨g, rfl, hg, R.A.moved t R.A.nG, t⟩
/-- A device with the old one's bytes. -/
def Tc.like (c : Tc) (d N : Nat) (G : Nat → Prop) : Tc := { c with d := d, S := fresh c.S.last, N := N, G := G }
theorem crashed_fresh (bs : List Int) (ks : List Bool) : crashed (fresh bs) ks = fresh bs := by cases ks <;> rfl
/-- Image, and the world's device. -/
theorem Lq.image {w0 w : World} {wb D i g : Nat} {c : Tc} {bs : List Int} (Q : Lq c D bs i) (A : Wd w0 w wb c D) (hg : w.heap[g]? = some (bl c.S.last)) (hs : w0.heap.size ≤ w.heap.size) :
    Calls Tryz.prog 26 #[.slice (some ⟨g, 0, none⟩) (512 * c.k) (512 * c.k)] w fun e w' => ∃ db F, e = .returned (.tuple #[.pointer (some ⟨db, 0, none⟩), .int .i64 0]) ∧ Wd w0 w' wb c D ∧ Wd w0 (w'.setCell ⟨wb, 20, none⟩ (.pointer (some ⟨db, 0, none⟩))) wb (c.like db 0 F) D ∧ Dev (w'.setCell ⟨wb, 20, none⟩ (.pointer (some ⟨db, 0, none⟩))) db 0 (fresh c.S.last) c.k 0 F ∧ (∀ i, F i → w.heap.size ≤ i) ∧ Below w.heap.size w w' := by
  obtain ⟨seq, pl, L, q0, p0, _, _, hL, _, _⟩ := Q.lo
  have g0 := hL.good
  refine (image_good (some ⟨g, 0, none⟩) c.k (512 * c.k) c.S.last w g0.pos g0.top (Lies.full hg g0.len) g0.by_).mono ?_
  rintro e w' ⟨db, rfl, hD, b⟩
  have hwl := heap_lt A.box
  have A' := A.below b
  have hF : ∀ i, grow (fun _ => False) w w' i → w.heap.size ≤ i := fun i h => h.elim False.elim (fun h => h.1)
  have u : Turns (fun i => i = wb) w' (w'.setCell ⟨wb, 20, none⟩ (.pointer (some ⟨db, 0, none⟩))) := Turns.setCell w' 20 _ rfl
  have nG : ¬ grow (fun _ => False) w w' wb := fun q => by have := hF wb q; omega
  exact ⟨db, grow (fun _ => False) w w', rfl, A', ⟨heap_setCell_same _ wb 20 _ _ _ A'.box, ⟨A.fit.lb, A.fit.l1, A.fit.ok, A.fit.dl, A.fit.dm, A.fit.dt, A.fit.dk⟩, A.new, fun j hj => by have := hF j hj; omega, A.jnew, A.tnew, A.mnew, nG, A.nm, A.nt, A.nj⟩, hD.turns u (fun j hj e => nG (e ▸ hj)), hF, b⟩
/-- The place of a journal that was opened. -/
def Tc.opened (c : Tc) (d : Nat) (S : DevS) (N : Nat) (G : Nat → Prop) (jb seq place bm : Nat) : Tc := { c with d := d, S := S, N := N, G := G, jb := jb, seq := (seq : Nat), place := (place : Nat), free := 26, bm := bm, nd := 0, a := [], fa := fun _ => [] }
/-- Open, and the world's journal. -/
theorem Lq.opens {w0 w : World} {wb D i d N : Nat} {F : Nat → Prop} {c : Tc} {bs : List Int} {er : Nat → Addr} (Q : Lq c D bs i) (A : Wd w0 w wb (c.like d N F) D) (hD : Dev w d 0 (fresh c.S.last) c.k N F) (hN : N ≤ 100) (hi : i ≤ 200) (hs : w0.heap.size ≤ w.heap.size) (hEF : ∀ w', Turns F w w' → Errs w' er) :
    Calls Tryz.prog 29 #[.pointer (some ⟨d, 0, none⟩), .int .i64 (2 : Nat), .int .i64 (27 : Nat)] w fun e w' => ∃ jb n c', e = .returned (.tuple #[.pointer (some ⟨jb, 0, none⟩), .int .i64 n, .int .i64 0]) ∧ Wd w0 w' wb (c.like d N F) D ∧ Rj w0 (w'.setCell ⟨wb, 21, none⟩ (.pointer (some ⟨jb, 0, none⟩))) wb c' D bs (i + 1) ∧ c'.d = d ∧ c'.jb = jb ∧ c'.tb = c.tb ∧ c'.wm = c.wm ∧ (∀ i, c'.G i → F i ∨ w.heap.size ≤ i) ∧ w.heap.size ≤ jb ∧ w.heap.size ≤ c'.bm ∧ Turns F w w' := by
  obtain ⟨seq, pl, L, q0, p0, hq, hp, hL0, hC, hle⟩ := Q.lo
  rw [Q.st, Q.sz] at hL0
  have hLg : Lg (fresh c.S.last) c.k 2 27 seq pl c.free L q0 p0 := hL0.like rfl rfl (by show 0 ≤ _; omega)
  have hrd : ∀ b, rdB (fresh c.S.last) b = rdB c.S b := fun b => by unfold rdB; rw [hL0.calm]; rfl
  have hq0 := hLg.q0
  have hq1 := hLg.q1
  have hp0 := hLg.p0
  have hb := head_back q0 p0 (((27 : Nat) : Int) - 1) hq0 (by omega) (by omega) (by omega)
  have hcm : Calm (fresh c.S.last) := ⟨rfl, rfl⟩
  have hk := Q.k
  refine (open_log hD 2 27 (by omega) (by omega) hEF q0 p0 (by rw [hLg.head]; exact ⟨hb.1, hb.2.1⟩) (by rw [hLg.head]; exact hb.2.2) (by omega) (hLg.log (by omega)) (by omega) (hcm.lasts _) (by omega) (fun b hb' => hD.good.reads b hb')).mono ?_
  rintro e w' ⟨jb, bm, S', N', rfl, lj, lb, hN', hcase, J, M, ⟨G, D', hG, gj, gb⟩, t⟩
  have A' := A.moved t A.nG
  have hwl := heap_lt A.box
  have nG : ¬ G wb := fun q => (hG wb q).elim A.nG (fun q => by omega)
  have u : Turns (fun i => i = wb) w' (w'.setCell ⟨wb, 21, none⟩ (.pointer (some ⟨jb, 0, none⟩))) := Turns.setCell w' 21 _ rfl
  have J2 : Jb w' jb d 2 27 (seq : Nat) (pl : Nat) 26 bm none := by
    rw [hq1, hLg.p1]
    exact J
  refine ⟨jb, _, c.opened d S' N' G jb seq pl bm, rfl, A', ⟨⟨heap_setCell_same _ wb 21 _ _ _ A'.box, ⟨A.fit.lb, A.fit.l1, A.fit.ok, A.fit.dl, A.fit.dm, A.fit.dt, A.fit.dk⟩, A.new, fun j hj => (hG j hj).elim (A.gnew j) (fun q => by omega), show w0.heap.size ≤ jb by omega, A.tnew, A.mnew, nG, A.nm, A.nt, show wb ≠ jb by omega⟩, ⟨pl, rfl, ?_⟩, ?_⟩, rfl, rfl, rfl, rfl, hG, lj, lb, t⟩
  · show Jn _ d S' c.k N' G jb c.st c.sz (seq : Nat) pl 26 bm 0 [] (fun _ => [])
    rw [Q.st, Q.sz]
    exact ⟨D'.turns u (fun j hj e => nG (e ▸ hj)), (u.block jb (heap_lt J2) (by omega)).trans J2, M.turns u (fun e => M.ne A'.box e.symm), (fun p hp => by cases hp), gj, gb, (fun p hp => by cases hp), fun e => mp_cells M J e⟩
  · have hNi := Q.N
    have hout : 33 < 2 ∨ 2 + 27 ≤ 33 := Or.inr (by omega)
    have hse : ∀ f, seesF S' [] f [] (fun _ => []) 33 = bs := fun f => by
      have h0 := Q.see f
      rw [sees_ovl hC, Q.b, ← hrd] at h0
      rw [show seesF S' [] f [] (fun _ => []) 33 = rdB S' 33 by simp [seesF, lk], ← h0]
      rcases hcase with ⟨rfl, rfl⟩ | ⟨a, fa, q1, q2, q3, q4, q5, rfl⟩
      · rfl
      · rw [(rdB_ck hLg.good (by omega) q2 (fun p hp => (q3 p hp).1) q5).1, if_neg (by omega), ← q4 33]
        by_cases q : 33 ∈ a.map (·.1)
        · obtain ⟨g, hg⟩ := Option.isSome_iff_exists.1 (lk_keys.2 q)
          rw [if_pos q, hg]
          rfl
        · have : lk a 33 = none := by
            cases r : lk a 33 with
            | none => rfl
            | some g => exact absurd (lk_keys.1 (by rw [r]; rfl)) q
          rw [if_neg q, this]
          rfl
    have hlo : ∃ (L' : List TxL) (q0' p0' : Nat), Lg S' c.k c.st c.sz seq pl 26 L' q0' p0' ∧ Cont [] (fun _ => []) L' := by
      rw [Q.st, Q.sz]
      rcases hcase with ⟨rfl, rfl⟩ | ⟨a, fa, q1, q2, q3, q4, q5, rfl⟩
      · have e3 : c.free = 26 := by have := hLg.fr; simp [strm] at this; omega
        rw [e3] at hLg
        exact ⟨[], q0, p0, hLg, fun b => rfl⟩
      · rw [show (q0 : Int) + L.length = (seq : Int) by omega, ← hLg.p1]
        exact ⟨[], _, _, hLg.ck q2 q3 q5, fun b => rfl⟩
    have hcm' : Calm S' := by
      rcases hcase with ⟨rfl, rfl⟩ | ⟨a, fa, q1, q2, q3, q4, q5, rfl⟩
      · exact hcm
      · exact ⟨(ckS_lasts (n := 0) (hcm.lasts _)).on, by rw [ckS_fuse, hcm.fu]; omega⟩
    obtain ⟨L', q0', p0', hL', hC'⟩ := hlo
    refine ⟨⟨seq, pl, L', q0', p0', rfl, rfl, hL', hC', by omega⟩, (fun p hp => by cases hp), ?_, hcm', ?_, Q.st, Q.sz, Q.k, Q.b, fun f => ?_, Q.len, Q.byt⟩
    · show ((0 : Nat) : Int) + 26 ≤ (c.sz : Nat)
      rw [Q.sz]
      decide
    · show N' ≤ _
      omega
    · show seesF S' [] f [] (fun _ => []) c.b = bs
      rw [Q.b]
      exact hse f
end Go.Proofs.YtfmcbjlagdanjaaGreatDoor

/- Crash by its contract, by what the list of survivors reads as whatever the device turns. -/
namespace Go.Proofs.YtfmcbjlagdanjaaGreatDoor
open Go.RowKit Go.Maps
open Go.MuLone
set_option maxRecDepth 100000

set_option maxHeartbeats 4000000 in
theorem crash_gen {w : World} {db : Nat} {S : DevS} {k N : Nat} {F : Nat → Prop} (h : Dev w db 0 S k N F) (ao : Option Addr) (m c : Nat) (ks : List Bool) (hK : ∀ W, Turns F w W → KLies W ao m c ks) (hlen : ks.length = m) (hm : m ≤ 140737488355328) (hN : N ≤ 1099511627776) :
    Calls Tryz.prog 28 #[.pointer (some ⟨db, 0, none⟩), .slice ao m c] w fun e w' => e = .returned (.tuple #[]) ∧ Went w w' db (crashed S ks) k N F := by
  obtain ⟨gl, bm, q, pv, gs, Dm, h, f, hl⟩ := h
  obtain ⟨pa, pcp, hpv⟩ := row_slice h.row
  have hpn := h.pn
  obtain ⟨L, hL⟩ : ∃ L, S.pend.length = L := ⟨_, rfl⟩
  rw [hL] at hpv hpn
  have hLi : (L : Int) ≤ 1099511627776 := by omega
  have hmi : (m : Int) ≤ 140737488355328 := by omega
  have HL : Hid (S.pend.length = L) := hL
  clear hL
  subst hpv
  go_enter_defers Tryz.func28, Tryz.ntmps28
  go_wp2_with fail
  refine (lock_dev h).mono ?_
  rintro e w1 ⟨rfl, h1, t1⟩
  have tF1 : Turns F w w1 := t1.mono (fun i _ e => by subst e; exact f.f1)
  have c3 := h1.cells.2.2.1
  go_wp2_with fail
  go_loopw [18] (fun i wr => ∃ j : Nat, j ≤ L ∧ i = .int .i64 j ∧ DevX wr db 1 { S with last := layAll S.last (kept (S.pend.take j) ks) } k N gl bm q (.slice pa L pcp) gs Dm ∧ Turns (fun i => i = gl) w1 wr) (fun i _ => L - (intOf i).toNat)
  case atStart => exact ⟨0, Nat.zero_le _, rfl, by simpa [kept, layAll] using h1, Turns.refl _ _⟩
  case round =>
    obtain ⟨j, hj, rfl, hX, hT⟩ := hrel
    by_cases hlt : j < L
    · obtain ⟨pg, g, p, rfl, hp, hg, hpk, hpl, hpy, x0, x1, hgb⟩ := hX.pending (j := j) (by simp only; rw [HL.out]; exact hlt)
      have hpj : S.pend[j]? = some p := hp
      obtain ⟨W, hW⟩ : ∃ W, wr.alloc (.cells #[.int .i64 p.1, .slice (some ⟨g, 0, none⟩) 512 512] 141) = W := ⟨_, rfl⟩
      have hbW : Below wr.heap.size wr W := by rw [← hW]; exact (Below.refl _ wr).alloc (Nat.le_refl _) _
      have y0 : W.cell? ⟨wr.heap.size, 0, none⟩ = some (.int .i64 p.1) := by rw [← hW]; simp
      have y1 : W.cell? ⟨wr.heap.size, 1, none⟩ = some (.slice (some ⟨g, 0, none⟩) 512 512) := by rw [← hW]; simp
      have hXW := hX.turns (Below.turns hbW (fun _ => False)) id id id (fun _ _ => id) (fun _ _ => id)
      have hgW : W.heap[g]? = some (bl p.2) := (hbW.block g (heap_lt hgb)).trans hgb
      have hTW : Turns (fun i => i = gl) w1 W := hT.trans (Below.turns hbW (fun i => i = gl)) (fun _ _ h => h)
      have hKW := hK W (tF1.trans hTW (fun i _ e => by subst e; exact f.f2))
      by_cases hkj : ks[j]? = some true
      · have HE : Hid (layAll S.last (kept (S.pend.take (j + 1)) ks) = layB (layAll S.last (kept (S.pend.take j) ks)) p) := lay_yes S.last S.pend ks j p hpj hkj
        obtain ⟨kg, ko, rfl, hkc⟩ := hKW.hcells j true hkj
        have hjm : j < m := by rw [← hlen]; exact (List.getElem?_eq_some_iff.1 hkj).1
        have hjmi : (j : Int) < m := by omega
        clear hX hp hg hgb hkj hpj hKW
        obtain ⟨pb, pd⟩ := p
        simp only at hpk hpl hpy x0 y0 hgW hW
        go_wp2_with fail
        try rw [hW]
        refine (last_any hXW pb g pd hpk hgW hpl hpy).mono ?_
        rintro e w3 ⟨rfl, h3, t3⟩
        have hT3 : Turns (fun i => i = gl) w1 w3 := hTW.trans t3 (fun _ _ h => h)
        go_wp2_with fail
        go_roundw
        case rel => exact ⟨j + 1, by omega, by go_num, by rw [HE.out]; exact h3, hT3⟩
        case measure => simp [intOf]; omega
      · have HE : Hid (layAll S.last (kept (S.pend.take (j + 1)) ks) = layAll S.last (kept (S.pend.take j) ks)) := lay_no S.last S.pend ks j p hpj hkj
        by_cases hjm : j < m
        · have hkj2 : ks[j]? = some false := by
            have hlk : j < ks.length := by rw [hlen]; exact hjm
            rw [List.getElem?_eq_getElem hlk] at hkj ⊢
            cases hb : ks[j] <;> simp_all
          obtain ⟨kg, ko, rfl, hkc⟩ := hKW.hcells j false hkj2
          have hjmi : (j : Int) < m := by omega
          clear hX hp hg hgb hkj hkj2 hpj hKW
          go_wp2_with fail
          try rw [hW]
          go_roundw
          case rel => exact ⟨j + 1, by omega, by go_num, by rw [HE.out]; exact hXW, hTW⟩
          case measure => simp [intOf]; omega
        · have hjmi : ¬ (j : Int) < m := by omega
          clear hX hp hg hgb hkj hpj hKW
          go_wp2_with fail
          try rw [hW]
          go_roundw
          case rel => exact ⟨j + 1, by omega, by go_num, by rw [HE.out]; exact hXW, hTW⟩
          case measure => simp [intOf]; omega
    · obtain rfl : j = L := by omega
      have e3 : S.pend.take j = S.pend := List.take_of_length_le (by rw [HL.out]; exact Nat.le_refl _)
      rw [e3] at hX
      clear e3
      go_wp2_with fail
      refine (forget_any hX hN).mono ?_
      rintro e w4 ⟨rfl, ⟨D', h4⟩, t4⟩
      have h5 := h4.db (S' := { last := layAll S.last (kept S.pend ks), pend := [], fuse := 0, off := S.off }) (st' := 1) 5 (.int .i64 0) ⟨rfl, rfl, Nat.zero_le _⟩ rfl
      have h6 : DevX ((w4.setCell ⟨db, 5, none⟩ (.int .i64 0)).setCell ⟨db, 6, none⟩ (.bool false)) db 1 (crashed S ks) k N gl bm q (.slice none 0 0) [] D' := h5.db 6 (.bool false) ⟨rfl, rfl, Nat.zero_le _⟩ rfl
      have t6 : Turns (fun i => i = db) w4 ((w4.setCell ⟨db, 5, none⟩ (.int .i64 0)).setCell ⟨db, 6, none⟩ (.bool false)) := (Turns.cell w4 db 5 _).trans (Turns.cell _ db 6 _) (fun _ _ h => h)
      obtain ⟨c0, c2, c3', c4, c5, c6, fz⟩ := h4.cells
      have f5 := fz 5
      have f6 := fz 6
      clear c0 c2 c3' c4 fz h5 h4
      go_wp2
      refine leaves_cons (f := 70) (args := #[.pointer (some ⟨db, 0, none⟩)]) (by simp) (by simp [go_sem]) ?_
      refine (unlock_dev .returning h6).mono ?_
      rintro e u' w7 ⟨rfl, rfl, h7, t7⟩
      refine ⟨_, results_none rfl _ _ _, ?_⟩
      refine ⟨rfl, Went.of h7 f hl ?_ rfl (Or.inl rfl) (fun x hx => by cases hx)⟩
      refine ((((t1.mono (G := F) (fun i _ e => by subst e; exact f.f1)).trans hT (fun i _ e => by subst e; exact f.f2)).trans t4 (fun i _ e => ?_)).trans t6 (fun i _ e => by subst e; exact f.f1)).trans t7 (fun i _ e => by subst e; exact f.f1)
      rcases e with e | e
      · subst e; exact f.f1
      · subst e; exact f.f3
end Go.Proofs.YtfmcbjlagdanjaaGreatDoor

/- The parts of SpaceLasts in memory. -/
namespace Go.Proofs.YtfmcbjlagdanjaaGreatDoor
open Go.RowKit Go.Maps
set_option maxRecDepth 100000

/-- A deed. -/
structure Dee where
  f : Bool
  k : Int
/-- A list of deeds in memory. -/
structure DLies (w : World) (ao : Option Addr) (n c : Nat) (ds : List Dee) : Prop where
  hlen : ds.length = n
  hcap : n ≤ c
  hcells : ∀ (j : Nat) (d : Dee), ds[j]? = some d → ∃ g o, ao = some ⟨g, o, none⟩ ∧ w.cell? ⟨g, o + j * 2, none⟩ = some (.bool d.f) ∧ w.cell? ⟨g, o + j * 2 + 1, none⟩ = some (.int .i64 d.k)
theorem bool_info : (Tryz.prog.info? 4).map (fun i => (i.zero, i.size, i.bytes)) = some (some (.bool false), 1, 1) := by kernel_rfl
theorem zero_tells (D : Nat) : Hid (Tells zB (List.replicate D false)) := by
  intro j hj
  rw [zero_bits D j (by simpa using hj)]
  simp only [List.getD_eq_getElem?_getD, List.getElem?_replicate]
  split <;> simp
theorem DLies.later {B : Nat} {w w' : World} {ao : Option Addr} {n c : Nat} {ds : List Dee} (h : DLies w ao n c ds) (hb : Below B w w') (hB : w.heap.size ≤ B) : DLies w' ao n c ds :=
  ⟨h.hlen, h.hcap, fun j d hj => by
    obtain ⟨g, o, e, h1, h2⟩ := h.hcells j d hj
    exact ⟨g, o, e, (hb.cell (Nat.lt_of_lt_of_le (World.block_lt_of_cell? w _ h1) hB)).trans h1, (hb.cell (Nat.lt_of_lt_of_le (World.block_lt_of_cell? w _ h2) hB)).trans h2⟩⟩
theorem KLies.later {B : Nat} {w w' : World} {ao : Option Addr} {n c : Nat} {ks : List Bool} (h : KLies w ao n c ks) (hb : Below B w w') (hB : w.heap.size ≤ B) : KLies w' ao n c ks :=
  ⟨h.hlen, h.hle, fun j b hj => by
    obtain ⟨g, o, e, h1⟩ := h.hcells j b hj
    exact ⟨g, o, e, (hb.cell (Nat.lt_of_lt_of_le (World.block_lt_of_cell? w _ h1) hB)).trans h1⟩⟩
/-- A part: its deeds, how it ends, what survives; where the lists lie. -/
structure Prt where
  ds : List Dee
  da : Option Addr
  dn : Nat
  dc : Nat
  e : Int
  ks : List Bool
  ka : Option Addr
  kn : Nat
  kc : Nat
/-- A part's lists in memory. -/
structure PrtIn (w : World) (p : Prt) : Prop where
  d : DLies w p.da p.dn p.dc p.ds
  k : KLies w p.ka p.kn p.kc p.ks
  dm : p.dn ≤ 140737488351232
  km : p.kn ≤ 140737488351232
  kl : ∀ ad, p.ka = some ad → 0 < p.kn → ad.block < w.heap.size
theorem PrtIn.later {B : Nat} {w w' : World} {p : Prt} (h : PrtIn w p) (hb : Below B w w') (hB : w.heap.size ≤ B) : PrtIn w' p :=
  ⟨h.d.later hb hB, h.k.later hb hB, h.dm, h.km, fun ad e h0 => Nat.lt_of_lt_of_le (h.kl ad e h0) hb.size⟩
/-- A list of parts in memory. -/
structure PLies (w : World) (ao : Option Addr) (n c : Nat) (ps : List Prt) : Prop where
  hlen : ps.length = n
  hcap : n ≤ c
  hin : ∀ p ∈ ps, PrtIn w p
  hcells : ∀ (j : Nat) (p : Prt), ps[j]? = some p → ∃ g o, ao = some ⟨g, o, none⟩ ∧ w.cell? ⟨g, o + j * 3, none⟩ = some (.slice p.da p.dn p.dc) ∧ w.cell? ⟨g, o + j * 3 + 1, none⟩ = some (.int .i64 p.e) ∧ w.cell? ⟨g, o + j * 3 + 2, none⟩ = some (.slice p.ka p.kn p.kc)
theorem PLies.later {B : Nat} {w w' : World} {ao : Option Addr} {n c : Nat} {ps : List Prt} (h : PLies w ao n c ps) (hb : Below B w w') (hB : w.heap.size ≤ B) : PLies w' ao n c ps :=
  ⟨h.hlen, h.hcap, fun p hp => (h.hin p hp).later hb hB, fun j d hj => by
    obtain ⟨g, o, e, h1, h2, h3⟩ := h.hcells j d hj
    exact ⟨g, o, e, (hb.cell (Nat.lt_of_lt_of_le (World.block_lt_of_cell? w _ h1) hB)).trans h1, (hb.cell (Nat.lt_of_lt_of_le (World.block_lt_of_cell? w _ h2) hB)).trans h2, (hb.cell (Nat.lt_of_lt_of_le (World.block_lt_of_cell? w _ h3) hB)).trans h3⟩⟩
/-- What the parts' loop holds: the blocks in use are those that the bitmap tells of. -/
structure LsI (w0 w : World) (wb : Nat) (c : Tc) (D i : Nat) (ub cp : Nat) (zs : List Value) (us : List Bool) : Prop where
  R : ∃ bs, Rt w0 w wb c D bs i ∧ Hid (Tells bs us)
  u : w.heap[ub]? = some (bb zs us)
  l : us.length = D
  g : ¬ c.G ub
  nu : w0.heap.size ≤ ub
  bl : Below w0.heap.size w0 w
  bn : w0.heap.size ≤ c.bm
  cp : D ≤ cp
theorem Rt.below {w0 w w' : World} {wb : Nat} {c : Tc} {D : Nat} {bs : List Int} {i : Nat} (h : Rt w0 w wb c D bs i) (b : Below w.heap.size w w') : Rt w0 w' wb c D bs i := { h with A := h.A.below b, T := h.T.below b }
/-- A list of truths, by its row. -/
theorem bb_own {w : World} {base n : Nat} {v : Value} {us : List Bool} (h : w.ownsRow base 4 1 v n (us.map Value.bool)) (h0 : 0 < n) : ∃ g cap zs, v = .slice (some ⟨g, 0, none⟩) n cap ∧ base ≤ g ∧ n ≤ cap ∧ w.heap[g]? = some (bb zs us) := by
  rcases h.2 with ⟨_, e⟩ | ⟨g, cap, cur, h1, h2, h3, h4, _, _, h7⟩
  · omega
  · refine ⟨g, cap, cur.toList.drop (n * 1), h1, h2, h4, ?_⟩
    rw [h3]
    show _ = some (Obj.cells (us.map Value.bool ++ cur.toList.drop (n * 1)).toArray 4 (0, 0))
    rw [← h7, List.take_append_drop]
theorem bb_cells {w : World} {g : Nat} {zs : List Value} {us : List Bool} (h : w.heap[g]? = some (bb zs us)) (j : Nat) (u : Value) (hu : (us.map Value.bool)[j]? = some u) : w.cell? ((⟨g, 0, none⟩ : Addr).add j) = some u := by
  obtain ⟨hj, e⟩ := List.getElem?_eq_some_iff.1 hu
  have hj' : j < us.length := by simpa using hj
  have := bb_cell h j hj'
  rw [show ((⟨g, 0, none⟩ : Addr).add j) = ⟨g, j, none⟩ by simp [Addr.add]; omega, this, ← e]
  simp [hj']
/-- Savepoints, through a deed. -/
theorem Svs.does {w w' : World} {G : Nat → Prop} {tb wm n nb : Nat} {sv : Value} {l : List SvI} {la : Nat} {m : List (Nat × Nat)} {zs : List Value} {us : List Bool} (h : Svs w G tb wm sv l la) (hM : Mp w wm n m) (hu : w.heap[nb]? = some (bb zs us)) (t : Turns (fun i => G i ∨ i = wm ∨ i = nb) w w') : Svs w' G tb wm sv l la := by
  have nc : ∀ (x : Nat) (c : Array Value) (t' : Nat) (z : Nat × Nat), w.heap[x]? = some (.cells c t' z) → t' ≠ 4 → ¬ x = nb := fun x c t' z hx n e => by
    rw [e, hu] at hx
    exact n (Obj.cells.inj (Option.some.inj hx)).2.1.symm
  refine h.turns t (fun b hb q => ?_) (fun s hs => ?_)
  · rcases q with q | q | q
    · exact h.gr b hb q
    · exact own_mapJ h.row hM (by rw [hb, q])
    · exact own_typeJ h.row hu (by decide) (by rw [hb, q])
  · obtain ⟨g1, g2, g3, g4, g5⟩ := h.gs s hs
    have p := h.sp s hs
    refine ⟨fun q => ?_, fun q => ?_, fun q => ?_, fun r hr q => ?_⟩
    · rcases q with q | q | q
      · exact g1 q
      · exact mp_cells hM p.h q
      · exact nc _ _ _ _ p.h (by decide) q
    · rcases q with q | q | q
      · exact g2 q
      · exact mp_cells hM p.q q
      · exact nc _ _ _ _ p.q (by decide) q
    · rcases q with q | q | q
      · exact g3 q
      · exact g4 q
      · exact mp_cells p.M hu q.symm
    · rcases q with q | q | q
      · exact g5 r hr q
      · exact mp_cells hM (p.V r hr).1 q
      · exact nc _ _ _ _ (p.V r hr).1 (by decide) q
/-- What the deeds' loop holds: the list of the blocks that were in use, and that of those in use now. -/
structure DdI (w0 w : World) (wb : Nat) (c : Tc) (D i k : Nat) (ub : Nat) (zs : List Value) (us : List Bool) (nb : Nat) (zn : List Value) (un : List Bool) : Prop where
  A : Wd w0 w wb c D
  X : ∃ n m bs, Ts w c n m bs ∧ n ≤ 2 * k ∧ Hid (Tells bs un)
  Q : ∃ bs, Lq c D bs i ∧ Hid (Tells bs us)
  V : ∃ s, Svs w c.G c.tb c.wm c.sv [s] 1 ∧ s.mark = 1 ∧ s.m = [] ∧ s.hn = 0
  own : ∀ b, c.sv.ownBlock = some b → w0.heap.size ≤ b
  u : w.heap[ub]? = some (bb zs us)
  lu : us.length = D
  gu : ¬ c.G ub
  nu : w0.heap.size ≤ ub
  n : w.heap[nb]? = some (bb zn un)
  ln : un.length = D
  gn : ¬ c.G nb
  nn : w0.heap.size ≤ nb
  ne : ub ≠ nb
  bl : Below w0.heap.size w0 w
  bn : w0.heap.size ≤ c.bm
theorem DdI.does {w0 w : World} {wb D i k ub nb cn : Nat} {c : Tc} {zs zn : List Value} {us un : List Bool} (I : DdI w0 w wb c D i k ub zs us nb zn un) (h2 : D ≤ 500) (hk : k ≤ 60) (hB : Bds w0) (f : Bool) (K : Int) :
    Calls Tryz.prog 16 #[.pointer (some ⟨wb, 0, none⟩), .slice (some ⟨nb, 0, none⟩) D cn, .agg #[.bool f, .int .i64 K]] w fun e w' => ∃ un', e = .returned (.bool true) ∧ DdI w0 w' wb c D i (k + 1) ub zs us nb zn un' := by
  obtain ⟨n, m, bs, T, hn, HT⟩ := I.X
  refine (does_any (cp := cn) I.A T I.n I.gn I.ln h2 HT.out (by omega) I.nn I.bl hB f K).mono ?_
  rintro e w' ⟨n', m', bs', us', rfl, hn', A', T', u', l', hT', b', t'⟩
  obtain ⟨s, V, v1, v2, v3⟩ := I.V
  refine ⟨us', rfl, ⟨A', ⟨n', m', bs', T', by omega, hT'⟩, I.Q, ⟨s, V.does T.mp I.n t', v1, v2, v3⟩, I.own, (t'.block ub (heap_lt I.u) (fun q => ?_)).trans I.u, I.lu, I.gu, I.nu, u', l', I.gn, I.nn, I.ne, I.bl.trans b', I.bn⟩⟩
  rcases q with q | q | q
  · exact I.gu q
  · exact mp_cells T.mp I.u q
  · exact I.ne q
/-- What stands behind a part's end. -/
structure EnI (w0 w : World) (wb : Nat) (c : Tc) (D i : Nat) (ub : Nat) (zs : List Value) (us : List Bool) : Prop where
  R : ∃ bs, Rj w0 w wb c D bs i ∧ Hid (Tells bs us)
  u : w.heap[ub]? = some (bb zs us)
  l : us.length = D
  g : ¬ c.G ub
  nu : w0.heap.size ≤ ub
  bl : Below w0.heap.size w0 w
  bn : w0.heap.size ≤ c.bm
theorem bb_ne_tb {w : World} {tb jb wm ub : Nat} {sv : Value} {last : Int} {zs : List Value} {us : List Bool} (hT : Tb w tb jb wm sv last) (hu : w.heap[ub]? = some (bb zs us)) : ¬ ub = tb := fun e => by
  unfold Tb at hT
  rw [← e, hu] at hT
  exact absurd (Obj.cells.inj (Option.some.inj hT)).2.1 (by decide)
theorem bb_ne_jb {w : World} {jb d st sz ub bm : Nat} {seq place free : Int} {o : Option Nat} {zs : List Value} {us : List Bool} (hT : Jb w jb d st sz seq place free bm o) (hu : w.heap[ub]? = some (bb zs us)) : ¬ ub = jb := fun e => by
  unfold Jb at hT
  rw [← e, hu] at hT
  exact absurd (Obj.cells.inj (Option.some.inj hT)).2.1 (by decide)
theorem DdI.drop {w0 w : World} {wb D i k ub nb : Nat} {c : Tc} {zs zn : List Value} {us un : List Bool} (I : DdI w0 w wb c D i k ub zs us nb zn un) :
    Calls Tryz.prog 20 #[.pointer (some ⟨c.tb, 0, none⟩)] w fun e w' => e = .returned (.tuple #[]) ∧ EnI w0 w' wb c D (i + 1) ub zs us := by
  obtain ⟨n, m, bs, T, _, _⟩ := I.X
  obtain ⟨b0, Q, HQ⟩ := I.Q
  have hs := I.bl.size
  refine (Q.drop I.A T).mono ?_
  rintro e w' ⟨rfl, R, t⟩
  refine ⟨rfl, ⟨⟨b0, { R with Q := R.Q.next }, HQ⟩, (t.block ub (heap_lt I.u) (fun q => q.elim (bb_ne_tb T.tx I.u) (bb_ne_jb T.jour I.u))).trans I.u, I.lu, I.gu, I.nu, I.bl.trans (t.below (fun j q => q.elim (fun e => e ▸ I.A.tnew) (fun e => e ▸ I.A.jnew)) hs), I.bn⟩⟩
theorem DdI.back {w0 w : World} {wb D i k ub nb : Nat} {c : Tc} {zs zn : List Value} {us un : List Bool} (I : DdI w0 w wb c D i k ub zs us nb zn un) :
    Calls Tryz.prog 25 #[.pointer (some ⟨c.tb, 0, none⟩), .int .i64 1] w fun e w' => e = .returned (.int .i64 0) ∧ ∃ c', c'.tb = c.tb ∧ (∃ bs, Lq c' D bs i ∧ Wd w0 w' wb c' D ∧ Ts w' c' 0 [] bs ∧ Hid (Tells bs us)) ∧ w'.heap[ub]? = some (bb zs us) ∧ ¬ c'.G ub ∧ Below w0.heap.size w0 w' ∧ w0.heap.size ≤ c'.bm := by
  obtain ⟨n, m, bs, T, _, _⟩ := I.X
  obtain ⟨b0, Q, HQ⟩ := I.Q
  obtain ⟨s, V, v1, v2, v3⟩ := I.V
  have hs := I.bl.size
  refine (Q.back I.A T V v1 v2 v3 hs).mono ?_
  rintro e w' ⟨rfl, ⟨wm, sv, A', T'⟩, t⟩
  refine ⟨rfl, c.back wm sv, rfl, ⟨b0, Q.backed wm sv, A', T', HQ⟩, (t.block ub (heap_lt I.u) (fun q => ?_)).trans I.u, I.gu, I.bl.trans (t.below (fun j q => ?_) hs), I.bn⟩
  · rcases q with q | q | q
    · exact I.gu q
    · exact bb_ne_tb T.tx I.u q
    · exact own_typeJ V.row I.u (by decide) q
  · rcases q with q | q | q
    · exact I.A.gnew j q
    · exact q ▸ I.A.tnew
    · exact I.own j q
theorem com_en {w0 w : World} {wb D i n ub : Nat} {c : Tc} {m : List (Nat × Nat)} {bs b0 : List Int} {zs : List Value} {us : List Bool} (Q : Lq c D b0 i) (A : Wd w0 w wb c D) (T : Ts w c n m bs) (HT : Hid (Tells bs us)) (hi : i ≤ 100) (hu : w.heap[ub]? = some (bb zs us)) (hl : us.length = D) (hg : ¬ c.G ub) (hn : w0.heap.size ≤ ub) (hb : Below w0.heap.size w0 w) (hbn : w0.heap.size ≤ c.bm) :
    Calls Tryz.prog 19 #[.pointer (some ⟨c.tb, 0, none⟩)] w fun e w' => e = .returned (.int .i64 0) ∧ ∃ c', EnI w0 w' wb c' D (i + 1) ub zs us := by
  have hs := hb.size
  refine (Q.commit A T hi hs).mono ?_
  rintro e w' ⟨rfl, ⟨c', R, _, _, hG', hbm⟩, t⟩
  refine ⟨rfl, c', ⟨⟨bs, R, HT⟩, (t.block ub (heap_lt hu) (fun q => ?_)).trans hu, hl, fun q => (hG' ub q).elim hg (fun q => by have := heap_lt hu; omega), hn, hb.trans (t.below (fun j q => ?_) hs), hbm.elim (fun e => by rw [e]; exact hbn) (fun q => by omega)⟩⟩
  · rcases q with q | q | q | q
    · exact hg q
    · exact mp_cells T.am hu q
    · exact bb_ne_jb T.jour hu q
    · exact bb_ne_tb T.tx hu q
  · rcases q with q | q | q | q
    · exact A.gnew j q
    · exact q ▸ hbn
    · exact q ▸ A.jnew
    · exact q ▸ A.tnew
/-- Begin, behind a part's end. -/
theorem EnI.begins {w0 w : World} {wb D i ub cp : Nat} {c : Tc} {zs : List Value} {us : List Bool} (I : EnI w0 w wb c D i ub zs us) (hcp : D ≤ cp) :
    Calls Tryz.prog 30 #[.pointer (some ⟨c.jb, 0, none⟩)] w fun e w' => ∃ tb wm, e = .returned (.pointer (some ⟨tb, 0, none⟩)) ∧ LsI w0 (w'.setCell ⟨wb, 22, none⟩ (.pointer (some ⟨tb, 0, none⟩))) wb (c.begun tb wm) D i ub cp zs us ∧ Wd w0 w' wb c D := by
  obtain ⟨bs, R, HT⟩ := I.R
  have hs := I.bl.size
  refine (R.begins hs).mono ?_
  rintro e w' ⟨tb, wm, rfl, R', A', l1, l2, t⟩
  obtain ⟨pl, hp, J⟩ := R.J
  have u' := (t.block ub (heap_lt I.u) (fun q => q.elim I.g (bb_ne_jb J.J I.u))).trans I.u
  have v : Turns (fun i => i = wb) w' (w'.setCell ⟨wb, 22, none⟩ (.pointer (some ⟨tb, 0, none⟩))) := Turns.setCell w' 22 _ rfl
  have b' := I.bl.trans (t.below (fun j q => q.elim (A'.gnew j) (fun e => e ▸ A'.jnew)) hs)
  refine ⟨tb, wm, rfl, ⟨⟨bs, R', HT⟩, (v.block ub (heap_lt u') (fun q => ?_)).trans u', I.l, I.g, I.nu, b'.trans (v.below (fun j q => q ▸ A'.new) b'.size), I.bn, hcp⟩, A'⟩
  have := A'.box
  rw [← q, u'] at this
  exact absurd (Obj.cells.inj (Option.some.inj this)).2.1 (by decide)
theorem LsI.agrees {w0 w : World} {wb D i ub cp : Nat} {c : Tc} {zs : List Value} {us : List Bool} (I : LsI w0 w wb c D i ub cp zs us) (h2 : D ≤ 500) (hB : Bds w0) :
    Calls Tryz.prog 18 #[.pointer (some ⟨wb, 0, none⟩), .slice (some ⟨ub, 0, none⟩) D cp] w fun e w' => e = .returned (.bool true) ∧ LsI w0 w' wb c D i ub cp zs us := by
  obtain ⟨bs, R, HT⟩ := I.R
  refine (agrees_ok (cp := cp) R.A R.T I.u I.g I.l h2 HT.out I.bl hB).mono ?_
  rintro e w' ⟨rfl, A', T', u', b', _⟩
  exact ⟨rfl, ⟨⟨bs, { R with A := A', T := T' }, HT⟩, u', I.l, I.g, I.nu, I.bl.trans b', I.bn, I.cp⟩⟩
/-- A part begins: a list of its own, and a savepoint. -/
theorem LsI.saves {w0 w w' : World} {wb D i ub cp nb : Nat} {c : Tc} {zs zn : List Value} {us : List Bool} (I : LsI w0 w wb c D i ub cp zs us) (b : Below w.heap.size w w') (hn : w'.heap[nb]? = some (bb zn us)) (hnb : w.heap.size ≤ nb) :
    Calls Tryz.prog 24 #[.pointer (some ⟨c.tb, 0, none⟩)] w' fun e w2 => e = .returned (.tuple #[.int .i64 1, .int .i64 0]) ∧ ∃ sv, DdI w0 w2 wb (c.saved sv 1) D i 0 ub zs us nb zn us := by
  obtain ⟨bs, R, HT⟩ := I.R
  have hs := I.bl.size
  have hul := heap_lt I.u
  have u' := (b.block ub hul).trans I.u
  have gn : ¬ c.G nb := fun q => by have := R.T.dev.lt _ q; omega
  have b' := I.bl.trans (b.mono hs)
  have R' := R.below b
  refine (R'.save).mono ?_
  rintro e w2 ⟨rfl, sv, s, S⟩
  have t := S.tr
  have hs' := b'.size
  refine ⟨rfl, sv, ⟨S.A, ⟨0, [], bs, S.T, by omega, HT⟩, ⟨bs, R.Q.saved sv 1, HT⟩, ⟨s, S.V, S.mark, S.m, S.n⟩, fun b hb => by have := S.own b hb; omega, (t.block ub (heap_lt u') (fun q => q.elim I.g (bb_ne_tb R'.T.tx u'))).trans u', I.l, I.g, I.nu, (t.block nb (heap_lt hn) (fun q => q.elim gn (bb_ne_tb R'.T.tx hn))).trans hn, I.l, gn, by omega, by omega, b'.trans (t.below (fun j q => q.elim (R.A.gnew j) (fun e => e ▸ R.A.tnew)) hs'), I.bn⟩⟩
end Go.Proofs.YtfmcbjlagdanjaaGreatDoor

/- Lists of parts that came in, opened once. -/
namespace Go.Proofs.YtfmcbjlagdanjaaGreatDoor
open Go.ChangeShapes Go.WideShapes Go.ChangeAt Go.RowKit Go.Deep
set_option maxRecDepth 100000

theorem cellsDe : Tryz.prog.cellsOf 46 = 2 := by kernel_rfl
theorem cells4 : Tryz.prog.cellsOf 4 = 1 := by kernel_rfl
theorem bytes4 : Tryz.prog.bytesOf 4 = 1 := by kernel_rfl
theorem bytesDe : 1 ≤ Tryz.prog.bytesOf 46 := of_decide_eq_true (by kernel_rfl)
theorem bytesPa : 1 ≤ Tryz.prog.bytesOf 62 := of_decide_eq_true (by kernel_rfl)
theorem cellsBs : Tryz.prog.cellsOf 43 = 1 := by kernel_rfl
theorem cellsDs : Tryz.prog.cellsOf 42 = 1 := by kernel_rfl
theorem cellsPa : Tryz.prog.cellsOf 62 = 3 := by kernel_rfl
theorem weights_all_mem {H : Type} {P : Program} {e : TypeId} {n : Nat} : ∀ {l : List (DataW H)} {d : DataW H}, d ∈ l → n ∈ d.weights P e → n ∈ DataW.weightsAll P e l
  | [], _, hd, _ => by simp at hd
  | x :: l, d, hd, hn => by
    simp only [DataW.weightsAll]
    rcases List.mem_cons.1 hd with h | h
    · subst h
      exact List.mem_append_left _ hn
    · exact List.mem_append_right _ (weights_all_mem h hn)
theorem each_reach {H : Type} {ts : List TypeId} {ds : List (DataW H)} (hsz : (DataW.weightsEach Tryz.prog ts ds).all (· ≤ reachBytes) = true) {j : Nat} {t : TypeId} {d : DataW H} (ht : ts[j]? = some t) (hd : ds[j]? = some d) : ∀ n ∈ d.weights Tryz.prog t, n ≤ reachBytes := fun n hn => by
  simpa using List.all_eq_true.1 hsz n (DataW.weights_mem_each ht hd n hn)
theorem view_de {H : Type} {enc : TypeId × Value → H} {W : World} {fuel : Nat} {cs : List Value} {y : DataW H × List MemPlace}
    (hf : DataW.trod enc Tryz.prog W 0 (fun _ => true) true fuel 46 cs = some y) : ∃ d : Dee, cs = [.bool d.f, .int .i64 d.k] := by
  obtain ⟨xs, n, _, hx, hl, hn, hfs⟩ := DataW.trod_struct Tryz.underlying46 hf
  rw [cellsDe] at hl
  match cs, hl with
  | [c0, c1], _ =>
    match xs, hn with
    | [y0, y1], _ =>
      have f0 : DataW.trod enc Tryz.prog W 0 (fun _ => true) true n 4 (([c0, c1].drop 0).take (Tryz.prog.cellsOf 4)) = some y0 := hfs 0 _ rfl
      have f1 : DataW.trod enc Tryz.prog W 0 (fun _ => true) true n 3 (([c0, c1].drop 1).take (Tryz.prog.cellsOf 3)) = some y1 := hfs 1 _ rfl
      rw [cells4] at f0
      rw [cells3] at f1
      obtain ⟨X0, e0, _⟩ := DataW.trod_bool Tryz.underlying4 f0
      obtain ⟨X1, e1, h1, _⟩ := DataW.trod_int Tryz.underlying3 f1
      simp at e0 e1
      subst e0 e1
      exact ⟨⟨X0, X1⟩, rfl⟩
theorem view_deeds {H : Type} {enc : TypeId × Value → H} {W : World} {fuel : Nat} {cs : List Value} {y : DataW H × List MemPlace}
    (hf : DataW.trod enc Tryz.prog W 0 (fun _ => true) true fuel 42 cs = some y) (hall : ∀ n ∈ y.1.weights Tryz.prog 42, n ≤ reachBytes) :
    ∃ a0 len cap ds, cs = [.slice a0 len cap] ∧ len ≤ 140737488351232 ∧ DLies W a0 len cap ds := by
  rcases open_slice Tryz.underlying42 hf with ⟨hcs, hx⟩ | ⟨a, len, cap, m, n, D, Pl, hcs, _, hl, hm, hmm, hx, hel⟩
  · exact ⟨none, 0, 0, [], by rw [hcs], by omega, rfl, Nat.le_refl _, fun j s h => by simp at h⟩
  · simp only [if_true] at hmm
    subst hmm
    rw [cellsDe] at hel
    have hinh : Inhabited Dee := ⟨⟨false, 0⟩⟩
    obtain ⟨X, hX⟩ := choose_lt (α := Dee) (p := fun i x => W.cell? ((a.add (i * 2)).add 0) = some (.bool x.f) ∧ W.cell? ((a.add (i * 2)).add 1) = some (.int .i64 x.k)) (n := len) (fun i hi => by
      obtain ⟨cs', h1, h2⟩ := hel i (by omega)
      obtain ⟨d, rfl⟩ := view_de h2
      obtain ⟨_, hlen, hcell⟩ := World.cells?_some h1
      exact ⟨d, hcell 0 (by omega), hcell 1 (by omega)⟩)
    refine ⟨some a, len, m, (List.range len).map X, by rw [hcs], ?_, ⟨by simp, hl, fun j s hj => ?_⟩⟩
    · have h1 := hall ((((List.range len).map D).length + ((List.range (m - len)).map fun j => D (len + j)).length) * Tryz.prog.bytesOf 46) (by rw [hx]; simp [DataW.weights, Tryz.underlying42])
      have h2 : len * 1 ≤ (((List.range len).map D).length + ((List.range (m - len)).map fun j => D (len + j)).length) * Tryz.prog.bytesOf 46 := Nat.mul_le_mul (by simp) bytesDe
      exact Nat.le_trans (by omega) (Nat.le_trans h1 (by decide))
    · have hjl : j < len := by
        have := (List.getElem?_eq_some_iff.1 hj).1
        simpa using this
      obtain ⟨h0, h1⟩ := hX j hjl
      simp [hjl] at hj
      subst hj
      have q00 := (hX 0 (by omega)).1
      obtain ⟨b', o, spot⟩ := a
      have hspot : spot = none := by simpa [Addr.add] using World.cell?_spot q00
      subst hspot
      rw [Addr.add_lit, Addr.add_lit] at h0 h1
      exact ⟨b', o, rfl, h0, h1⟩
theorem view_bools {H : Type} {enc : TypeId × Value → H} {W : World} {fuel : Nat} {cs : List Value} {y : DataW H × List MemPlace}
    (hf : DataW.trod enc Tryz.prog W 0 (fun _ => true) true fuel 43 cs = some y) (hall : ∀ n ∈ y.1.weights Tryz.prog 43, n ≤ reachBytes) :
    ∃ a0 len cap ks, cs = [.slice a0 len cap] ∧ len ≤ 140737488351232 ∧ KLies W a0 len cap ks := by
  rcases open_slice Tryz.underlying43 hf with ⟨hcs, hx⟩ | ⟨a, len, cap, m, n, D, Pl, hcs, _, hl, hm, hmm, hx, hel⟩
  · exact ⟨none, 0, 0, [], by rw [hcs], by omega, rfl, Nat.le_refl _, fun j s h => by simp at h⟩
  · simp only [if_true] at hmm
    subst hmm
    rw [cells4] at hel
    obtain ⟨X, hX⟩ := choose_lt (α := Bool) (p := fun i x => W.cell? ((a.add (i * 1)).add 0) = some (.bool x)) (n := len) (fun i hi => by
      obtain ⟨cs', h1, h2⟩ := hel i (by omega)
      obtain ⟨x, e, _⟩ := DataW.trod_bool Tryz.underlying4 h2
      obtain ⟨_, hlen, hcell⟩ := World.cells?_some h1
      subst e
      exact ⟨x, hcell 0 (by omega)⟩)
    refine ⟨some a, len, m, (List.range len).map X, by rw [hcs], ?_, ⟨by simp, hl, fun j b hj => ?_⟩⟩
    · have h1 := hall ((((List.range len).map D).length + ((List.range (m - len)).map fun j => D (len + j)).length) * Tryz.prog.bytesOf 4) (by rw [hx]; simp [DataW.weights, Tryz.underlying43])
      rw [bytes4] at h1
      exact Nat.le_trans (by simp) (Nat.le_trans h1 (by decide))
    · have hjl : j < len := by
        have := (List.getElem?_eq_some_iff.1 hj).1
        simpa using this
      have h0 := hX j hjl
      simp [hjl] at hj
      subst hj
      obtain ⟨b', o, spot⟩ := a
      have hspot : spot = none := by simpa [Addr.add] using World.cell?_spot (hX 0 (by omega))
      subst hspot
      refine ⟨b', o, rfl, ?_⟩
      rw [Addr.add_lit, Addr.add_lit] at h0
      simpa using h0
theorem KLies.lt {W : World} {ao : Option Addr} {n c : Nat} {ks : List Bool} (h : KLies W ao n c ks) (ad : Addr) (e : ao = some ad) (h0 : 0 < n) : ad.block < W.heap.size := by
  obtain ⟨g, o, e2, hc⟩ := h.hcells 0 _ (List.getElem?_eq_getElem (by rw [h.hlen]; exact h0))
  rw [e] at e2
  cases e2
  exact World.block_lt_of_cell? W _ hc
theorem view_pa {H : Type} {enc : TypeId × Value → H} {W : World} {fuel : Nat} {cs : List Value} {y : DataW H × List MemPlace}
    (hf : DataW.trod enc Tryz.prog W 0 (fun _ => true) true fuel 62 cs = some y) (hall : ∀ n ∈ y.1.weights Tryz.prog 62, n ≤ reachBytes) :
    ∃ p : Prt, cs = [.slice p.da p.dn p.dc, .int .i64 p.e, .slice p.ka p.kn p.kc] ∧ PrtIn W p := by
  obtain ⟨xs, n, _, hy, hl, hn, hfs⟩ := DataW.trod_struct Tryz.underlying62 hf
  rw [cellsPa] at hl
  match cs, hl with
  | [c0, c1, c2], _ =>
    match xs, hn with
    | [y0, y1, y2], _ =>
      have f0 : DataW.trod enc Tryz.prog W 0 (fun _ => true) true n 42 (([c0, c1, c2].drop 0).take (Tryz.prog.cellsOf 42)) = some y0 := hfs 0 _ rfl
      have f1 : DataW.trod enc Tryz.prog W 0 (fun _ => true) true n 3 (([c0, c1, c2].drop 1).take (Tryz.prog.cellsOf 3)) = some y1 := hfs 1 _ rfl
      have f2 : DataW.trod enc Tryz.prog W 0 (fun _ => true) true n 43 (([c0, c1, c2].drop 2).take (Tryz.prog.cellsOf 43)) = some y2 := hfs 2 _ rfl
      rw [cellsDs] at f0
      rw [cells3] at f1
      rw [cellsBs] at f2
      obtain ⟨a0, l0, p0, ds, e0, h0, D0⟩ := view_deeds f0 (fun k hk => hall k (by
          rw [hy]
          simp only [DataW.weights, Tryz.underlying62, List.map_cons, List.map_nil, DataW.weightsEach]
          simp [hk]))
      obtain ⟨K0, e1, _⟩ := DataW.trod_int Tryz.underlying3 f1
      obtain ⟨a2, l2, p2, ks, e2, h2, D2⟩ := view_bools f2 (fun k hk => hall k (by
          rw [hy]
          simp only [DataW.weights, Tryz.underlying62, List.map_cons, List.map_nil, DataW.weightsEach]
          simp [hk]))
      simp at e0 e1 e2
      subst e0 e1 e2
      exact ⟨⟨ds, a0, l0, p0, K0, ks, a2, l2, p2⟩, rfl, ⟨D0, D2, h0, h2, fun ad e h => D2.lt ad e h⟩⟩
theorem view_parts {H : Type} {enc : TypeId × Value → H} {W : World} {fuel : Nat} {cs : List Value} {y : DataW H × List MemPlace}
    (hf : DataW.trod enc Tryz.prog W 0 (fun _ => true) true fuel 59 cs = some y) (hall : ∀ n ∈ y.1.weights Tryz.prog 59, n ≤ reachBytes) :
    ∃ a0 len cap ps, cs = [.slice a0 len cap] ∧ len ≤ 140737488351232 ∧ PLies W a0 len cap ps := by
  rcases open_slice Tryz.underlying59 hf with ⟨hcs, hx⟩ | ⟨a, len, cap, m, n, D, Pl, hcs, _, hl, hm, hmm, hx, hel⟩
  · exact ⟨none, 0, 0, [], by rw [hcs], by omega, rfl, Nat.le_refl _, fun p h => by simp at h, fun j s h => by simp at h⟩
  · simp only [if_true] at hmm
    subst hmm
    rw [cellsPa] at hel
    have hw : ∀ i, i < len → ∀ k ∈ (D i).weights Tryz.prog 62, k ≤ reachBytes := fun i hi k hk => hall k (by
      rw [hx]
      simp only [DataW.weights, Tryz.underlying59]
      refine List.mem_cons_of_mem _ (List.mem_append_left _ ?_)
      exact weights_all_mem (List.mem_map.2 ⟨i, List.mem_range.2 hi, rfl⟩) hk)
    have hinh : Inhabited Prt := ⟨⟨[], none, 0, 0, 0, [], none, 0, 0⟩⟩
    obtain ⟨X, hX⟩ := choose_lt (α := Prt) (p := fun i x => (W.cell? ((a.add (i * 3)).add 0) = some (.slice x.da x.dn x.dc) ∧ W.cell? ((a.add (i * 3)).add 1) = some (.int .i64 x.e) ∧ W.cell? ((a.add (i * 3)).add 2) = some (.slice x.ka x.kn x.kc)) ∧ PrtIn W x) (n := len) (fun i hi => by
      obtain ⟨cs', h1, h2⟩ := hel i (by omega)
      obtain ⟨d, rfl, hI⟩ := view_pa h2 (hw i hi)
      obtain ⟨_, hlen, hcell⟩ := World.cells?_some h1
      exact ⟨d, ⟨hcell 0 (by omega), hcell 1 (by omega), hcell 2 (by omega)⟩, hI⟩)
    refine ⟨some a, len, m, (List.range len).map X, by rw [hcs], ?_, ⟨by simp, hl, fun p hp => ?_, fun j s hj => ?_⟩⟩
    · have h1 := hall ((((List.range len).map D).length + ((List.range (m - len)).map fun j => D (len + j)).length) * Tryz.prog.bytesOf 62) (by rw [hx]; simp [DataW.weights, Tryz.underlying59])
      have h2 : len * 1 ≤ (((List.range len).map D).length + ((List.range (m - len)).map fun j => D (len + j)).length) * Tryz.prog.bytesOf 62 := Nat.mul_le_mul (by simp) bytesPa
      exact Nat.le_trans (by omega) (Nat.le_trans h1 (by decide))
    · obtain ⟨i, hi, rfl⟩ := List.mem_map.1 hp
      exact (hX i (List.mem_range.1 hi)).2
    · have hjl : j < len := by
        have := (List.getElem?_eq_some_iff.1 hj).1
        simpa using this
      obtain ⟨⟨h0, h1, h2⟩, _⟩ := hX j hjl
      simp [hjl] at hj
      subst hj
      have q00 := (hX 0 (by omega)).1.1
      obtain ⟨b', o, spot⟩ := a
      have hspot : spot = none := by simpa [Addr.add] using World.cell?_spot q00
      subst hspot
      rw [Addr.add_lit, Addr.add_lit] at h0 h1 h2
      exact ⟨b', o, rfl, h0, h1, h2⟩
end Go.Proofs.YtfmcbjlagdanjaaGreatDoor

/- The parts of SpaceLasts that crash. -/
namespace Go.Proofs.YtfmcbjlagdanjaaGreatDoor
open Go.RowKit Go.Maps
set_option maxRecDepth 100000

/-- Behind Durable: its bytes. -/
structure MdI (w0 w : World) (wb : Nat) (c : Tc) (D i : Nat) (ub : Nat) (zs : List Value) (us : List Bool) (g : Nat) : Prop where
  A : Wd w0 w wb c D
  Q : ∃ bs, Lq c D bs i ∧ Hid (Tells bs us)
  by_ : w.heap[g]? = some (bl c.S.last)
  u : w.heap[ub]? = some (bb zs us)
  l : us.length = D
  nu : w0.heap.size ≤ ub
  be : Below w0.heap.size w0 w
theorem EnI.durable {w0 w : World} {wb D i ub : Nat} {c : Tc} {zs : List Value} {us : List Bool} (I : EnI w0 w wb c D i ub zs us) :
    Calls Tryz.prog 27 #[.pointer (some ⟨c.d, 0, none⟩)] w fun e w' => ∃ g, e = .returned (.slice (some ⟨g, 0, none⟩) (512 * c.k) (512 * c.k)) ∧ MdI w0 w' wb c D i ub zs us g := by
  obtain ⟨bs, R, HT⟩ := I.R
  refine (R.durable).mono ?_
  rintro e w' ⟨g, rfl, hg, A', t⟩
  exact ⟨g, rfl, ⟨A', ⟨bs, R.Q, HT⟩, hg, (t.block ub (heap_lt I.u) I.g).trans I.u, I.l, I.nu, I.bl.trans (t.below (fun j q => R.A.gnew j q) I.bl.size)⟩⟩
/-- Behind Image: a new device. -/
structure ImI (w0 w : World) (wb : Nat) (c : Tc) (db : Nat) (F : Nat → Prop) (D i : Nat) (ub : Nat) (zs : List Value) (us : List Bool) : Prop where
  A : Wd w0 w wb (c.like db 0 F) D
  Q : ∃ bs, Lq c D bs i ∧ Hid (Tells bs us)
  dv : Dev w db 0 (fresh c.S.last) c.k 0 F
  u : w.heap[ub]? = some (bb zs us)
  l : us.length = D
  g : ¬ F ub
  nu : w0.heap.size ≤ ub
  be : Below w0.heap.size w0 w
theorem Wd.bbNe {w0 w : World} {wb : Nat} {c : Tc} {D : Nat} {ub : Nat} {zs : List Value} {us : List Bool} (h : Wd w0 w wb c D) (hu : w.heap[ub]? = some (bb zs us)) : ¬ ub = wb := fun e => by
  have := h.box
  rw [← e, hu] at this
  exact absurd (Obj.cells.inj (Option.some.inj this)).2.1 (by decide)
theorem MdI.image {w0 w : World} {wb D i ub g : Nat} {c : Tc} {zs : List Value} {us : List Bool} (I : MdI w0 w wb c D i ub zs us g) :
    Calls Tryz.prog 26 #[.slice (some ⟨g, 0, none⟩) (512 * c.k) (512 * c.k)] w fun e w' => ∃ db F, e = .returned (.tuple #[.pointer (some ⟨db, 0, none⟩), .int .i64 0]) ∧ Wd w0 w' wb c D ∧ ImI w0 (w'.setCell ⟨wb, 20, none⟩ (.pointer (some ⟨db, 0, none⟩))) wb c db F D i ub zs us := by
  obtain ⟨bs, Q, HT⟩ := I.Q
  have hs := I.be.size
  refine (Q.image I.A I.by_ hs).mono ?_
  rintro e w' ⟨db, F, rfl, A', A2, hD, hF, b⟩
  have u' := (b.block ub (heap_lt I.u)).trans I.u
  have hul := heap_lt I.u
  have v : Turns (fun i => i = wb) w' (w'.setCell ⟨wb, 20, none⟩ (.pointer (some ⟨db, 0, none⟩))) := Turns.setCell w' 20 _ rfl
  have b' := I.be.trans (b.mono hs)
  exact ⟨db, F, rfl, A', ⟨A2, ⟨bs, Q, HT⟩, hD, (v.block ub (heap_lt u') (A'.bbNe u')).trans u', I.l, fun q => by have := hF ub q; omega, I.nu, b'.trans (v.below (fun j q => q ▸ A'.new) b'.size)⟩⟩
theorem ImI.drew {w0 w : World} {wb D i ub db : Nat} {F : Nat → Prop} {c : Tc} {zs : List Value} {us : List Bool} (I : ImI w0 w wb c db F D i ub zs us) : ImI w0 w.drew wb c db F D i ub zs us :=
  { I with A := I.A.drew, dv := I.dv.drew, u := I.u, be := ⟨I.be.os, I.be.tape, I.be.output, I.be.size, I.be.block⟩ }
theorem ImI.crash {w0 w : World} {wb D i ub db : Nat} {F : Nat → Prop} {c : Tc} {zs : List Value} {us : List Bool} (I : ImI w0 w wb c db F D i ub zs us) {ka : Option Addr} {kn kc : Nat} {ks : List Bool} (hk : KLies w ka kn kc ks) (hm : kn ≤ 140737488351232) (hkl : ∀ ad, ka = some ad → 0 < kn → ad.block < w0.heap.size) :
    Calls Tryz.prog 28 #[.pointer (some ⟨db, 0, none⟩), .slice ka kn kc] w fun e w' => e = .returned (.tuple #[]) ∧ ∃ F', ImI w0 w' wb c db F' D i ub zs us := by
  have hs := I.be.size
  refine (crash_gen I.dv ka kn kc ks (fun W t => ?_) hk.hlen (by omega) (by omega)).mono ?_
  · by_cases h0 : 0 < kn
    · exact hk.turns t (fun ad e q => by have := I.A.gnew _ q; have := hkl ad e h0; omega)
    · exact ⟨hk.hlen, hk.hle, fun j b hj => absurd (List.getElem?_eq_some_iff.1 hj).1 (by have := hk.hlen; omega)⟩
  rintro e w' ⟨rfl, hD, t⟩
  rw [crashed_fresh] at hD
  have hG : ∀ j, grow F w w' j → F j ∨ w.heap.size ≤ j := fun j h => h.elim Or.inl (fun h => Or.inr h.1)
  have A := I.A
  have hwl := heap_lt A.box
  have hul := heap_lt I.u
  exact ⟨rfl, grow F w w', ⟨⟨(t.block wb hwl A.nG).trans A.box, ⟨A.fit.lb, A.fit.l1, A.fit.ok, A.fit.dl, A.fit.dm, A.fit.dt, A.fit.dk⟩, A.new, fun j hj => (hG j hj).elim (A.gnew j) (fun q => by omega), A.jnew, A.tnew, A.mnew, fun q => (hG wb q).elim A.nG (fun q => by omega), A.nm, A.nt, A.nj⟩, I.Q, hD, (t.block ub hul I.g).trans I.u, I.l, fun q => (hG ub q).elim I.g (fun q => by omega), I.nu, I.be.trans (t.below (fun j q => A.gnew j q) hs)⟩⟩
theorem ImI.opens {w0 w : World} {wb D i ub db : Nat} {F : Nat → Prop} {c : Tc} {zs : List Value} {us : List Bool} {er : Nat → Addr} (I : ImI w0 w wb c db F D i ub zs us) (hi : i ≤ 200) (hE : Errs w0 er) :
    Calls Tryz.prog 29 #[.pointer (some ⟨db, 0, none⟩), .int .i64 2, .int .i64 27] w fun e w' => ∃ jb n c', e = .returned (.tuple #[.pointer (some ⟨jb, 0, none⟩), .int .i64 n, .int .i64 0]) ∧ Wd w0 w' wb (c.like db 0 F) D ∧ EnI w0 (w'.setCell ⟨wb, 21, none⟩ (.pointer (some ⟨jb, 0, none⟩))) wb c' D (i + 1) ub zs us ∧ c'.jb = jb := by
  obtain ⟨bs, Q, HT⟩ := I.Q
  have hs := I.be.size
  refine (Q.opens I.A I.dv (by omega) hi hs (fun w' t => hE.below (I.be.trans (t.below (fun j q => I.A.gnew j q) hs)) (Nat.le_refl _))).mono ?_
  rintro e w' ⟨jb, n, c', rfl, A', R', h1, h2, _, _, hG, lj, lb, t⟩
  have u' := (t.block ub (heap_lt I.u) I.g).trans I.u
  have hul := heap_lt I.u
  have v : Turns (fun i => i = wb) w' (w'.setCell ⟨wb, 21, none⟩ (.pointer (some ⟨jb, 0, none⟩))) := Turns.setCell w' 21 _ rfl
  have b' := I.be.trans (t.below (fun j q => I.A.gnew j q) hs)
  exact ⟨jb, n, c', rfl, A', ⟨⟨bs, R', HT⟩, (v.block ub (heap_lt u') (A'.bbNe u')).trans u', I.l, fun q => (hG ub q).elim I.g (fun q => by omega), I.nu, b'.trans (v.below (fun j q => q ▸ A'.new) b'.size), by omega⟩, h2⟩
theorem Wd.jc {w0 w : World} {wb : Nat} {c : Tc} {D : Nat} (h : Wd w0 w wb c D) : w.cell? ⟨wb, 21, none⟩ = some (.pointer (some ⟨c.jb, 0, none⟩)) := by simp [World.cell?, h.box]
theorem Wd.dc {w0 w : World} {wb : Nat} {c : Tc} {D : Nat} (h : Wd w0 w wb c D) : w.cell? ⟨wb, 20, none⟩ = some (.pointer (some ⟨c.d, 0, none⟩)) := by simp [World.cell?, h.box]
theorem Wd.jl {w0 w : World} {wb : Nat} {c : Tc} {D : Nat} (h : Wd w0 w wb c D) : w.cell? ⟨wb, 1, none⟩ = some (.int .i64 2) ∧ w.cell? ⟨wb, 2, none⟩ = some (.int .i64 27) := ⟨by simp [World.cell?, h.box], by simp [World.cell?, h.box]⟩
theorem EnI.wd {w0 w : World} {wb D i ub : Nat} {c : Tc} {zs : List Value} {us : List Bool} (I : EnI w0 w wb c D i ub zs us) : Wd w0 w wb c D := I.R.elim (fun _ h => h.1.A)
theorem LsI.wd {w0 w : World} {wb D i ub cp : Nat} {c : Tc} {zs : List Value} {us : List Bool} (I : LsI w0 w wb c D i ub cp zs us) : Wd w0 w wb c D := I.R.elim (fun _ h => h.1.A)
end Go.Proofs.YtfmcbjlagdanjaaGreatDoor
