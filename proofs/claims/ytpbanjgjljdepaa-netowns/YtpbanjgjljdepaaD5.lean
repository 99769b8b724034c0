/- The document's own net: Flip. -/
import Derived.Test.YtpbanjgjljdepaaD4
namespace Go.Proofs.Ytpbanjgjljdepaa
open Go.RowKit Go.Maps
set_option maxRecDepth 100000
variable {w w' : World} {lab lab' : Nat → Nat} {k j xb : Nat} {v : Value} {last : Int} {es : List En} {F : Nat → Prop} {S : St}

theorem flE_C (no at_ v : Int) (es : List En) : (es.map (flE no at_ v)).flatMap flC = es.flatMap flC := by
  induction es with
  | nil => rfl
  | cons e es ih =>
    rw [List.map_cons, List.flatMap_cons, List.flatMap_cons, ih]
    congr 1
    unfold flE; split <;> rfl
set_option maxHeartbeats 2000000 in
theorem dflipN (h : Dn w lab k xb S) (no at_ v : Int) :
    Calls Try.prog 41 #[.pointer (some ⟨xb, 0, none⟩), .int .i64 no, .int .i64 at_, .int .i64 v] w fun en w' => en = .returned (.int .i64 (flipE S no at_ v)) ∧ Dn w' (rl lab w k) k xb (flipS S no at_ v) ∧ Turns (fun i => lab i = k) w w' := by
  have H0 := h
  obtain ⟨lv, es, h, hl, ok⟩ := h
  have hfd := Dn.find h hl no
  cases he : fnd es no with
  | none =>
    rw [he] at hfd
    have qE : flipE S no at_ v = 201 := by unfold flipE; rw [hfd]; rfl
    have qS : flipS S no at_ v = S := by unfold flipS; rw [qE]; rfl
    rw [qE, qS]
    have hA := at_none h (ok_few ok hl) (fnd_no he)
    have HN : Hid (Dn w lab k xb S) := H0
    clear h H0 hl ok hfd he qE qS
    go_enter Try.func41, Try.ntmps41
    go_wp2_with fail
    refine hA.mono ?_
    rintro en w3 ⟨rfl, hw3⟩
    subst w3
    go_wp2_with fail
    go_ret
    exact ⟨rfl, HN.out.below (Below.refl _ _) k, Turns.refl _ _⟩
  | some e =>
    rw [he] at hfd
    obtain ⟨q1, q2, q3, q4, q5⟩ := findS_some hfd
    have hsm : (findS S no).isSome = true := by rw [hfd]; rfl
    obtain ⟨i, hat, hpre⟩ := fnd_at he
    have hA := at_some h (ok_few ok hl) hat (fnd_mem he).2 hpre
    have hd := h.row.en.da _ (fnd_mem he).1
    obtain ⟨ao, cc, hev⟩ := hd.slice
    have hln : e.d.length ≤ 140737488355328 := hd.len
    obtain ⟨g, cv, hv, x0, x1, x2⟩ := h.row.at hat
    have hil := (List.getElem?_eq_some_iff.1 hat).1
    obtain ⟨N, hN⟩ : ∃ n, es.length = n := ⟨_, rfl⟩
    have hf := ok_few ok hl
    rw [hN] at hv hil hf
    subst hv
    have c0 := h.c0
    obtain ⟨eno, eto, ed, ev⟩ := e
    change ev = .slice ao ed.length cc at hev
    change takeD S no = ed at q2
    obtain ⟨n, hn⟩ : ∃ n, ed.length = n := ⟨_, rfl⟩
    rw [hn] at hev
    simp only [hn] at hln
    subst hev
    simp only at x0 x1 x2
    have HN : Hid (Dn w lab k xb S) := H0
    have hii : (i : Int) < N := by omega
    have hni : (N : Int) ≤ 4096 := by omega
    by_cases ha : 0 ≤ at_ ∧ at_ < n
    · by_cases hvv : 1 ≤ v ∧ v ≤ 255
      · have qE : flipE S no at_ v = 0 := by unfold flipE; rw [if_pos hsm, q2, hn, if_pos ha, if_pos hvv]
        have qS : flipS S no at_ v = ⟨S.last, S.l.map fun f => if f.no = no then ⟨f.no, f.to, flipD f.d at_ v⟩ else f⟩ := by unfold flipS; rw [if_pos qE]
        have hok := ok.flip no at_ v
        rw [qE]
        rw [qS] at hok ⊢
        have ho1 : w.ownsRow 0 5 1 (.slice ao n cc) n (ed.map (Value.int .u8)) := by have := hd.own; simp only [hn] at this; exact this
        obtain ⟨gd, rfl⟩ : ∃ gd, ao = some ⟨gd, 0, none⟩ := by
          rcases ho1.2 with ⟨_, h0⟩ | ⟨gd, cap, cur, q, _⟩
          · omega
          · cases q; exact ⟨gd, rfl⟩
        obtain ⟨a, rfl⟩ : ∃ a : Nat, at_ = a := ⟨at_.toNat, by omega⟩
        have g0 : w.cell? ⟨gd, a, none⟩ = some (.int .u8 (ed.getD a 0)) := by
          rw [ho1.cellAt a (by omega)]
          simp [List.getD, show a < ed.length by omega]
        have fz := ho1.frozenAt a
        have hwv : IntKind.u8.wrap v = v := by simp [IntKind.wrap, IntKind.bits, IntKind.signed]; omega
        have hai : (a : Int) < n := by omega
        have HH : Hid (DnX w lab k xb (.slice (some ⟨g, 0, none⟩) N cv) S.last es) := h
        have HE : Hid (fnd es no = some ⟨eno, eto, ed, .slice (some ⟨gd, 0, none⟩) n cc⟩) := he
        have Hl : Hid (es.map En.fl = S.l) := hl
        have HK : Hid (St.Ok ⟨S.last, S.l.map fun f => if f.no = no then ⟨f.no, f.to, flipD f.d a v⟩ else f⟩) := hok
        have HR : Hid (es.Pairwise (fun a b => a.no < b.no)) := ok_ris ok hl
        have HL : Hid (ed.length = n) := hn
        have hgd : gd < w.heap.size := hd.lt gd rfl
        have Hlg : Hid (lab gd = k) := hd.lb gd rfl
        obtain ⟨C, hC⟩ : ∃ C, ed.getD a 0 = C := ⟨_, rfl⟩
        rw [hC] at g0
        have HC : Hid (ed.getD a 0 = C) := hC
        clear h H0 hl ok hfd he q1 q2 q3 q4 q5 qE qS hok hd hn hsm ho1 hC hat hpre hN
        go_enter Try.func41, Try.ntmps41
        go_wp2_with fail
        refine hA.mono ?_
        rintro en w3 ⟨rfl, hw3⟩
        subst w3
        go_wp2_with fail
        go_region
        have t2 := Turns.cell w gd a (.int .u8 (xorB C v))
        have hE2 := HH.out.row.en.flip HR.out (no := no) (at_ := a) (v := v) HE.out (g := gd) (c := cc) (by show Value.slice _ n cc = .slice _ ed.length cc; rw [HL.out])
        have hE2' : Ens (w.setCell ⟨gd, a, none⟩ (.int .u8 (xorB C v))) lab k (es.map (flE no a v)) := by
          have := hE2
          rw [show ((a : Int).toNat) = a from rfl] at this
          change Ens (w.setCell ⟨gd, a, none⟩ (.int .u8 (xorB (ed.getD a 0) v))) _ _ _ at this
          rw [HC.out] at this; exact this
        have hd1 := HH.out.row.en.da _ (fnd_mem HE.out).1
        have hxg : xb ≠ gd := fun q => hd1.ne_cells HH.out.box (by decide) (by rw [q]; rfl)
        have hrg : ∀ b, (Value.slice (some ⟨g, 0, none⟩) N cv).ownBlock = some b → ¬ b = gd := fun b hb q => own_apart2 hd1.own HH.out.row.row (by decide) (b := gd) rfl (by rw [← q]; exact hb)
        have hDn : Dn (w.setCell ⟨gd, a, none⟩ (.int .u8 (xorB C v))) lab k xb ⟨S.last, S.l.map fun f => if f.no = no then ⟨f.no, f.to, flipD f.d a v⟩ else f⟩ := by
          refine ⟨_, es.map (flE no a v), ⟨(t2.block xb (heap_lt HH.out.box) hxg).trans HH.out.box, ⟨?_, hE2', HH.out.row.lv⟩, HH.out.lx⟩, ?_, HK.out⟩
          · rw [List.length_map, flE_C]
            exact own_turns HH.out.row.row t2 (fun b hb q => hrg b hb q)
          · rw [flE_fl, Hl.out]
        have tD : Turns (fun _ => False) (w.setCell ⟨gd, a, none⟩ (.int .u8 (xorB C v))) (w.setCell ⟨gd, a, none⟩ (.int .u8 (xorB C v))).drew := Turns.drewN _ _ 1
        have HDn : Hid (Dn (w.setCell ⟨gd, a, none⟩ (.int .u8 (xorB C v))).drew (rl lab w k) k xb ⟨S.last, S.l.map fun f => if f.no = no then ⟨f.no, f.to, flipD f.d a v⟩ else f⟩) :=
          hDn.turns tD (fun _ _ _ q => q) (fun i hi q => by rw [rl_old (by simpa [World.setCell] using hi)]; exact q)
        have HT : Hid (Turns (fun i => lab i = k) w (w.setCell ⟨gd, a, none⟩ (.int .u8 (xorB C v))).drew) := (t2.mono (fun i _ q => by rw [q]; exact Hlg.out)).trans tD (fun _ _ q => q.elim)
        clear hE2 hE2' hd1 hDn tD t2
        go_wp2_with fail
        go_ret
        exact ⟨rfl, HDn.out, HT.out⟩
      · have qE : flipE S no at_ v = 203 := by unfold flipE; rw [if_pos hsm, q2, hn, if_pos ha, if_neg hvv]
        have qS : flipS S no at_ v = S := by unfold flipS; rw [qE]; rfl
        rw [qE, qS]
        obtain ⟨a1, a2⟩ := ha
        clear h H0 hl ok hfd he q1 q2 q3 q4 q5 qE qS hd hn hsm hat hpre hN
        by_cases hv1 : v < 1
        · go_enter Try.func41, Try.ntmps41
          go_wp2_with fail
          refine hA.mono ?_
          rintro en w3 ⟨rfl, hw3⟩
          subst w3
          go_wp2_with fail
          go_ret
          exact ⟨rfl, HN.out.below (Below.refl _ _) k, Turns.refl _ _⟩
        · have hv2 : 255 < v := by omega
          go_enter Try.func41, Try.ntmps41
          go_wp2_with fail
          refine hA.mono ?_
          rintro en w3 ⟨rfl, hw3⟩
          subst w3
          go_wp2_with fail
          go_ret
          exact ⟨rfl, HN.out.below (Below.refl _ _) k, Turns.refl _ _⟩
    · have qE : flipE S no at_ v = 202 := by unfold flipE; rw [if_pos hsm, q2, hn, if_neg ha]
      have qS : flipS S no at_ v = S := by unfold flipS; rw [qE]; rfl
      rw [qE, qS]
      clear h H0 hl ok hfd he q1 q2 q3 q4 q5 qE qS hd hn hsm hat hpre hN
      by_cases hv1 : at_ < 0
      · go_enter Try.func41, Try.ntmps41
        go_wp2_with fail
        refine hA.mono ?_
        rintro en w3 ⟨rfl, hw3⟩
        subst w3
        go_wp2_with fail
        go_ret
        exact ⟨rfl, HN.out.below (Below.refl _ _) k, Turns.refl _ _⟩
      · have hv2 : (n : Int) ≤ at_ := by omega
        go_enter Try.func41, Try.ntmps41
        go_wp2_with fail
        refine hA.mono ?_
        rintro en w3 ⟨rfl, hw3⟩
        subst w3
        go_wp2_with fail
        go_ret
        exact ⟨rfl, HN.out.below (Below.refl _ _) k, Turns.refl _ _⟩
end Go.Proofs.Ytpbanjgjljdepaa
