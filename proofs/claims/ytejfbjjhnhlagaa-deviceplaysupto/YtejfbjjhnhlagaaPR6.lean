/- The document's device: Read, Pending by their contracts. -/
import Derived.Test.YtejfbjjhnhlagaaPR4
import Derived.Deep.AppendLies
import Derived.Deep.RegionHeldLaw
namespace Go.Proofs.Ytejfbjjhnhlagaa
open Go.RowKit Go.Maps
set_option maxRecDepth 100000

/-- What the document's Read hands out. -/
def RefReadR (w' : World) (S : DevS) (k : Nat) (b : Int) (e : Ending) : Prop :=
  (rdE S k b ≠ 0 ∧ e = .returned (.tuple #[.slice none 0 0, .int .i64 (rdE S k b)])) ∨
  (rdE S k b = 0 ∧ ∃ g c, e = .returned (.tuple #[.slice (some ⟨g, 0, none⟩) 512 c, .int .i64 0]) ∧ Lies w' (some ⟨g, 0, none⟩) 512 c (rdB S b.toNat))

set_option maxHeartbeats 4000000 in
theorem refRead_any {w : World} {rb : Nat} {S : DevS} {k : Nat} {R : Nat → Prop} (h : RDev w rb S k R) (hN : S.pend.length ≤ 1099511627776) (b : Int) :
    Calls Try.prog 27 #[.pointer (some ⟨rb, 0, none⟩), .int .i64 b] w fun e w' => RefReadR w' S k b e ∧ Below w.heap.size w w' := by
  obtain ⟨gl, tl, pv, vs, h, f, hl⟩ := h
  have htop := h.good.top
  by_cases hb0 : b < 0
  · have hb : ¬ (0 ≤ b ∧ b < k) := by omega
    have e1 : rdE S k b = 52 := by unfold rdE; rw [if_pos hb]
    go_enter Try.func27, Try.ntmps27
    go_wp2
    go_ret2
    exact ⟨Or.inl ⟨by rw [e1]; decide, by rw [e1]; rfl⟩, Below.refl _ _⟩
  by_cases hbk : (k : Int) ≤ b
  · have hb : ¬ (0 ≤ b ∧ b < k) := by omega
    have e1 : rdE S k b = 52 := by unfold rdE; rw [if_pos hb]
    go_enter Try.func27, Try.ntmps27
    go_wp2_with (go_at_call 32; refine (refSize_any h).mono ?_; rintro e wn ⟨rfl, hwn⟩; subst wn)
    go_ret2
    exact ⟨Or.inl ⟨by rw [e1]; decide, by rw [e1]; rfl⟩, Below.refl _ _⟩
  have hb : 0 ≤ b ∧ b < k := by omega
  obtain ⟨bn, rfl⟩ : ∃ bn : Nat, b = bn := ⟨b.toNat, by omega⟩
  obtain ⟨c0, c1, c2, c3, fz⟩ := h.cells
  by_cases ho : S.off = true
  · have e1 : rdE S k bn = 3 := by unfold rdE; rw [if_neg (fun q => q hb), if_pos ho]
    rw [ho] at c2
    clear c0 c1 c3 fz
    go_enter Try.func27, Try.ntmps27
    go_wp2_with (go_at_call 32; refine (refSize_any h).mono ?_; rintro e wn ⟨rfl, hwn⟩; subst wn)
    go_ret2
    exact ⟨Or.inl ⟨by rw [e1]; decide, by rw [e1]; rfl⟩, Below.refl _ _⟩
  have ho' : S.off = false := by simpa using ho
  rw [ho'] at c2
  have e1 : rdE S k bn = 0 := by unfold rdE; rw [if_neg (fun q => q hb), if_neg ho]
  have HR : Hid (∀ w' g c, Lies w' (some ⟨g, 0, none⟩) 512 c (rdB S bn) → RefReadR w' S k bn (.returned (.tuple #[.slice (some ⟨g, 0, none⟩) 512 c, .int .i64 0]))) := fun w' g c hq => Or.inr ⟨e1, g, c, rfl, hq⟩
  obtain ⟨i0, hi, hz0, hz1, hz2⟩ := info_parts Try.info5
  obtain ⟨pa, pcp, hpv⟩ := row_slice h.row
  obtain ⟨L, hL⟩ : ∃ L, S.pend.length = L := ⟨_, rfl⟩
  rw [hL] at hpv hN
  have hLi : (L : Int) ≤ 1099511627776 := by omega
  have HL : Hid (S.pend.length = L) := hL
  clear hL e1 ho ho' fz c3
  subst hpv
  have hnew : newest S.pend bn = newest (S.pend.take L) bn := by rw [List.take_of_length_le (by rw [HL.out]; exact Nat.le_refl _)]
  have HNW : Hid (newest S.pend bn = newest (S.pend.take L) bn) := hnew
  clear hnew
  have hbi : (bn : Int) < k := by omega
  go_enter Try.func27, Try.ntmps27
  go_wp2_with (go_at_call 32; refine (refSize_any h).mono ?_; rintro e wn ⟨rfl, hwn⟩; subst wn)
  go_loopw [6] (fun i wr => ∃ j : Nat, j ≤ L ∧ i = .int .i64 ((j : Int) - 1) ∧ wr = w ∧ Hid (newest S.pend bn = newest (S.pend.take j) bn)) (fun i _ => (intOf i + 1).toNat)
  case atStart => exact ⟨L, Nat.le_refl _, rfl, rfl, HNW⟩
  case round =>
    obtain ⟨j, hj, rfl, hwr, HJ⟩ := hrel
    subst wr
    clear HNW
    by_cases hlt : 0 < j
    · obtain ⟨t, rfl⟩ : ∃ t, j = t + 1 := ⟨j - 1, by omega⟩
      have et : ((t + 1 : Nat) : Int) - 1 = t := by omega
      rw [et]
      obtain ⟨pg, v, p, rfl, hp, hg, hpk, hpl, hpy, x0, x1, hgb, hvg⟩ := h.pending (j := t) (by rw [HL.out]; omega)
      have hti : (t : Int) < L := by omega
      have hsn : newest (S.pend.take (t + 1)) bn = if p.1 = bn then some p.2 else newest (S.pend.take t) bn := by
        have hq := (List.getElem?_eq_some_iff.1 hp)
        rw [List.take_succ_eq_append_getElem hq.1, hq.2]
        exact newest_snoc _ p.1 p.2 bn
      by_cases he : p.1 = bn
      · rw [if_pos he] at hsn
        have hrd : rdB S bn = p.2 := by unfold rdB; rw [HJ.out, hsn]; rfl
        have HRD : Hid (rdB S bn = p.2) := hrd
        obtain ⟨pb, pd⟩ := p
        obtain ⟨g, vt⟩ := v
        simp only at hpk hpl hpy x0 x1 hgb hvg he HRD
        subst he
        have hLg : Lies w (some ⟨g, 0, none⟩) 512 (512 + vt.length) pd := Lies.bt hgb hpl (by omega)
        have hcells : ∀ j u, (pd.map (Value.int .u8))[j]? = some u → w.cell? ((⟨g, 0, none⟩ : Addr).add j) = some u := hLg.hcells _ rfl
        clear hsn hrd hp hg hgb hLg HJ
        go_wp2_with (at_builtin; refine wpList_append_own _ rfl _ _ 33 rfl w.heap.size 5 i0 (.int .u8 0) 1 1 Try.underlying33 hi hz0 hz1 hz2 rfl (by decide) (.slice none 0 0) 0 [] rfl (World.ownsRow_nil _ _ _ _) ⟨g, 0, none⟩ 512 (512 + vt.length) (pd.map (Value.int .u8)) rfl (by simp [hpl]) hcells (ints_oneCell _ _) (by decide) (by decide) (Nat.le_refl _) ?_; intro v' w1 hown1 hgrow1 hnil1; simp only [Nat.zero_add, List.nil_append] at hown1; obtain ⟨g1, tl1, rfl, hg1, hb1⟩ := own_bt hown1 (by omega))
        go_ret2
        have hB1 : Below w.heap.size w w1 := ⟨hgrow1.os, hgrow1.tape, hgrow1.output, hgrow1.size, fun i hi => hgrow1.block i hi (by simp [Value.ownBlock])⟩
        exact ⟨HR.out _ _ _ (by rw [HRD.out]; exact Lies.bt hb1 hpl (by omega)), hB1⟩
      · rw [if_neg he] at hsn
        have HJ2 : Hid (newest S.pend bn = newest (S.pend.take t) bn) := HJ.out.trans hsn
        have hnb : ((p.1 : Int) == (bn : Int)) = false := by simp; omega
        clear hsn hp hg hgb HJ
        go_wp2_with fail
        go_roundw
        case rel => exact ⟨t, by omega, by go_num, by trivial, HJ2⟩
        case measure => simp [intOf]
    · obtain rfl : j = 0 := by omega
      have hrd : rdB S bn = (S.last.drop (512 * bn)).take 512 := by unfold rdB; rw [HJ.out]; rfl
      have HRD : Hid (rdB S bn = (S.last.drop (512 * bn)).take 512) := hrd
      clear hrd HJ
      have hlen := h.good.len
      have hpl : ((S.last.drop (512 * bn)).take 512).length = 512 := by simp [hlen]; omega
      have hlst := h.lst
      have hcells : ∀ j u, (((S.last.drop (512 * bn)).take 512).map (Value.int .u8))[j]? = some u → w.cell? ((⟨gl, 512 * bn, none⟩ : Addr).add j) = some u := fun j u hu => by
        have hj := (List.getElem?_eq_some_iff.1 hu).1
        rw [List.length_map, hpl] at hj
        rw [List.map_take, List.map_drop, List.getElem?_take, if_pos hj, List.getElem?_drop] at hu
        rw [Addr.add_lit]
        simp only [World.cell?, hlst]
        rw [List.getElem?_toArray, List.getElem?_append_left (by simp [hlen]; omega)]
        exact hu
      generalize (S.last.drop (512 * bn)).take 512 = pd at *
      clear hlst
      go_wp2_with (at_builtin; refine wpList_append_own _ rfl _ _ 33 rfl w.heap.size 5 i0 (.int .u8 0) 1 1 Try.underlying33 hi hz0 hz1 hz2 rfl (by decide) (.slice none 0 0) 0 [] rfl (World.ownsRow_nil _ _ _ _) ⟨gl, 512 * bn, none⟩ 512 _ (pd.map (Value.int .u8)) (by first | rfl | (simp only [show 512 * (bn + 1) - 512 * bn = 512 by omega]; rfl)) (by simp [hpl]) hcells (ints_oneCell _ _) (by decide) (by decide) (Nat.le_refl _) ?_; intro v' w1 hown1 hgrow1 hnil1; simp only [Nat.zero_add, List.nil_append] at hown1; obtain ⟨g1, tl1, rfl, hg1, hb1⟩ := own_bt hown1 (by omega))
      go_ret2
      have hB1 : Below w.heap.size w w1 := ⟨hgrow1.os, hgrow1.tape, hgrow1.output, hgrow1.size, fun i hi => hgrow1.block i hi (by simp [Value.ownBlock])⟩
      exact ⟨HR.out _ _ _ (by rw [HRD.out]; exact Lies.bt hb1 hpl (by omega)), hB1⟩
end Go.Proofs.Ytejfbjjhnhlagaa
