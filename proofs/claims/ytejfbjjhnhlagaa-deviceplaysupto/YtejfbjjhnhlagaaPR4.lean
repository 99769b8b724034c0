/- The document's device: Flush, Crash by their contracts. -/
import Derived.Test.YtejfbjjhnhlagaaPR3
namespace Go.Proofs.Ytejfbjjhnhlagaa
open Go.RowKit Go.Maps
set_option maxRecDepth 100000

/-- The writes that pend, cell by cell. -/
theorem RX.pending {w : World} {rb : Nat} {S : DevS} {k gl : Nat} {tl : List Value} {pa : Option Addr} {L pcp : Nat} {vs : List (Nat × List Value)} (h : RX w rb S k gl tl (.slice pa L pcp) vs) {j : Nat} (hj : j < S.pend.length) :
    ∃ pg v p, pa = some ⟨pg, 0, none⟩ ∧ S.pend[j]? = some p ∧ vs[j]? = some v ∧ p.1 < k ∧ p.2.length = 512 ∧ (∀ x ∈ p.2, 0 ≤ x ∧ x ≤ 255) ∧ w.cell? ⟨pg, j * 2, none⟩ = some (.int .i64 p.1) ∧ w.cell? ⟨pg, j * 2 + 1, none⟩ = some (.slice (some ⟨v.1, 0, none⟩) 512 (512 + v.2.length)) ∧ w.heap[v.1]? = some (bt p.2 v.2) ∧ v.1 ≠ gl := by
  have hp : S.pend[j]? = some S.pend[j] := List.getElem?_eq_getElem hj
  have hgj : vs[j]? = some (vs[j]'(by rw [h.vsl]; exact hj)) := List.getElem?_eq_getElem _
  obtain ⟨e1, e2⟩ := rpc_at _ _ j _ _ hp hgj
  have hpm := h.good.pend _ (List.mem_of_getElem? hp)
  have hrow := h.row
  rcases hrow.2 with ⟨_, h0⟩ | ⟨pg, cap, cur, hv', _, hb, _⟩
  · omega
  · cases hv'
    refine ⟨pg, _, _, rfl, hp, hgj, hpm.1, hpm.2.1, hpm.2.2, ?_, ?_, h.dat j _ _ hp hgj, h.a3 _ (List.mem_of_getElem? hgj)⟩
    · rw [hrow.cellAt (j * 2) (by omega)]; exact e1
    · rw [hrow.cellAt (j * 2 + 1) (by omega)]; exact e2
theorem RX.cleared {w : World} {rb : Nat} {S : DevS} {k gl : Nat} {tl : List Value} {pv : Value} {vs : List (Nat × List Value)} (h : RX w rb S k gl tl pv vs) : RX (w.setCell ⟨rb, 1, none⟩ (.slice none 0 0)) rb { S with pend := [] } k gl tl (.slice none 0 0) [] := by
  have hT : Turns (fun i => i = rb) w (w.setCell ⟨rb, 1, none⟩ (.slice none 0 0)) := Turns.cell w rb 1 _
  refine ⟨⟨h.good.len, h.good.pos, h.good.top, h.good.by_, (fun p hp => by cases hp), h.good.fuse⟩, h.calm, ?_, ?_, World.ownsRow_nil _ _ _ _, rfl, (fun i p g h => by simp at h), by simp⟩
  · rw [heap_setCell_same _ _ _ _ _ _ h.blk]; rfl
  · exact (hT.block gl (heap_lt h.lst) (fun e => h.rg e.symm)).trans h.lst

set_option maxHeartbeats 4000000 in
theorem refFlush_any {w : World} {rb : Nat} {S : DevS} {k : Nat} {R : Nat → Prop} (h : RDev w rb S k R) (hN : S.pend.length ≤ 1099511627776) :
    Calls Try.prog 36 #[.pointer (some ⟨rb, 0, none⟩)] w fun e w' => e = .returned (.int .i64 (flE S)) ∧ RWent w w' rb (flS S) k R := by
  obtain ⟨gl, tl, pv, vs, h, f, hl⟩ := h
  by_cases ho : (burnt S).off = true
  · have e1 : flE S = 3 := by unfold flE; rw [if_pos ho]
    have e2 : flS S = burnt S := by unfold flS; rw [if_pos ho]
    rw [e1, e2]
    go_enter Try.func36, Try.ntmps36
    go_wp2_with fail
    refine (fails_any h).mono ?_
    rintro e w2 ⟨rfl, h2, t2⟩
    rw [ho]
    go_wp2_with fail
    go_ret
    exact ⟨rfl, RDev.of h2 f hl (t2.mono (fun i _ e => by subst e; exact f.f1)) (fun b hb => Or.inl hb) (fun v hv => Or.inl hv)⟩
  · have ho' : (burnt S).off = false := by simpa using ho
    have e1 : flE S = 0 := by unfold flE; rw [if_neg ho]
    have e2 : flS S = flushed (burnt S) := by unfold flS; rw [if_neg ho]
    rw [e1, e2]
    have hpb : (burnt S).pend = S.pend := by unfold burnt; split <;> rfl
    obtain ⟨pa, pcp, hpv⟩ := row_slice h.row
    obtain ⟨L, hL⟩ : ∃ L, S.pend.length = L := ⟨_, rfl⟩
    rw [hL] at hpv hN
    have hLi : (L : Int) ≤ 1099511627776 := by omega
    have HL : Hid ((burnt S).pend.length = L) := by rw [hpb]; exact hL
    clear hL hpb
    obtain ⟨B, hB⟩ : ∃ B, burnt S = B := ⟨_, rfl⟩
    have HB : Hid (burnt S = B) := hB
    rw [hB] at ho' HL ⊢
    clear hB ho e1 e2
    subst hpv
    go_enter Try.func36, Try.ntmps36
    go_wp2_with fail
    refine (fails_any h).mono ?_
    rintro e w2 ⟨rfl, h2, t2⟩
    rw [HB.out] at h2 ⊢
    rw [ho']
    have c1 := h2.cells.2.1
    go_wp2_with fail
    go_loopw [4] (fun i wr => ∃ j : Nat, j ≤ L ∧ i = .int .i64 j ∧ RX wr rb { B with last := layAll B.last (B.pend.take j) } k gl tl (.slice pa L pcp) vs ∧ Turns (fun i => i = gl) w2 wr) (fun i _ => L - (intOf i).toNat)
    case atStart => exact ⟨0, Nat.zero_le _, rfl, h2, Turns.refl _ _⟩
    case round =>
      obtain ⟨j, hj, rfl, hX, hT⟩ := hrel
      have d1 := hX.cells.2.1
      have dz := hX.cells.2.2.2.2 1
      clear c1
      by_cases hlt : j < L
      · obtain ⟨pg, v, p, rfl, hp, hg, hpk, hpl, hpy, x0, x1, hgb, hvg⟩ := hX.pending (j := j) (by simp only; rw [HL.out]; exact hlt)
        have HE : Hid (layAll B.last (B.pend.take (j + 1)) = layB (layAll B.last (B.pend.take j)) p) := layAll_take B.last B.pend j p hp
        obtain ⟨pb, pd⟩ := p
        obtain ⟨g, vt⟩ := v
        simp only at hpk hpl hpy x0 x1 hgb hvg
        have hLg : Lies wr (some ⟨g, 0, none⟩) 512 (512 + vt.length) pd := Lies.bt hgb hpl (by omega)
        have hji : (j : Int) < L := by omega
        clear hp hg hgb
        go_wp2_with fail
        refine (settle_any hX pb g _ pd hpk hLg hvg hpy).mono ?_
        rintro e w3 ⟨rfl, h3, t3⟩
        have hT3 : Turns (fun i => i = gl) w2 w3 := hT.trans t3 (fun _ _ h => h)
        go_wp2_with fail
        go_roundw
        case rel => exact ⟨j + 1, by omega, by go_num, by rw [HE.out]; exact h3, hT3⟩
        case measure => simp [intOf]; omega
      · obtain rfl : j = L := by omega
        have e3 : B.pend.take j = B.pend := List.take_of_length_le (by rw [HL.out]; exact Nat.le_refl _)
        rw [e3] at hX
        clear e3
        have h4 : RX (wr.setCell ⟨rb, 1, none⟩ (.slice none 0 0)) rb (flushed B) k gl tl (.slice none 0 0) [] := hX.cleared
        have t4 := Turns.cell wr rb 1 (.slice none 0 0)
        clear hX
        go_wp2_with fail
        go_ret
        refine ⟨rfl, RDev.of h4 f hl (((t2.mono (fun i _ e => by subst e; exact f.f1)).trans hT (fun i _ e => by subst e; exact f.f2)).trans t4 (fun i _ e => by subst e; exact f.f1)) (fun b hb => by cases hb) (fun v hv => by cases hv)⟩

theorem KLies.turns0 {F : Nat → Prop} {w w' : World} {ao : Option Addr} {n c : Nat} {ks : List Bool} (h : KLies w ao n c ks) (ht : Turns F w w') (hF : ∀ ad, ao = some ad → 0 < n → ¬ F ad.block) : KLies w' ao n c ks := by
  by_cases h0 : 0 < n
  · exact h.turns ht (fun ad had => hF ad had h0)
  · have hl := h.hlen
    obtain rfl : ks = [] := List.eq_nil_of_length_eq_zero (by omega)
    exact ⟨h.hlen, h.hle, fun j b hj => by simp at hj⟩
theorem Lies.turns0 {F : Nat → Prop} {w w' : World} {ao : Option Addr} {n c : Nat} {bs : List Int} (h : Lies w ao n c bs) (ht : Turns F w w') (hF : ∀ ad, ao = some ad → 0 < n → ¬ F ad.block) : Lies w' ao n c bs := by
  by_cases h0 : 0 < n
  · exact h.turns ht (fun ad had => hF ad had h0)
  · have hl := h.hlen
    obtain rfl : bs = [] := List.eq_nil_of_length_eq_zero (by omega)
    exact ⟨h.hlen, h.hle, h.hnone, fun ad had t u hu => by simp at hu⟩
set_option maxHeartbeats 4000000 in
theorem refCrash_any {w : World} {rb : Nat} {S : DevS} {k : Nat} {R : Nat → Prop} (h : RDev w rb S k R) (hN : S.pend.length ≤ 1099511627776) (ao : Option Addr) (m c : Nat) (ks : List Bool) (hK : KLies w ao m c ks) (hm : m ≤ 140737488355328) (hF : ∀ ad, ao = some ad → 0 < m → ¬ R ad.block) :
    Calls Try.prog 39 #[.pointer (some ⟨rb, 0, none⟩), .slice ao m c] w fun e w' => e = .returned (.tuple #[]) ∧ RWent w w' rb (crashed S ks) k R := by
  obtain ⟨gl, tl, pv, vs, h, f, hl⟩ := h
  obtain ⟨pa, pcp, hpv⟩ := row_slice h.row
  obtain ⟨L, hL⟩ : ∃ L, S.pend.length = L := ⟨_, rfl⟩
  rw [hL] at hpv hN
  have hLi : (L : Int) ≤ 1099511627776 := by omega
  have hmi : (m : Int) ≤ 140737488355328 := by omega
  have HL : Hid (S.pend.length = L) := hL
  clear hL
  subst hpv
  have c1 := h.cells.2.1
  go_enter Try.func39, Try.ntmps39
  go_wp2_with fail
  go_loopw [4] (fun i wr => ∃ j : Nat, j ≤ L ∧ i = .int .i64 j ∧ RX wr rb { S with last := layAll S.last (kept (S.pend.take j) ks) } k gl tl (.slice pa L pcp) vs ∧ Turns (fun i => i = gl) w wr) (fun i _ => L - (intOf i).toNat)
  case atStart => exact ⟨0, Nat.zero_le _, rfl, by simpa [kept, layAll] using h, Turns.refl _ _⟩
  case round =>
    obtain ⟨j, hj, rfl, hX, hT⟩ := hrel
    have d1 := hX.cells.2.1
    clear c1
    by_cases hlt : j < L
    · obtain ⟨pg, v, p, rfl, hp, hg, hpk, hpl, hpy, x0, x1, hgb, hvg⟩ := hX.pending (j := j) (by simp only; rw [HL.out]; exact hlt)
      have hKr := hK.turns0 hT (fun ad had h0 e => hF ad had h0 (by rw [e]; exact f.f2))
      have hpj : S.pend[j]? = some p := hp
      have hji : (j : Int) < L := by omega
      by_cases hkj : ks[j]? = some true
      · have HE : Hid (layAll S.last (kept (S.pend.take (j + 1)) ks) = layB (layAll S.last (kept (S.pend.take j) ks)) p) := lay_yes S.last S.pend ks j p hpj hkj
        obtain ⟨kg, ko, rfl, hkc⟩ := hKr.hcells j true hkj
        have hjm : j < m := by rw [← hK.hlen]; exact (List.getElem?_eq_some_iff.1 hkj).1
        have hjmi : (j : Int) < m := by omega
        obtain ⟨pb, pd⟩ := p
        obtain ⟨g, vt⟩ := v
        simp only at hpk hpl hpy x0 x1 hgb hvg
        have hLg : Lies wr (some ⟨g, 0, none⟩) 512 (512 + vt.length) pd := Lies.bt hgb hpl (by omega)
        clear hp hg hgb hkj hpj hKr
        go_wp2_with fail
        refine (settle_any hX pb g _ pd hpk hLg hvg hpy).mono ?_
        rintro e w3 ⟨rfl, h3, t3⟩
        have hT3 : Turns (fun i => i = gl) w w3 := hT.trans t3 (fun _ _ h => h)
        go_wp2_with fail
        go_roundw
        case rel => exact ⟨j + 1, by omega, by go_num, by rw [HE.out]; exact h3, hT3⟩
        case measure => simp [intOf]; omega
      · have HE : Hid (layAll S.last (kept (S.pend.take (j + 1)) ks) = layAll S.last (kept (S.pend.take j) ks)) := lay_no S.last S.pend ks j p hpj hkj
        by_cases hjm : j < m
        · have hkj2 : ks[j]? = some false := by
            have hlk : j < ks.length := by rw [hK.hlen]; exact hjm
            rw [List.getElem?_eq_getElem hlk] at hkj ⊢
            cases hb : ks[j] <;> simp_all
          obtain ⟨kg, ko, rfl, hkc⟩ := hKr.hcells j false hkj2
          have hjmi : (j : Int) < m := by omega
          clear hp hg hgb hkj hkj2 hpj hKr x0 x1
          go_wp2_with fail
          go_roundw
          case rel => exact ⟨j + 1, by omega, by go_num, by rw [HE.out]; exact hX, hT⟩
          case measure => simp [intOf]; omega
        · have hjmi : ¬ (j : Int) < m := by omega
          clear hp hg hgb hkj hpj hKr x0 x1
          go_wp2_with fail
          go_roundw
          case rel => exact ⟨j + 1, by omega, by go_num, by rw [HE.out]; exact hX, hT⟩
          case measure => simp [intOf]; omega
    · obtain rfl : j = L := by omega
      have e3 : S.pend.take j = S.pend := List.take_of_length_le (by rw [HL.out]; exact Nat.le_refl _)
      rw [e3] at hX
      clear e3
      have h4 := hX.cleared
      obtain ⟨d0, d1', d2, d3, dz⟩ := hX.cells
      have dz1 := dz 1
      have dz2 := dz 2
      have dz3 := dz 3
      have h6 : RX (((wr.setCell ⟨rb, 1, none⟩ (.slice none 0 0)).setCell ⟨rb, 2, none⟩ (.bool false)).setCell ⟨rb, 3, none⟩ (.int .i64 0)) rb (crashed S ks) k gl tl (.slice none 0 0) [] := by
        have q1 := (h4.rb (S' := { last := layAll S.last (kept S.pend ks), pend := [], fuse := S.fuse, off := false }) 2 (.bool false) ⟨rfl, rfl, hX.good.fuse⟩ (by simp) rfl)
        exact q1.rb 3 (.int .i64 0) ⟨rfl, rfl, Nat.zero_le _⟩ (by simp [crashed]) rfl
      have t6 : Turns (fun i => i = rb) wr (((wr.setCell ⟨rb, 1, none⟩ (.slice none 0 0)).setCell ⟨rb, 2, none⟩ (.bool false)).setCell ⟨rb, 3, none⟩ (.int .i64 0)) := ((Turns.cell wr rb 1 _).trans (Turns.cell _ rb 2 _) (fun _ _ h => h)).trans (Turns.cell _ rb 3 _) (fun _ _ h => h)
      clear hX h4 d0 d1' dz
      go_wp2
      first | go_end0 | refine bodyPost_ret (results_none rfl _ _ _) rfl ?_
      refine ⟨rfl, RDev.of h6 f hl ((hT.mono (fun i _ e => by subst e; exact f.f2)).trans t6 (fun i _ e => by subst e; exact f.f1)) (fun b hb => by cases hb) (fun v hv => by cases hv)⟩
end Go.Proofs.Ytejfbjjhnhlagaa
