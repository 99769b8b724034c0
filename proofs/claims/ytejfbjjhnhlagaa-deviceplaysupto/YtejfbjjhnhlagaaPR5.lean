/- The document's device: Write by its contract. -/
import Derived.Test.YtejfbjjhnhlagaaPR4
import Derived.Deep.AppendLies
import Derived.Deep.RegionLaw
namespace Go.Proofs.Ytejfbjjhnhlagaa
open Go.RowKit Go.Maps
set_option maxRecDepth 100000

theorem RX.wroteX {w w1 : World} {rb : Nat} {S : DevS} {k gl : Nat} {tl : List Value} {pv pv' : Value} {vs : List (Nat × List Value)} (h : RX w rb S k gl tl pv vs) (b g : Nat) (ut : List Value) (d : List Int) (hb : b < k) (hd : d.length = 512) (hy : ∀ x ∈ d, 0 ≤ x ∧ x ≤ 255)
    (hg : w1.heap[g]? = some (bt d ut)) (hgn : w.heap.size ≤ g) (hT : Turns (fun i => pv.ownBlock = some i) w w1) (ho : w1.ownsRow 0 69 2 pv' (S.pend.length + 1) (rpc S.pend vs ++ [.int .i64 b, rv (g, ut)])) :
    RX (w1.setCell ⟨rb, 1, none⟩ pv') rb (wrote S b d) k gl tl pv' (vs ++ [(g, ut)]) := by
  have hT2 : Turns (fun i => i = rb) w1 (w1.setCell ⟨rb, 1, none⟩ pv') := Turns.cell w1 rb 1 pv'
  have hrl := heap_lt h.blk
  have hll := heap_lt h.lst
  have hblk1 := (hT.block rb hrl h.pr).trans h.blk
  have hlst1 := (hT.block gl hll h.pg).trans h.lst
  have hdat1 := rdat_turns h.dat hT (fun v hv e => h.pw v hv e)
  refine ⟨h.good.wrote hb hd hy, h.calm, ?_, ?_, ?_, ?_, ?_, ?_⟩
  · rw [heap_setCell_same _ _ _ _ _ _ hblk1]; rfl
  · exact (hT2.block gl (heap_lt hlst1) (fun e => h.rg e.symm)).trans hlst1
  · have e1 : (wrote S b d).pend.length = S.pend.length + 1 := by simp [wrote]
    have e2 : rpc (wrote S b d).pend (vs ++ [(g, ut)]) = rpc S.pend vs ++ [.int .i64 b, rv (g, ut)] := rpc_snoc S.pend vs b d (g, ut) h.vsl
    rw [e1, e2]
    exact own_turns ho hT2 (fun x hx e => own_ne2 ho hblk1 (by decide) (by rw [hx, e]))
  · simp [wrote, h.vsl]
  · intro i p v h1 h2
    by_cases hi : i < S.pend.length
    · have h1' : S.pend[i]? = some p := by rw [← List.getElem?_append_left (l₂ := [(b, d)]) hi]; exact h1
      have h2' : vs[i]? = some v := by rw [← List.getElem?_append_left (l₂ := [(g, ut)]) (by rw [h.vsl]; exact hi)]; exact h2
      have q := hdat1 i p v h1' h2'
      exact (hT2.block v.1 (heap_lt q) (h.vr v (List.mem_of_getElem? h2'))).trans q
    · have h1' : (S.pend ++ [(b, d)])[i]? = some p := h1
      rw [List.getElem?_append_right (by omega)] at h1'
      rw [List.getElem?_append_right (by rw [h.vsl]; omega), h.vsl] at h2
      have hi0 : i - S.pend.length = 0 := by
        have := (List.getElem?_eq_some_iff.1 h1').1
        simp at this; omega
      rw [hi0] at h1' h2
      simp at h1' h2
      subst h1'; subst h2
      exact (hT2.block g (heap_lt hg) (fun e => by omega)).trans hg
  · intro v hv
    rcases List.mem_append.1 hv with q | q
    · exact h.a3 v q
    · obtain rfl := List.mem_singleton.1 q
      intro e
      simp only at e
      omega

set_option maxHeartbeats 4000000 in
theorem refWrite_any {w : World} {rb : Nat} {S : DevS} {k : Nat} {R : Nat → Prop} (h : RDev w rb S k R) (hN : S.pend.length ≤ 1099511627776) (b : Int) (ao : Option Addr) (n c : Nat) (d : List Int) (hL : Lies w ao n c d) (hy : ∀ x ∈ d, 0 ≤ x ∧ x ≤ 255) (hF : ∀ ad, ao = some ad → 0 < n → ¬ R ad.block) :
    Calls Try.prog 35 #[.pointer (some ⟨rb, 0, none⟩), .int .i64 b, .slice ao n c] w fun e w' => e = .returned (.int .i64 (wrE S k b n)) ∧ RWent w w' rb (wrS S k b d) k R := by
  obtain ⟨gl, tl, pv, vs, h, f, hl⟩ := h
  have htop := h.good.top
  have hlen := hL.hlen
  have hself : RWent w w rb S k R := RDev.of h f hl (Turns.refl _ _) (fun b hb => Or.inl hb) (fun v hv => Or.inl hv)
  have HS : Hid (RWent w w rb S k R) := hself
  clear hself
  by_cases hb0 : b < 0
  · have hb : ¬ (0 ≤ b ∧ b < k) := by omega
    have e1 : wrE S k b n = 52 := by unfold wrE; rw [if_pos hb]
    have e2 : wrS S k b d = S := by unfold wrS; rw [if_pos hb]
    rw [e1, e2]
    go_enter Try.func35, Try.ntmps35
    go_wp2
    go_ret
    exact ⟨rfl, HS.out⟩
  by_cases hbk : (k : Int) ≤ b
  · have hb : ¬ (0 ≤ b ∧ b < k) := by omega
    have e1 : wrE S k b n = 52 := by unfold wrE; rw [if_pos hb]
    have e2 : wrS S k b d = S := by unfold wrS; rw [if_pos hb]
    rw [e1, e2]
    go_enter Try.func35, Try.ntmps35
    go_wp2_with (go_at_call 32; refine (refSize_any h).mono ?_; rintro e wn ⟨rfl, hwn⟩; subst wn)
    go_ret
    exact ⟨rfl, HS.out⟩
  have hb : 0 ≤ b ∧ b < k := by omega
  obtain ⟨bn, rfl⟩ : ∃ bn : Nat, b = bn := ⟨b.toNat, by omega⟩
  by_cases hn : n = 512
  case neg =>
    have e1 : wrE S k bn n = 53 := by unfold wrE; rw [if_neg (fun q => q hb), if_pos hn]
    have e2 : wrS S k bn d = S := by unfold wrS; rw [if_neg (fun q => q hb), hlen, if_pos hn]
    have hni : ((n : Int) != 512) = true := by simp; omega
    rw [e1, e2]
    go_enter Try.func35, Try.ntmps35
    go_wp2_with (go_at_call 32; refine (refSize_any h).mono ?_; rintro e wn ⟨rfl, hwn⟩; subst wn)
    go_ret
    exact ⟨rfl, HS.out⟩
  subst hn
  clear HS
  by_cases ho : (burnt S).off = true
  · have e1 : wrE S k bn 512 = 3 := by unfold wrE; rw [if_neg (fun q => q hb), if_neg (fun q => q rfl), if_pos ho]
    have e2 : wrS S k bn d = burnt S := by unfold wrS; rw [if_neg (fun q => q hb), if_neg (fun q => q hlen), if_pos ho]
    rw [e1, e2]
    go_enter Try.func35, Try.ntmps35
    go_wp2_with (go_at_call 32; refine (refSize_any h).mono ?_; rintro e wn ⟨rfl, hwn⟩; subst wn)
    refine (fails_any h).mono ?_
    rintro e w2 ⟨rfl, h2, t2⟩
    rw [ho]
    go_wp2_with fail
    go_ret
    exact ⟨rfl, RDev.of h2 f hl (t2.mono (fun i _ e => by subst e; exact f.f1)) (fun b hb => Or.inl hb) (fun v hv => Or.inl hv)⟩
  have ho' : (burnt S).off = false := by simpa using ho
  have e1 : wrE S k bn 512 = 0 := by unfold wrE; rw [if_neg (fun q => q hb), if_neg (fun q => q rfl), if_neg ho]
  have e2 : wrS S k bn d = wrote (burnt S) bn d := by unfold wrS; rw [if_neg (fun q => q hb), if_neg (fun q => q hlen), if_neg ho]; rfl
  rw [e1, e2]
  have hpb : (burnt S).pend = S.pend := by unfold burnt; split <;> rfl
  obtain ⟨B, hB⟩ : ∃ B, burnt S = B := ⟨_, rfl⟩
  have HB : Hid (burnt S = B) := hB
  rw [hB] at ho' hpb ⊢
  clear hB ho e1 e2
  obtain ⟨i0, hi, hz0, hz1, hz2⟩ := info_parts Try.info5
  obtain ⟨i1, hi', hy0, hy1, hy2⟩ := info_parts Try.info69
  go_enter Try.func35, Try.ntmps35
  go_wp2_with (go_at_call 32; refine (refSize_any h).mono ?_; rintro e wn ⟨rfl, hwn⟩; subst wn)
  refine (fails_any h).mono ?_
  rintro e w2 ⟨rfl, h2, t2⟩
  rw [HB.out] at h2 ⊢
  rw [ho']
  go_wp2_with fail
  obtain ⟨pa, pcp, hpv⟩ := row_slice h2.row
  obtain ⟨L, hLn⟩ : ∃ L, B.pend.length = L := ⟨_, rfl⟩
  have hrow := h2.row
  have HL : Hid (B.pend.length = L) := hLn
  rw [← hpb] at hN
  rw [hLn] at hN hpv hrow
  clear hLn hpb
  subst hpv
  obtain ⟨c0, c1, c2, c3, fz⟩ := h2.cells
  have f1 := fz 1
  have hblk := h2.blk
  have hrlt := heap_lt hblk
  have hpr := h2.pr
  have hL2 := hL.turns t2 (fun ad had e => hF ad had (by omega) (by rw [e]; exact f.f1))
  obtain ⟨db, dof, rfl, _⟩ := hL2.at (by omega)
  have hcells : ∀ j u, (d.map (Value.int .u8))[j]? = some u → w2.drew.cell? ((⟨db, dof, none⟩ : Addr).add j) = some u := hL2.hcells _ rfl
  have HX : Hid (RX w2 rb B k gl tl (.slice pa L pcp) vs) := h2
  clear c0 c2 c3 fz h2 h
  go_region_law
    (first
      | (refine step_append_lies _ rfl (.const (.slice none 0 0)) (.tmp 28) 33 rfl w2.heap.size 5 i0 (.int .u8 0) 1 1 Try.underlying33 hi hz0 hz1 hz2 rfl (by decide) (.slice none 0 0) 0 [] rfl (World.ownsRow_nil _ _ _ _) ⟨db, dof, none⟩ 512 c (d.map (Value.int .u8)) rfl (by simp [hlen]) hcells (ints_oneCell _ _) (by decide) (by decide) (by decide) (by simp) w2.heap.size rfl ?_; intro g cap w3 ho3 hg3 hat3 hlt3; have hB3 : Below w2.heap.size w2 w3 := ⟨hg3.os, hg3.tape, hg3.output, hg3.size, fun i hi => hg3.block i hi (by simp [Value.ownBlock])⟩; have c1' : w3.cell? ⟨rb, 1, none⟩ = some (.slice pa L pcp) := (hB3.cell hrlt).trans c1; have f1' : w3.frozen? ⟨rb, 1, none⟩ = false := (World.frozen?_of_block (hB3.block rb hrlt)).trans f1; have hrow3 := own_turns hrow (Below.turns hB3 (fun _ => False)) (fun _ _ => id); have a1 : (w3.alloc (.cells #[.int .i64 bn, .slice (some ⟨g, 0, none⟩) 512 cap] 69)).cell? ⟨rb, 1, none⟩ = some (.slice pa L pcp) := by { rw [World.cell?_of_block (w := w3) (Below.heap_alloc w3 _ rb (Nat.lt_of_lt_of_le hrlt hB3.size))]; exact c1' })
      | (refine step_append_lies _ rfl (.tmp 26) (.tmp 31) 64 rfl 0 69 i1 (.agg #[.int .i64 0, .slice none 0 0]) 2 32 Try.underlying64 hi' hy0 hy1 hy2 rfl (by decide) _ L _ rfl (hrow3.alloc _) ⟨w3.heap.size, 0, none⟩ 1 1 [.int .i64 bn, .slice (some ⟨g, 0, none⟩) 512 cap] rfl rfl (cell_two_new _ _ _ _) (by intro u hu; simp at hu; rcases hu with rfl | rfl <;> rfl) (by decide) (by unfold maxLen; omega) (by omega) (Nat.zero_le _) _ rfl ?_; intro gC cC w4 ho4 hg4 hat4 hlt4; have hT4 := (Turns.alloc _ w3 _).trans (Turns.grown (F := fun i => (Value.slice pa L pcp).ownBlock = some i) hg4 (fun b hb => hb)) (fun _ _ h => h); have hblk4 := (hT4.block rb (Nat.lt_of_lt_of_le hrlt hB3.size) hpr).trans ((hB3.block rb hrlt).trans hblk); have f4 : w4.cell? ⟨rb, 1, none⟩ = some (.slice pa L pcp) := by { simp [World.cell?, hblk4] }; have z4 : w4.frozen? ⟨rb, 1, none⟩ = false := by { simp [World.frozen?, hblk4] }))
  all_goals (
    clear f4 z4 a1 c1' f1'
    simp only [Nat.zero_add, List.nil_append] at ho3
    obtain ⟨g', ut, q1, q2, q3⟩ := own_bt ho3 (by omega)
    obtain ⟨rfl, rfl⟩ : g = g' ∧ cap = 512 + ut.length := by cases q1; exact ⟨rfl, rfl⟩
    have hg4' : w4.heap[g]? = some (bt d ut) := (hT4.block g (heap_lt q3) (fun e => by have := (hrow.lt g e).2; omega)).trans q3
    have hTT : Turns (fun i => (Value.slice pa L pcp).ownBlock = some i) w2 w4 := (Below.turns hB3 _).trans hT4 (fun _ _ h => h)
    have h5 := HX.out.wroteX bn g ut d (by omega) hlen hy hg4' q2 hTT (pv' := .slice (some ⟨gC, 0, none⟩) (L + 1) cC) (by rw [HL.out]; exact ho4)
    have t5 := Turns.cell w4 rb 1 (.slice (some ⟨gC, 0, none⟩) (L + 1) cC)
    go_wp2_with fail
    go_ret
    have hs2 := t2.size
    refine ⟨rfl, RDev.of h5 f hl (((t2.mono (fun i _ e => by subst e; exact f.f1)).trans hTT (fun i _ e => f.f4 i e)).trans t5 (fun i _ e => by subst e; exact f.f1)) (fun x hx => ?_) (fun v hv => ?_)⟩
    · cases hx
      rcases hat4 with q | q
      · exact Or.inl q
      · right
        have := hB3.size
        simp at q
        show w.heap.size ≤ gC
        omega
    · rcases List.mem_append.1 hv with q | q
      · exact Or.inl q
      · obtain rfl := List.mem_singleton.1 q
        right
        show w.heap.size ≤ g
        omega)
end Go.Proofs.Ytejfbjjhnhlagaa
