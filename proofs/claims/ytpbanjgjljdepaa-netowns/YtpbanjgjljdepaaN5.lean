/- Flip of a net. -/
import Derived.Test.YtpbanjgjljdepaaN4
namespace Go.Proofs.Ytpbanjgjljdepaa
open Go.RowKit Go.Maps
set_option maxRecDepth 100000
variable {w w' : World} {lab lab' : Nat → Nat} {k j xb bm : Nat} {last : Int} {es : List En} {F : Nat → Prop} {S : St}

/-- One flight's bytes are changed. -/
def flE (no at_ v : Int) (e : En) : En := if e.no = no then ⟨e.no, e.to, flipD e.d at_ v, e.v⟩ else e
theorem flE_pk (no at_ v : Int) (e : En) : pkV (flE no at_ v e) = pkV e := by unfold flE; split <;> rfl
theorem flE_no (no at_ v : Int) (e : En) : (flE no at_ v e).no = e.no := by unfold flE; split <;> rfl
theorem flE_v (no at_ v : Int) (e : En) : (flE no at_ v e).v = e.v := by unfold flE; split <;> rfl
theorem flE_fl (no at_ v : Int) (es : List En) : (es.map (flE no at_ v)).map En.fl = (es.map En.fl).map fun f => if f.no = no then ⟨f.no, f.to, flipD f.d at_ v⟩ else f := by
  rw [List.map_map, List.map_map]
  refine List.map_congr_left fun e _ => ?_
  show En.fl (flE no at_ v e) = _
  unfold flE
  by_cases q : e.no = no
  · simp [q]
  · simp [q]
theorem flipD_len (d : List Int) (at_ v : Int) : (flipD d at_ v).length = d.length := by simp [flipD]
theorem flE_len (no at_ v : Int) (e : En) : (flE no at_ v e).d.length = e.d.length := by
  unfold flE; split
  · exact flipD_len _ _ _
  · rfl
/-- Flights of which one's bytes are changed in their place. -/
theorem Ens.flip (h : Ens w lab k es) (hr : es.Pairwise (fun a b => a.no < b.no)) {no at_ v : Int} {e : En} (he : fnd es no = some e) {g c : Nat} (hv : e.v = .slice (some ⟨g, 0, none⟩) e.d.length c) :
    Ens (w.setCell ⟨g, at_.toNat, none⟩ (.int .u8 (xorB (e.d.getD at_.toNat 0) v))) lab k (es.map (flE no at_ v)) := by
  obtain ⟨hmem, hno⟩ := fnd_mem he
  have t := Turns.cell w g at_.toNat (.int .u8 (xorB (e.d.getD at_.toNat 0) v))
  refine ⟨fun x hx => ?_, ?_⟩
  · obtain ⟨y, hy, rfl⟩ := List.mem_map.1 hx
    have hd := h.da y hy
    by_cases q : y.no = no
    · have hye : y = e := by
        have h1 : ∀ {l : List En}, l.Pairwise (fun a b => a.no < b.no) → ∀ {a b : En}, a ∈ l → b ∈ l → a.no = b.no → a = b := fun {l} hl => by
          induction l with
          | nil => intro a b ha; cases ha
          | cons z l ih =>
            obtain ⟨p1, p2⟩ := List.pairwise_cons.1 hl
            intro a b ha hb hab
            rcases List.mem_cons.1 ha with r | r <;> rcases List.mem_cons.1 hb with s | s
            · rw [r, s]
            · have := p1 b s; rw [r] at hab; omega
            · have := p1 a r; rw [s] at hab; omega
            · exact ih p2 r s hab
        exact h1 hr hy hmem (by rw [q, hno])
      subst hye
      have ho := hd.own
      rw [hv] at ho
      have hs := (ho.stored at_.toNat (.int .u8 (xorB (y.d.getD at_.toNat 0) v))).1
      have e1 : flE no at_ v y = ⟨y.no, y.to, flipD y.d at_ v, y.v⟩ := if_pos q
      rw [e1]
      refine ⟨?_, hd.lb, by rw [flipD_len]; exact hd.len⟩
      show World.ownsRow _ 0 _ 1 y.v (flipD y.d at_ v).length ((flipD y.d at_ v).map (Value.int .u8))
      rw [flipD_len, hv, flipD, List.map_set]
      exact hs
    · have e1 : flE no at_ v y = y := if_neg q
      rw [e1]
      refine ⟨own_turns hd.own t (fun b hb r => ?_), hd.lb, hd.len⟩
      rw [r] at hb
      exact Ens.sep_at h.sep hmem hy (by omega) g (by rw [hv]; rfl) hb
  · rw [List.pairwise_map]
    refine h.sep.imp (fun {a b} q => ?_)
    unfold Apt
    rw [flE_v, flE_v]; exact q
set_option maxHeartbeats 2000000 in
theorem flipN (h : Nt w lab k xb S) {no at_ v : Int} (hk : KeyI no) :
    Calls Try.prog 17 #[.pointer (some ⟨xb, 0, none⟩), .int .i64 no, .int .i64 at_, .int .i64 v] w fun en w' => en = .returned (.int .i64 (flipE S no at_ v)) ∧ Nt w' (rl lab w k) k xb (flipS S no at_ v) ∧ Turns (fun i => lab i = k) w w' := by
  have H0 := h
  obtain ⟨bm, es, h, hl, ok⟩ := h
  have hfd := Nt.find h hl no
  have c0 := h.c0
  cases he : fnd es no with
  | none =>
    rw [he] at hfd
    have qE : flipE S no at_ v = 201 := by unfold flipE; rw [hfd]; rfl
    have qS : flipS S no at_ v = S := by unfold flipS; rw [qE]; rfl
    rw [qE, qS]
    have hlk : (Instr.lookup 74 (.map (some bm)) (.int .i64 no) true).run Try.prog w = .ok (.tuple #[.agg #[.int .i64 0, .slice none 0 0], .bool false]) w := by
      have := Mv.look2 h.map hk
      rw [vlk_fnd, he] at this; exact this
    have HN : Hid (Nt w lab k xb S) := H0
    clear h H0 hl ok hfd he qE qS
    go_enter Try.func17, Try.ntmps17
    go_wp2_with fail
    go_ret
    exact ⟨rfl, HN.out.below ((Below.refl _ w).alloc (Nat.le_refl _) _) k, Turns.alloc _ _ _⟩
  | some e =>
    rw [he] at hfd
    obtain ⟨q1, q2, q3, q4, q5⟩ := findS_some hfd
    have hsm : (findS S no).isSome = true := by rw [hfd]; rfl
    have hd := h.en.da _ (fnd_mem he).1
    obtain ⟨ao, cc, hev, hL⟩ := Lies.da hd
    obtain ⟨eno, eto, ed, ev⟩ := e
    change ev = .slice ao ed.length cc at hev
    change Lies w ao ed.length cc ed at hL
    change takeD S no = ed at q2
    have hln : ed.length ≤ 140737488355328 := hd.len
    obtain ⟨n, hn⟩ : ∃ n, ed.length = n := ⟨_, rfl⟩
    rw [hn] at hev hL hln
    subst hev
    have hlk : (Instr.lookup 74 (.map (some bm)) (.int .i64 no) true).run Try.prog w = .ok (.tuple #[.agg #[.int .i64 eto, .slice ao n cc], .bool true]) w := by
      have := Mv.look2 h.map hk
      rw [vlk_fnd, he] at this; exact this
    obtain ⟨W1, hW1⟩ : ∃ W, w.alloc (.cells #[.int .i64 eto, .slice ao n cc] 28) = W := ⟨_, rfl⟩
    have z1 : W1.heap[w.heap.size]? = some (.cells #[.int .i64 eto, .slice ao n cc] 28) := by rw [← hW1]; exact heap_alloc_new w _
    have b1 : Below w.heap.size w W1 := by rw [← hW1]; exact (Below.refl _ w).alloc (Nat.le_refl _) _
    have k0 : W1.cell? ⟨w.heap.size, 0, none⟩ = some (.int .i64 eto) := by simp [World.cell?, z1]
    have k1 : W1.cell? ⟨w.heap.size, 1, none⟩ = some (.slice ao n cc) := by simp [World.cell?, z1]
    have HB : Hid (Below w.heap.size w W1) := b1
    have HN : Hid (Nt w lab k xb S) := H0
    by_cases ha : 0 ≤ at_ ∧ at_ < n
    · by_cases hv : 1 ≤ v ∧ v ≤ 255
      · have qE : flipE S no at_ v = 0 := by unfold flipE; rw [if_pos hsm, q2, hn, if_pos ha, if_pos hv]
        have qS : flipS S no at_ v = ⟨S.last, S.l.map fun f => if f.no = no then ⟨f.no, f.to, flipD f.d at_ v⟩ else f⟩ := by unfold flipS; rw [if_pos qE]
        have hok := ok.flip no at_ v
        rw [qE]
        rw [qS] at hok ⊢
        have h1 := h.below b1 (lab' := rl lab w k) (fun i hi q => (rl_old hi).trans q)
        have hd1 := h1.en.da _ (fnd_mem he).1
        have ho1 : W1.ownsRow 0 5 1 (.slice ao n cc) n (ed.map (Value.int .u8)) := by have := hd1.own; simp only [hn] at this; exact this
        obtain ⟨g, rfl⟩ : ∃ g, ao = some ⟨g, 0, none⟩ := by
          rcases ho1.2 with ⟨_, h0⟩ | ⟨g, cap, cur, q, _⟩
          · omega
          · cases q; exact ⟨g, rfl⟩
        obtain ⟨a, rfl⟩ : ∃ a : Nat, at_ = a := ⟨at_.toNat, by omega⟩
        have g0 : W1.cell? ⟨g, a, none⟩ = some (.int .u8 (ed.getD a 0)) := by
          rw [ho1.cellAt a (by omega)]
          simp [List.getD, show a < ed.length by omega]
        have fz := ho1.frozenAt a
        have hwv : IntKind.u8.wrap v = v := by simp [IntKind.wrap, IntKind.bits, IntKind.signed]; omega
        have HH : Hid (NtX W1 (rl lab w k) k xb bm S.last es) := h1
        have HE : Hid (fnd es no = some ⟨eno, eto, ed, .slice (some ⟨g, 0, none⟩) n cc⟩) := he
        have Hl : Hid (es.map En.fl = S.l) := hl
        have HK : Hid (St.Ok ⟨S.last, S.l.map fun f => if f.no = no then ⟨f.no, f.to, flipD f.d a v⟩ else f⟩) := hok
        have HR : Hid (S.l.Pairwise (fun a b => a.no < b.no)) := ok.ris
        have HL : Hid (ed.length = n) := hn
        have Hlg : Hid (lab g = k ∧ g < w.heap.size) := ⟨hd.lb g rfl, hd.lt g rfl⟩
        clear h h1 H0 hl ok hfd he q1 q2 q3 q4 q5 qE qS hok hd b1 hL hn hsm hd1 ho1 z1
        obtain ⟨C, hC⟩ : ∃ C, ed.getD a 0 = C := ⟨_, rfl⟩
        rw [hC] at g0
        have HC : Hid (ed.getD a 0 = C) := hC
        clear hC
        go_enter Try.func17, Try.ntmps17
        go_wp2_with fail
        go_ret
        have t2 := Turns.cell W1 g a (.int .u8 (xorB C v))
        have hri : es.Pairwise (fun a b => a.no < b.no) := by
          have := HR.out
          rw [← Hl.out, List.pairwise_map] at this; exact this
        have hE2 := HH.out.en.flip hri (no := no) (at_ := a) (v := v) HE.out (g := g) (c := cc) (by show Value.slice _ n cc = .slice _ ed.length cc; rw [HL.out])
        have hE2' : Ens (W1.setCell ⟨g, a, none⟩ (.int .u8 (xorB C v))) (rl lab w k) k (es.map (flE no a v)) := by
          have := hE2
          rw [show ((a : Int).toNat) = a from rfl] at this
          change Ens (W1.setCell ⟨g, a, none⟩ (.int .u8 (xorB (ed.getD a 0) v))) _ _ _ at this
          rw [HC.out] at this; exact this
        have hd1 := HH.out.en.da _ (fnd_mem HE.out).1
        have hxg : xb ≠ g := fun q => hd1.ne_cells HH.out.box (by decide) (by rw [q]; rfl)
        have hmg : bm ≠ g := fun q => hd1.ne_map HH.out.map (by rw [q]; rfl)
        have hmp := HH.out.map.turns t2 hmg
        have hm2 : Mv (W1.setCell ⟨g, a, none⟩ (.int .u8 (xorB C v))) bm (es.map (flE no a v)).length ((es.map (flE no a v)).map fun e => (e.no, pkV e)) := by
          rw [List.length_map, List.map_map]
          have e1 : ((fun e : En => (e.no, pkV e)) ∘ flE no a v) = fun e => (e.no, pkV e) := by funext e; show ((flE no a v e).no, pkV (flE no a v e)) = _; rw [flE_pk, flE_no]
          rw [e1]; exact hmp
        refine ⟨rfl, ⟨bm, es.map (flE no a v), ⟨(t2.block xb (heap_lt HH.out.box) hxg).trans HH.out.box, hm2, hE2', HH.out.lx, HH.out.lm⟩, ?_, HK.out⟩, ?_⟩
        · rw [flE_fl, Hl.out]
        · exact (Below.turns HB.out (fun i => lab i = k)).trans t2 (fun i _ q => by rw [q]; exact Hlg.out.1)
      · have qE : flipE S no at_ v = 203 := by unfold flipE; rw [if_pos hsm, q2, hn, if_pos ha, if_neg hv]
        have qS : flipS S no at_ v = S := by unfold flipS; rw [qE]; rfl
        rw [qE, qS]
        obtain ⟨a1, a2⟩ := ha
        clear h H0 hl ok hfd he q1 q2 q3 q4 q5 qE qS hd b1 hL hn hsm
        by_cases hv1 : v < 1
        · go_enter Try.func17, Try.ntmps17
          go_wp2_with fail
          go_ret
          exact ⟨rfl, HN.out.below HB.out k, Below.turns HB.out _⟩
        · have hv2 : 255 < v := by omega
          go_enter Try.func17, Try.ntmps17
          go_wp2_with fail
          go_ret
          exact ⟨rfl, HN.out.below HB.out k, Below.turns HB.out _⟩
    · have qE : flipE S no at_ v = 202 := by unfold flipE; rw [if_pos hsm, q2, hn, if_neg ha]
      have qS : flipS S no at_ v = S := by unfold flipS; rw [qE]; rfl
      rw [qE, qS]
      clear h H0 hl ok hfd he q1 q2 q3 q4 q5 qE qS hd b1 hL hn hsm
      by_cases hv1 : at_ < 0
      · go_enter Try.func17, Try.ntmps17
        go_wp2_with fail
        go_ret
        exact ⟨rfl, HN.out.below HB.out k, Below.turns HB.out _⟩
      · have hv2 : (n : Int) ≤ at_ := by omega
        go_enter Try.func17, Try.ntmps17
        go_wp2_with fail
        go_ret
        exact ⟨rfl, HN.out.below HB.out k, Below.turns HB.out _⟩
end Go.Proofs.Ytpbanjgjljdepaa
