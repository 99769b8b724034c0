/- Read by its contract. -/
import Derived.Test.YtnmdnglbpkpfdaaGreatDoorPk02
import Derived.Deep.RegionHeld3
import Derived.Test.YtnmdnglbpkpfdaaGreatDoorPk01
import Derived.Deep.Slices
import Derived.Deep.RegionLaw
namespace Go.Proofs.YtnmdnglbpkpfdaaGreatDoor
open Go.RowKit Go.Maps
open Go.MuLone
set_option maxRecDepth 100000
/-- Read's answer. -/
def rdE (S : DevS) (k : Nat) (b : Int) : Int := if ¬ (0 ≤ b ∧ b < k) then 52 else if S.off then 3 else 0
/-- What Read hands out. -/
def ReadR (w w' : World) (S : DevS) (k : Nat) (b : Int) (e : Ending) : Prop :=
  (rdE S k b ≠ 0 ∧ e = .returned (.tuple #[.slice none 0 0, .int .i64 (rdE S k b)])) ∨
  (rdE S k b = 0 ∧ ∃ g, e = .returned (.tuple #[.slice (some ⟨g, 0, none⟩) 512 512, .int .i64 0]) ∧ w.heap.size ≤ g ∧ w'.heap[g]? = some (bl (rdB S b.toNat)))
theorem newest_both : ∀ (ps : List (Nat × List Int)) (gs : List Nat) (b : Nat), gs.length = ps.length → (newestG ps gs b = none ∧ newest ps b = none) ∨ ∃ (i g : Nat) (p : Nat × List Int), newestG ps gs b = some g ∧ newest ps b = some p.2 ∧ ps[i]? = some p ∧ gs[i]? = some g := fun ps gs b h => by
  have hz : newest ps b = ((ps.zip gs).reverse.find? (fun t => t.1.1 == b)).map (·.1.2) := by
    unfold newest
    have e : ps.reverse = (ps.zip gs).reverse.map (·.1) := by
      rw [List.map_reverse, List.map_fst_zip (by omega)]
    rw [e, List.find?_map, Option.map_map]
    rfl
  unfold newestG
  rw [hz]
  cases hf : (ps.zip gs).reverse.find? (fun t => t.1.1 == b) with
  | none => exact Or.inl ⟨rfl, rfl⟩
  | some t =>
    right
    have hm := List.mem_of_find?_eq_some hf
    rw [List.mem_reverse] at hm
    obtain ⟨i, hi⟩ := List.mem_iff_getElem?.1 hm
    rw [List.getElem?_zip_eq_some] at hi
    exact ⟨i, t.2, t.1, rfl, rfl, hi.1, hi.2⟩
theorem zeroB (w : World) : (zeroValue 56).run Tryz.prog w = .ok (.slice none 0 0) w := by kernel_rfl

set_option maxHeartbeats 4000000 in
theorem read_any {w : World} {db : Nat} {S : DevS} {k N : Nat} {F : Nat → Prop} (h : Dev w db 0 S k N F) (b : Int) :
    Calls Tryz.prog 127 #[.pointer (some ⟨db, 0, none⟩), .int .i64 b] w fun e w' => ReadR w w' S k b e ∧ Same0 w w' db S k N F := by
  obtain ⟨gl, bm, q, pv, gs, Dm, h, f, hl⟩ := h
  have htop := h.good.top
  by_cases hb : 0 ≤ b ∧ b < k
  case neg =>
    have e1 : rdE S k b = 52 := by unfold rdE; rw [if_pos hb]
    have hbd := decide_eq_false hb
    go_enter_defers Tryz.func127, Tryz.ntmps127
    go_wp2_with fail
    refine (lock_dev h).mono ?_
    rintro e w1 ⟨rfl, h1, t1⟩
    have c2 := h1.cells.2.1
    go_wp2_with (go_at_call 129; refine (has_any db k _ _ _ htop c2).mono ?_; rintro e wn ⟨rfl, hwn⟩; subst wn; rw [hbd])
    refine leaves_cons (f := 56) (args := #[.pointer (some ⟨db, 0, none⟩)]) (by simp) (by simp [go_sem]) ?_
    refine (unlock_dev .returning h1).mono ?_
    rintro e u' w2 ⟨rfl, rfl, h2, t2⟩
    exact ⟨_, results_tmp2 rfl _ _ _, Or.inl ⟨by rw [e1]; decide, by rw [e1]; rfl⟩, Same0.of h2 f hl (t1.trans t2 (fun _ _ h => h))⟩
  have hbd := decide_eq_true hb
  by_cases ho : S.off = true
  · have e1 : rdE S k b = 3 := by unfold rdE; rw [if_neg (fun q => q hb), if_pos ho]
    go_enter_defers Tryz.func127, Tryz.ntmps127
    go_wp2_with fail
    refine (lock_dev h).mono ?_
    rintro e w1 ⟨rfl, h1, t1⟩
    have c2 := h1.cells.2.1
    have c6 := h1.cells.2.2.2.2.2.1
    rw [ho] at c6
    go_wp2_with (go_at_call 129; refine (has_any db k _ _ _ htop c2).mono ?_; rintro e wn ⟨rfl, hwn⟩; subst wn; rw [hbd])
    refine leaves_cons (f := 56) (args := #[.pointer (some ⟨db, 0, none⟩)]) (by simp) (by simp [go_sem]) ?_
    refine (unlock_dev .returning h1).mono ?_
    rintro e u' w2 ⟨rfl, rfl, h2, t2⟩
    exact ⟨_, results_tmp2 rfl _ _ _, Or.inl ⟨by rw [e1]; decide, by rw [e1]; rfl⟩, Same0.of h2 f hl (t1.trans t2 (fun _ _ h => h))⟩
  have ho' : S.off = false := by simpa using ho
  have e1 : rdE S k b = 0 := by unfold rdE; rw [if_neg (fun q => q hb), if_neg ho]
  have hbn : (b.toNat : Int) = b := by omega
  have hbk : b.toNat < k := by omega
  obtain ⟨bn, hbn2⟩ : ∃ bn, b.toNat = bn := ⟨_, rfl⟩
  have HR : Hid (∀ w' g, w.heap.size ≤ g → w'.heap[g]? = some (bl (rdB S bn)) → ReadR w w' S k b (.returned (.tuple #[.slice (some ⟨g, 0, none⟩) 512 512, .int .i64 0]))) := fun w' g h1 h2 => Or.inr ⟨e1, g, rfl, h1, by rw [hbn2]; exact h2⟩
  rw [hbn2] at hbn hbk
  subst hbn
  clear hbn2 e1
  have hkey := keyOf_int_mk (a := (bn : Int)) Tryz.underlying3 (q := .i64) (WalkArith.wf_i64 ⟨by omega, by omega⟩)
  go_enter_defers Tryz.func127, Tryz.ntmps127
  go_wp2_with fail
  refine (lock_dev h).mono ?_
  rintro e w1 ⟨rfl, h1, t1⟩
  obtain ⟨c0, c2, c3, c4, c5, c6, fz⟩ := h1.cells
  rw [ho'] at c6
  have hs1 := t1.size
  obtain ⟨hhas, hatk⟩ := h1.at_ bn (by omega)
  have hmap := h1.map
  clear c0 c3 c5 fz
  rcases newest_both S.pend gs bn h1.gsl with ⟨n1, n2⟩ | ⟨i, g0, p, n1, n2, hi, hgi⟩
  · rw [n1] at hhas hatk
    have hrd : rdB S bn = (S.last.drop (512 * bn)).take 512 := by unfold rdB; rw [n2]; rfl
    have hlo : (Instr.lookup 99 (.map (some bm)) (.int .i64 bn) true).run Tryz.prog w1 = .ok (.tuple #[.slice none 0 0, .bool false]) w1 := by
      obtain ⟨v, ps, hrun, hv⟩ := hmap.look_ok law3 Tryz.underlying99 (zeroB w1) (zd := .held (.slice none 0 0)) (zp := []) rfl hkey
      rw [hatk] at hv
      obtain ⟨rfl, _⟩ : v = .slice none 0 0 ∧ ps = [] := by simpa using hv
      rw [hrun, hhas]; rfl
    have hLp : Lies w1 (some ⟨gl, 512 * bn, none⟩) 512 (512 * k - 512 * bn) (rdB S bn) := by
      rw [hrd]; exact Lies.piece h1.lst (by rw [h1.good.len]; omega) (by omega)
    clear hatk hhas hmap
    go_wp2_with (first
      | (go_at_call 129; refine (has_any db k _ _ _ htop c2).mono ?_; rintro e wn ⟨rfl, hwn⟩; subst wn; rw [hbd])
      | (go_at_call 98; refine (block_any db k gl bn _ hbk htop c2).mono ?_; rintro e wn ⟨rfl, hwn⟩; subst wn))
    refine (copied_any _ 512 _ _ _ (by omega) hLp).mono ?_
    rintro e w2 ⟨g, rfl, hg, hgb, hb2⟩
    have h2 := h1.turns (Below.turns hb2 (fun _ => False)) id id id (fun _ _ => id) (fun _ _ => id)
    have hd2 := heap_lt h1.blk
    go_wp2_with fail
    refine leaves_cons (f := 56) (args := #[.pointer (some ⟨db, 0, none⟩)]) (by simp) (by simp [go_sem]) ?_
    refine (unlock_dev .returning h2).mono ?_
    rintro e u' w3 ⟨rfl, rfl, h3, t3⟩
    have hR3 := HR.out w3 g (by omega) ((t3.block g (heap_lt hgb) (fun e => by omega)).trans hgb)
    refine ⟨_, results_tmp2 rfl _ _ _, ?_⟩
    exact ⟨hR3, Same0.of h3 f hl ((t1.trans (Below.turns hb2 (fun i => i = db)) (fun _ _ h => h)).trans t3 (fun _ _ h => h))⟩
  · rw [n1] at hhas hatk
    have hrd : rdB S bn = p.2 := by unfold rdB; rw [n2]; rfl
    have hlo : (Instr.lookup 99 (.map (some bm)) (.int .i64 bn) true).run Tryz.prog w1 = .ok (.tuple #[hv g0, .bool true]) w1 := by
      obtain ⟨v, ps, hrun, hv⟩ := hmap.look_ok law3 Tryz.underlying99 (zeroB w1) (zd := .held (.slice none 0 0)) (zp := []) rfl hkey
      rw [hatk] at hv
      obtain ⟨rfl, _⟩ : v = .slice (some ⟨g0, 0, none⟩) 512 512 ∧ ps = [] := by simpa using hv
      rw [hrun, hhas]; rfl
    have hpm := h1.good.pend p (List.mem_of_getElem? hi)
    have hLp : Lies w1 (some ⟨g0, 0, none⟩) 512 512 (rdB S bn) := by
      rw [hrd]; exact Lies.full (h1.dat i p g0 hi hgi) hpm.2.1
    clear hatk hhas hmap
    go_wp2_with (first
      | (go_at_call 129; refine (has_any db k _ _ _ htop c2).mono ?_; rintro e wn ⟨rfl, hwn⟩; subst wn; rw [hbd]))
    refine (copied_any _ 512 _ _ _ (by omega) hLp).mono ?_
    rintro e w2 ⟨g, rfl, hg, hgb, hb2⟩
    have h2 := h1.turns (Below.turns hb2 (fun _ => False)) id id id (fun _ _ => id) (fun _ _ => id)
    have hd2 := heap_lt h1.blk
    go_wp2_with fail
    refine leaves_cons (f := 56) (args := #[.pointer (some ⟨db, 0, none⟩)]) (by simp) (by simp [go_sem]) ?_
    refine (unlock_dev .returning h2).mono ?_
    rintro e u' w3 ⟨rfl, rfl, h3, t3⟩
    have hR3 := HR.out w3 g (by omega) ((t3.block g (heap_lt hgb) (fun e => by omega)).trans hgb)
    refine ⟨_, results_tmp2 rfl _ _ _, ?_⟩
    exact ⟨hR3, Same0.of h3 f hl ((t1.trans (Below.turns hb2 (fun i => i = db)) (fun _ _ h => h)).trans t3 (fun _ _ h => h))⟩
end Go.Proofs.YtnmdnglbpkpfdaaGreatDoor

/- Flush, Crash by their contracts. -/
namespace Go.Proofs.YtnmdnglbpkpfdaaGreatDoor
open Go.RowKit Go.Maps
open Go.MuLone
set_option maxRecDepth 100000
/-- The writes that pend, cell by cell. -/
theorem DevX.pending {w : World} {db : Nat} {st : Int} {S : DevS} {k N gl bm : Nat} {q : Int} {pa : Option Addr} {L pcp : Nat} {gs : List Nat} {Dm : DataW Value} (h : DevX w db st S k N gl bm q (.slice pa L pcp) gs Dm) {j : Nat} (hj : j < S.pend.length) :
    ∃ pg g p, pa = some ⟨pg, 0, none⟩ ∧ S.pend[j]? = some p ∧ gs[j]? = some g ∧ p.1 < k ∧ p.2.length = 512 ∧ (∀ x ∈ p.2, 0 ≤ x ∧ x ≤ 255) ∧ w.cell? ⟨pg, j * 2, none⟩ = some (.int .i64 p.1) ∧ w.cell? ⟨pg, j * 2 + 1, none⟩ = some (hv g) ∧ w.heap[g]? = some (bl p.2) := by
  have hp : S.pend[j]? = some S.pend[j] := List.getElem?_eq_getElem hj
  have hgj : gs[j]? = some (gs[j]'(by rw [h.gsl]; exact hj)) := List.getElem?_eq_getElem _
  obtain ⟨e1, e2⟩ := pc_at _ _ j _ _ hp hgj
  have hpm := h.good.pend _ (List.mem_of_getElem? hp)
  have hrow := h.row
  rcases hrow.2 with ⟨_, h0⟩ | ⟨pg, cap, cur, hv', _, hb, _⟩
  · omega
  · cases hv'
    refine ⟨pg, _, _, rfl, hp, hgj, hpm.1, hpm.2.1, hpm.2.2, ?_, ?_, h.dat j _ _ hp hgj⟩
    · rw [hrow.cellAt (j * 2) (by omega)]; exact e1
    · rw [hrow.cellAt (j * 2 + 1) (by omega)]; exact e2
theorem layAll_take (l : List Int) (ps : List (Nat × List Int)) (j : Nat) (p : Nat × List Int) (h : ps[j]? = some p) : layAll l (ps.take (j + 1)) = layB (layAll l (ps.take j)) p := by
  have hj := (List.getElem?_eq_some_iff.1 h).1
  rw [List.take_succ_eq_append_getElem hj, (List.getElem?_eq_some_iff.1 h).2]
  simp [layAll]
/-- Flush's answer. -/
def flE (S : DevS) : Int := if (burnt S).off then 3 else 0
def flS (S : DevS) : DevS := if (burnt S).off then burnt S else flushed (burnt S)

set_option maxHeartbeats 4000000 in
theorem flush_any {w : World} {db : Nat} {S : DevS} {k N : Nat} {F : Nat → Prop} (h : Dev w db 0 S k N F) (hN : N ≤ 1099511627776) :
    Calls Tryz.prog 20 #[.pointer (some ⟨db, 0, none⟩)] w fun e w' => e = .returned (.int .i64 (flE S)) ∧ Went w w' db (flS S) k N F := by
  obtain ⟨gl, bm, q, pv, gs, Dm, h, f, hl⟩ := h
  by_cases ho : (burnt S).off = true
  · have e1 : flE S = 3 := by unfold flE; rw [if_pos ho]
    have e2 : flS S = burnt S := by unfold flS; rw [if_pos ho]
    rw [e1, e2]
    go_enter_defers Tryz.func20, Tryz.ntmps20
    go_wp2_with fail
    refine (lock_dev h).mono ?_
    rintro e w1 ⟨rfl, h1, t1⟩
    go_wp2_with fail
    refine (burn_any h1).mono ?_
    rintro e w2 ⟨rfl, h2, t2⟩
    have c6 := h2.cells.2.2.2.2.2.1
    rw [ho] at c6
    go_wp2_with fail
    refine leaves_cons (f := 56) (args := #[.pointer (some ⟨db, 0, none⟩)]) (by simp) (by simp [go_sem]) ?_
    refine (unlock_dev .returning h2).mono ?_
    rintro e u' w3 ⟨rfl, rfl, h3, t3⟩
    exact ⟨_, results_tmp rfl _ _ _, rfl, Went.of h3 f hl (((t1.trans t2 (fun _ _ h => h)).trans t3 (fun _ _ h => h)).mono (fun i _ e => by subst e; exact f.f1)) rfl (Or.inr (Or.inl rfl)) (fun g hg => Or.inl hg)⟩
  · have ho' : (burnt S).off = false := by simpa using ho
    have e1 : flE S = 0 := by unfold flE; rw [if_neg ho]
    have e2 : flS S = flushed (burnt S) := by unfold flS; rw [if_neg ho]
    rw [e1, e2]
    have hpb : (burnt S).pend = S.pend := by unfold burnt; split <;> rfl
    obtain ⟨pa, pcp, hpv⟩ := row_slice h.row
    have hpn := h.pn
    obtain ⟨L, hL⟩ : ∃ L, S.pend.length = L := ⟨_, rfl⟩
    rw [hL] at hpv hpn
    have hLi : (L : Int) ≤ 1099511627776 := by omega
    have HL : Hid ((burnt S).pend.length = L) := by rw [hpb]; exact hL
    clear hL hpb
    obtain ⟨B, hB⟩ : ∃ B, burnt S = B := ⟨_, rfl⟩
    have HB : Hid (burnt S = B) := hB
    rw [hB] at ho' HL ⊢
    clear hB ho e1 e2
    subst hpv
    go_enter_defers Tryz.func20, Tryz.ntmps20
    go_wp2_with fail
    refine (lock_dev h).mono ?_
    rintro e w1 ⟨rfl, h1, t1⟩
    go_wp2_with fail
    refine (burn_any h1).mono ?_
    rintro e w2 ⟨rfl, h2, t2⟩
    have t12 := t1.trans t2 (fun _ _ h => h)
    rw [HB.out] at h2
    obtain ⟨c0, c2, c3, c4, c5, c6, fz⟩ := h2.cells
    rw [ho'] at c6
    clear c0 c2 c4 c5 fz t1 t2 h1
    go_wp2_with fail
    go_loopw [23] (fun i wr => ∃ j : Nat, j ≤ L ∧ i = .int .i64 j ∧ DevX wr db 1 { B with last := layAll B.last (B.pend.take j) } k N gl bm q (.slice pa L pcp) gs Dm ∧ Turns (fun i => i = gl) w2 wr) (fun i _ => L - (intOf i).toNat)
    case atStart => exact ⟨0, Nat.zero_le _, rfl, h2, Turns.refl _ _⟩
    case round =>
      obtain ⟨j, hj, rfl, hX, hT⟩ := hrel
      by_cases hlt : j < L
      · obtain ⟨pg, g, p, rfl, hp, hg, hpk, hpl, hpy, x0, x1, hgb⟩ := hX.pending (j := j) (by simp only; rw [HL.out]; exact hlt)
        have HE : Hid (layAll B.last (B.pend.take (j + 1)) = layB (layAll B.last (B.pend.take j)) p) := layAll_take B.last B.pend j p hp
        obtain ⟨pb, pd⟩ := p
        simp only at hpk hpl hpy x0 hgb
        obtain ⟨W, hW⟩ : ∃ W, wr.alloc (.cells #[.int .i64 pb, .slice (some ⟨g, 0, none⟩) 512 512] 120) = W := ⟨_, rfl⟩
        have hbW : Below wr.heap.size wr W := by rw [← hW]; exact (Below.refl _ wr).alloc (Nat.le_refl _) _
        have y0 : W.cell? ⟨wr.heap.size, 0, none⟩ = some (.int .i64 pb) := by rw [← hW]; simp
        have y1 : W.cell? ⟨wr.heap.size, 1, none⟩ = some (.slice (some ⟨g, 0, none⟩) 512 512) := by rw [← hW]; simp
        have hXW := hX.turns (Below.turns hbW (fun _ => False)) id id id (fun _ _ => id) (fun _ _ => id)
        have hgW : W.heap[g]? = some (bl pd) := (hbW.block g (heap_lt hgb)).trans hgb
        clear hX hp hg hgb
        go_wp2_with fail
        try rw [hW]
        refine (last_any hXW pb g pd hpk hgW hpl hpy).mono ?_
        rintro e w3 ⟨rfl, h3, t3⟩
        have hT3 : Turns (fun i => i = gl) w2 w3 := (hT.trans (Below.turns hbW (fun i => i = gl)) (fun _ _ h => h)).trans t3 (fun _ _ h => h)
        go_wp2_with fail
        go_roundw
        case rel => exact ⟨j + 1, by omega, by go_num, by rw [HE.out]; exact h3, hT3⟩
        case measure => simp [intOf]; omega
      · obtain rfl : j = L := by omega
        have e3 : B.pend.take j = B.pend := List.take_of_length_le (by rw [HL.out]; exact Nat.le_refl _)
        rw [e3] at hX
        clear e3
        go_wp2_with fail
        refine (forget_any hX hN).mono ?_
        rintro e w4 ⟨rfl, ⟨D', h4⟩, t4⟩
        have h4' : DevX w4 db 1 (flushed B) k N gl bm q (.slice none 0 0) [] D' := h4
        clear h4
        go_wp2_with fail
        refine leaves_cons (f := 56) (args := #[.pointer (some ⟨db, 0, none⟩)]) (by simp) (by simp [go_sem]) ?_
        refine (unlock_dev .returning h4').mono ?_
        rintro e u' w5 ⟨rfl, rfl, h5, t5⟩
        refine ⟨_, results_tmp rfl _ _ _, ?_⟩
        refine ⟨rfl, Went.of h5 f hl ?_ rfl (Or.inl rfl) (fun x hx => by cases hx)⟩
        refine (((t12.mono (G := F) (fun i _ e => by subst e; exact f.f1)).trans hT (fun i _ e => by subst e; exact f.f2)).trans t4 (fun i _ e => ?_)).trans t5 (fun i _ e => by subst e; exact f.f1)
        rcases e with e | e
        · subst e; exact f.f1
        · subst e; exact f.f3
end Go.Proofs.YtnmdnglbpkpfdaaGreatDoor

/- Crash by its contract. -/
namespace Go.Proofs.YtnmdnglbpkpfdaaGreatDoor
open Go.RowKit Go.Maps
open Go.MuLone
set_option maxRecDepth 100000
/-- The slice reads as these bools. -/
structure KLies (w : World) (ao : Option Addr) (n c : Nat) (ks : List Bool) : Prop where
  hlen : ks.length = n
  hle : n ≤ c
  hcells : ∀ j b, ks[j]? = some b → ∃ g o, ao = some ⟨g, o, none⟩ ∧ w.cell? ⟨g, o + j, none⟩ = some (.bool b)
theorem KLies.turns {F : Nat → Prop} {w w' : World} {ao : Option Addr} {n c : Nat} {ks : List Bool} (h : KLies w ao n c ks) (ht : Turns F w w') (hF : ∀ ad, ao = some ad → ¬ F ad.block) : KLies w' ao n c ks :=
  ⟨h.hlen, h.hle, fun j b hj => by
    obtain ⟨g, o, e, hc⟩ := h.hcells j b hj
    have hlt := World.block_lt_of_cell? w _ hc
    exact ⟨g, o, e, (World.cell?_of_block (w := w) (w' := w') (a := ⟨g, o + j, none⟩) (ht.block g hlt (hF _ e))).trans hc⟩⟩
theorem KLies.nil (w : World) : KLies w none 0 0 [] := ⟨rfl, Nat.le_refl _, fun j b h => by simp at h⟩
theorem kept_app : ∀ (ps : List (Nat × List Int)) (ks : List Bool) (p : Nat × List Int), kept (ps ++ [p]) ks = kept ps ks ++ (if ks[ps.length]? = some true then [p] else [])
  | [], [], p => by simp [kept]
  | [], k :: ks, p => by cases k <;> simp [kept]
  | q :: ps, [], p => by simp [kept]
  | q :: ps, k :: ks, p => by
    have := kept_app ps ks p
    cases k <;> simp [kept, this]
theorem kept_take (ps : List (Nat × List Int)) (ks : List Bool) (j : Nat) (p : Nat × List Int) (h : ps[j]? = some p) : kept (ps.take (j + 1)) ks = kept (ps.take j) ks ++ (if ks[j]? = some true then [p] else []) := by
  have hj := (List.getElem?_eq_some_iff.1 h).1
  rw [List.take_succ_eq_append_getElem hj, (List.getElem?_eq_some_iff.1 h).2, kept_app]
  simp [Nat.min_eq_left (Nat.le_of_lt hj)]
theorem lay_yes (l : List Int) (ps : List (Nat × List Int)) (ks : List Bool) (j : Nat) (p : Nat × List Int) (h : ps[j]? = some p) (hk : ks[j]? = some true) : layAll l (kept (ps.take (j + 1)) ks) = layB (layAll l (kept (ps.take j) ks)) p := by
  rw [kept_take ps ks j p h, if_pos hk]; simp [layAll]
theorem lay_no (l : List Int) (ps : List (Nat × List Int)) (ks : List Bool) (j : Nat) (p : Nat × List Int) (h : ps[j]? = some p) (hk : ¬ ks[j]? = some true) : layAll l (kept (ps.take (j + 1)) ks) = layAll l (kept (ps.take j) ks) := by
  rw [kept_take ps ks j p h, if_neg hk]; simp

end Go.Proofs.YtnmdnglbpkpfdaaGreatDoor

/- Pending by its contract. -/
namespace Go.Proofs.YtnmdnglbpkpfdaaGreatDoor
open Go.RowKit Go.Maps
open Go.MuLone
set_option maxRecDepth 100000
/-- A list of writes that was handed out: its row, and a block for each one's bytes. -/
structure PList (w : World) (G : Nat) (gs : List Nat) (ps : List (Nat × List Int)) : Prop where
  row : w.heap[G]? = some (.cells (pc ps gs).toArray 120 (0, 0))
  len : gs.length = ps.length
  dat : ∀ (i : Nat) p g, ps[i]? = some p → gs[i]? = some g → w.heap[g]? = some (bl p.2)
  nod : gs.Nodup
  out : G ∉ gs
theorem PList.turns {F : Nat → Prop} {w w' : World} {G : Nat} {gs : List Nat} {ps : List (Nat × List Int)} (h : PList w G gs ps) (ht : Turns F w w') (hG : ¬ F G) (hg : ∀ g ∈ gs, ¬ F g) : PList w' G gs ps :=
  ⟨(ht.block G (heap_lt h.row) hG).trans h.row, h.len, dat_turns h.dat ht hg, h.nod, h.out⟩
theorem take_two (cur : List Value) (j : Nat) (a b : Value) (h : j * 2 + 2 ≤ cur.length) : ((cur.set (j * 2) a).set (j * 2 + 1) b).take ((j + 1) * 2) = cur.take (j * 2) ++ [a, b] := by
  have h1 : j * 2 < ((cur.set (j * 2) a).set (j * 2 + 1) b).length := by simp; omega
  have h2 : j * 2 + 1 < ((cur.set (j * 2) a).set (j * 2 + 1) b).length := by simp; omega
  rw [show (j + 1) * 2 = j * 2 + 1 + 1 by omega, List.take_succ_eq_append_getElem h2, List.take_succ_eq_append_getElem h1, List.take_set, List.take_set, List.set_eq_of_length_le (by simp; omega), List.set_eq_of_length_le (by simp; omega)]
  simp
theorem pc_take : ∀ (ps : List (Nat × List Int)) (gs : List Nat) (j : Nat) (p : Nat × List Int) (g : Nat), gs.length = j → ps[j]? = some p → pc (ps.take (j + 1)) (gs ++ [g]) = pc (ps.take j) gs ++ [.int .i64 p.1, hv g] := fun ps gs j p g hl hp => by
  have hj := (List.getElem?_eq_some_iff.1 hp).1
  rw [List.take_succ_eq_append_getElem hj, (List.getElem?_eq_some_iff.1 hp).2]
  obtain ⟨b, d⟩ := p
  exact pc_snoc _ _ _ _ _ (by simp [hl]; omega)
/-- The list as far as it is filled. -/
structure PPart (w0 w : World) (G : Nat) (gs : List Nat) (ps : List (Nat × List Int)) (L j : Nat) (cur : List Value) : Prop where
  row : w.heap[G]? = some (.cells cur.toArray 120 (0, 0))
  cl : cur.length = L * 2
  tk : cur.take (j * 2) = pc (ps.take j) gs
  len : gs.length = j
  dat : ∀ (i : Nat) p g, ps[i]? = some p → gs[i]? = some g → w.heap[g]? = some (bl p.2)
  nod : gs.Nodup
  hi : ∀ g ∈ gs, w0.heap.size < g
  hG : G = w0.heap.size
theorem PPart.done {w0 w : World} {G : Nat} {gs : List Nat} {ps : List (Nat × List Int)} {L : Nat} {cur : List Value} (h : PPart w0 w G gs ps L L cur) (hL : ps.length = L) : PList w G gs ps := by
  have e1 : cur.take (L * 2) = cur := List.take_of_length_le (by rw [h.cl]; exact Nat.le_refl _)
  have e2 : ps.take L = ps := List.take_of_length_le (by omega)
  have e3 := h.tk
  rw [e1, e2] at e3
  refine ⟨by rw [← e3]; exact h.row, by rw [h.len, hL], h.dat, h.nod, fun hm => ?_⟩
  have := h.hi _ hm
  have := h.hG
  omega
theorem PPart.step {w0 w w2 : World} {G : Nat} {gs : List Nat} {ps : List (Nat × List Int)} {L j : Nat} {cur : List Value} (h : PPart w0 w G gs ps L j cur) (hj : j < L) {p : Nat × List Int} {g : Nat} (hp : ps[j]? = some p) (hb : Below w.heap.size w w2) (hg : w.heap.size ≤ g) (hgb : w2.heap[g]? = some (bl p.2)) :
    PPart w0 ((w2.setCell ⟨G, j * 2, none⟩ (.int .i64 p.1)).setCell ⟨G, j * 2 + 1, none⟩ (hv g)) G (gs ++ [g]) ps L (j + 1) ((cur.set (j * 2) (.int .i64 p.1)).set (j * 2 + 1) (hv g)) := by
  have hGlt := heap_lt h.row
  have hG2 := (hb.block G hGlt).trans h.row
  have hne : g ≠ G := by omega
  have hT : Turns (fun i => i = G) w2 ((w2.setCell ⟨G, j * 2, none⟩ (.int .i64 p.1)).setCell ⟨G, j * 2 + 1, none⟩ (hv g)) := (Turns.cell w2 G _ _).trans (Turns.cell _ G _ _) (fun _ _ h => h)
  have hgo : ∀ x ∈ gs, x < w.heap.size := fun x hx => by
    obtain ⟨i, hi⟩ := List.mem_iff_getElem?.1 hx
    have hil : i < j := by rw [← h.len]; exact (List.getElem?_eq_some_iff.1 hi).1
    have hjp := (List.getElem?_eq_some_iff.1 hp).1
    exact heap_lt (h.dat i _ _ (List.getElem?_eq_getElem (by omega)) hi)
  refine ⟨?_, by simp [h.cl], ?_, by simp [h.len], ?_, ?_, ?_, h.hG⟩
  · rw [heap_setCell_same _ _ _ _ _ _ (heap_setCell_same _ _ _ _ _ _ hG2)]
    simp
  · rw [take_two _ _ _ _ (by rw [h.cl]; omega), pc_take ps gs j p g h.len hp, h.tk]
  · intro i p' g' h1 h2
    by_cases hi : i < gs.length
    · rw [List.getElem?_append_left hi] at h2
      have hx := h.dat i p' g' h1 h2
      have hx2 := (hb.block g' (heap_lt hx)).trans hx
      have hgi := h.hi g' (List.mem_of_getElem? h2)
      have := h.hG
      exact (hT.block g' (heap_lt hx2) (fun e => by omega)).trans hx2
    · rw [List.getElem?_append_right (by omega)] at h2
      have h0 : i - gs.length = 0 := by
        have := (List.getElem?_eq_some_iff.1 h2).1
        simp at this; omega
      rw [h0] at h2
      simp at h2
      subst h2
      have hij : i = j := by have := h.len; omega
      subst hij
      rw [hp] at h1
      obtain rfl := Option.some.inj h1
      exact (hT.block g (heap_lt hgb) hne).trans hgb
  · rw [List.nodup_append]
    refine ⟨h.nod, by simp, fun a ha b hb e => ?_⟩
    obtain rfl := List.mem_singleton.1 hb
    have := hgo a ha
    omega
  · intro x hx
    rcases List.mem_append.1 hx with hx | hx
    · exact h.hi x hx
    · obtain rfl := List.mem_singleton.1 hx
      have := h.hG
      omega

set_option maxHeartbeats 4000000 in
theorem pending_any {w : World} {db : Nat} {S : DevS} {k N : Nat} {F : Nat → Prop} (h : Dev w db 0 S k N F) (hN : N ≤ 1099511627776) :
    Calls Tryz.prog 40 #[.pointer (some ⟨db, 0, none⟩)] w fun e w' => (∃ G gs, e = .returned (.slice (some ⟨G, 0, none⟩) S.pend.length S.pend.length) ∧ PList w' G gs S.pend ∧ w.heap.size ≤ G ∧ ∀ g ∈ gs, w.heap.size ≤ g) ∧ Same0 w w' db S k N F := by
  obtain ⟨gl, bm, q, pv, gs, Dm, h, f, hl⟩ := h
  obtain ⟨i0, hi, hz0, hz1, hz2⟩ := info_parts Tryz.info120
  obtain ⟨pa, pcp, hpv⟩ := row_slice h.row
  have hpn := h.pn
  obtain ⟨L, hL⟩ : ∃ L, S.pend.length = L := ⟨_, rfl⟩
  rw [hL] at hpv hpn ⊢
  have hLi : (L : Int) ≤ 1099511627776 := by omega
  have HL : Hid (S.pend.length = L) := hL
  clear hL
  subst hpv
  go_enter_defers Tryz.func40, Tryz.ntmps40
  go_wp2_with fail
  refine (lock_dev h).mono ?_
  rintro e w1 ⟨rfl, h1, t1⟩
  have hmk := run_make (P := Tryz.prog) w1 84 120 i0 _ Tryz.underlying84 hi hz0 .i64 .i64 (L : Int) (L : Int) (by omega) (Int.le_refl _) (by rw [hz2]; omega) (by omega)
  rw [hz1] at hmk
  simp only [Int.toNat_natCast] at hmk
  obtain ⟨W1, hW1⟩ : ∃ W1, w1.alloc (.cells (madeCells (Value.agg #[.int .i64 0, .slice none 0 0]).cells (L * 2)) 120) = W1 := ⟨_, rfl⟩
  rw [hW1] at hmk
  have hbW1 : Below w1.heap.size w1 W1 := by rw [← hW1]; exact (Below.refl _ w1).alloc (Nat.le_refl _) _
  have hX1 := h1.turns (Below.turns hbW1 (fun _ => False)) id id id (fun _ _ => id) (fun _ _ => id)
  have hP0 : PPart w1 W1 w1.heap.size [] S.pend L 0 (madeCells (Value.agg #[.int .i64 0, .slice none 0 0]).cells (L * 2)).toList := by
    refine ⟨?_, by simp [size_madeCells], by simp [pc], rfl, (fun i p g _ h => by simp at h), List.nodup_nil, by simp, rfl⟩
    rw [← hW1, (MapKept.heap_alloc w1 _).1]
  have c3 := h1.cells.2.2.1
  have c3' := hX1.cells.2.2.1
  clear hW1
  go_wp2_with fail
  go_loopw [24] (fun i wr => ∃ (j : Nat) (gs' : List Nat) (cur : List Value), j ≤ L ∧ i = .int .i64 j ∧ DevX wr db 1 S k N gl bm q (.slice pa L pcp) gs Dm ∧ Below w1.heap.size w1 wr ∧ PPart w1 wr w1.heap.size gs' S.pend L j cur) (fun i _ => L - (intOf i).toNat)
  case atStart => exact ⟨0, [], _, Nat.zero_le _, rfl, hX1, hbW1, hP0⟩
  case round =>
    obtain ⟨j, gs', cur, hj, rfl, hX, hB, hP⟩ := hrel
    by_cases hlt : j < L
    · obtain ⟨pg, g, p, rfl, hp, hg, hpk, hpl, hpy, x0, x1, hgb⟩ := hX.pending (j := j) (by rw [HL.out]; exact hlt)
      obtain ⟨W, hW⟩ : ∃ W, wr.alloc (.cells #[.int .i64 p.1, .slice (some ⟨g, 0, none⟩) 512 512] 120) = W := ⟨_, rfl⟩
      have hbW : Below wr.heap.size wr W := by rw [← hW]; exact (Below.refl _ wr).alloc (Nat.le_refl _) _
      have y0 : W.cell? ⟨wr.heap.size, 0, none⟩ = some (.int .i64 p.1) := by rw [← hW]; simp
      have y1 : W.cell? ⟨wr.heap.size, 1, none⟩ = some (.slice (some ⟨g, 0, none⟩) 512 512) := by rw [← hW]; simp
      have hWs : W.heap.size = wr.heap.size + 1 := by rw [← hW]; simp
      have hgW : Lies W (some ⟨g, 0, none⟩) 512 512 p.2 := Lies.full ((hbW.block g (heap_lt hgb)).trans hgb) hpl
      have hGl := heap_lt hP.row
      have hcl := hP.cl
      have HST : Hid (∀ (w2 : World) (g2 : Nat), Below W.heap.size W w2 → W.heap.size ≤ g2 → w2.heap[g2]? = some (bl p.2) →
          ∃ a b, w2.cell? ⟨w1.heap.size, j * 2, none⟩ = some a ∧ w2.cell? ⟨w1.heap.size, j * 2 + 1, none⟩ = some b ∧ (∀ o, w2.frozen? ⟨w1.heap.size, o, none⟩ = false) ∧ w2.cell? ⟨wr.heap.size, 0, none⟩ = some (.int .i64 p.1) ∧ w2.cell? ⟨wr.heap.size, 1, none⟩ = some (.slice (some ⟨g, 0, none⟩) 512 512)) := fun w2 g2 hb2 hg2 hgb2 => by
        have hr : w2.heap[w1.heap.size]? = some (.cells cur.toArray 120 (0, 0)) := (hb2.block _ (by omega)).trans ((hbW.block _ hGl).trans hP.row)
        have i1 : j * 2 < cur.length := by omega
        have i2 : j * 2 + 1 < cur.length := by omega
        refine ⟨cur[j * 2], cur[j * 2 + 1], by simp [World.cell?, hr, i1], by simp [World.cell?, hr, i2], fun o => by simp [World.frozen?, hr], (hb2.cell (show wr.heap.size < W.heap.size by omega)).trans y0, (hb2.cell (show wr.heap.size < W.heap.size by omega)).trans y1⟩
      have HFN : Hid (∀ (w2 : World) (g2 : Nat), Below W.heap.size W w2 → W.heap.size ≤ g2 → w2.heap[g2]? = some (bl p.2) →
          DevX ((w2.setCell ⟨w1.heap.size, j * 2, none⟩ (.int .i64 p.1)).setCell ⟨w1.heap.size, j * 2 + 1, none⟩ (hv g2)) db 1 S k N gl bm q (.slice (some ⟨pg, 0, none⟩) L pcp) gs Dm ∧ Below w1.heap.size w1 ((w2.setCell ⟨w1.heap.size, j * 2, none⟩ (.int .i64 p.1)).setCell ⟨w1.heap.size, j * 2 + 1, none⟩ (hv g2)) ∧
          ∃ cur', PPart w1 ((w2.setCell ⟨w1.heap.size, j * 2, none⟩ (.int .i64 p.1)).setCell ⟨w1.heap.size, j * 2 + 1, none⟩ (hv g2)) w1.heap.size (gs' ++ [g2]) S.pend L (j + 1) cur') := fun w2 g2 hb2 hg2 hgb2 => by
        have hbr : Below wr.heap.size wr w2 := hbW.trans (hb2.mono hbW.size)
        have hTt : Turns (fun i => i = w1.heap.size) w2 ((w2.setCell ⟨w1.heap.size, j * 2, none⟩ (.int .i64 p.1)).setCell ⟨w1.heap.size, j * 2 + 1, none⟩ (hv g2)) := (Turns.cell w2 w1.heap.size _ _).trans (Turns.cell _ w1.heap.size _ _) (fun _ _ h => h)
        have hX2 := hX.turns (Below.turns hbr (fun _ => False)) id id id (fun _ _ => id) (fun _ _ => id)
        have b1 := heap_lt h1.blk
        have b2 := heap_lt h1.lst
        have b3 := h1.map.lt
        refine ⟨hX2.turns hTt (fun e => by omega) (fun e => by omega) (fun e => by omega) (fun b hb e => ?_) (fun x hx e => ?_), ?_, _, hP.step hlt hp hbr (by omega) hgb2⟩
        · have := (h1.row.lt b hb).2; omega
        · obtain ⟨i, hi⟩ := List.mem_iff_getElem?.1 hx
          have hil : i < S.pend.length := by rw [← h1.gsl]; exact (List.getElem?_eq_some_iff.1 hi).1
          have := heap_lt (h1.dat i _ _ (List.getElem?_eq_getElem hil) hi)
          omega
        · exact (hB.trans (hbr.mono hB.size)).trans (hTt.below (fun i e => by omega) (by have := hbr.size; omega))
      clear hX hp hg hgb hpk hpy hP hB hpl
      generalize p.1 = pb at *
      generalize p.2 = pd at *
      go_wp2_with fail
      try rw [hW]
      go_region_held3 (fun w' => w'.cell? ⟨wr.heap.size, 0, none⟩ = some (.int .i64 pb) ∧ w'.cell? ⟨wr.heap.size, 1, none⟩ = some (.slice (some ⟨g, 0, none⟩) 512 512))
        (first | exact ⟨y0, y1⟩ | exact ⟨z0, z1⟩ | exact ⟨(World.cell?_setCell_other _ _ _ _ (by first | (simp; done) | (simp; omega))).trans ((World.cell?_setCell_other _ _ _ _ (by first | (simp; done) | (simp; omega))).trans z0), (World.cell?_setCell_other _ _ _ _ (by first | (simp; done) | (simp; omega))).trans ((World.cell?_setCell_other _ _ _ _ (by first | (simp; done) | (simp; omega))).trans z1)⟩)
        (first
          | (go_at_call 72; refine (copied_any _ 512 512 pd W.drew (by omega) ⟨hgW.hlen, hgW.hle, hgW.hnone, hgW.hcells⟩).mono ?_; rintro e w2 ⟨g2, rfl, hg2, hgb2, hb2⟩; have hb2 : Below W.heap.size W w2 := ⟨hb2.os, hb2.tape, hb2.output, hb2.size, hb2.block⟩; obtain ⟨ca, cb, k0, k1, kf, z0, z1⟩ := HST.out w2 g2 hb2 hg2 hgb2; have kf0 := kf (j * 2); have kf1 := kf (j * 2 + 1)))
      have hF3 := HFN.out w2 g2 hb2 hg2 hgb2
      obtain ⟨hX3, hB3, cur', hP3⟩ := hF3
      clear HFN HST k0 k1 kf kf0 kf1 z0 z1
      generalize (w2.setCell ⟨w1.heap.size, j * 2, none⟩ (.int .i64 pb)).setCell ⟨w1.heap.size, j * 2 + 1, none⟩ (.slice (some ⟨g2, 0, none⟩) 512 512) = w3 at *
      go_wp2
      go_roundw
      case rel => exact ⟨j + 1, gs' ++ [g2], cur', by omega, by go_num, hX3, hB3, hP3⟩
      case measure => simp [intOf]; omega
    · obtain rfl : j = L := by omega
      have hPL := hP.done HL.out
      have hGlt := heap_lt hP.row
      have hHi := hP.hi
      clear hP
      go_wp2_with fail
      refine leaves_cons (f := 56) (args := #[.pointer (some ⟨db, 0, none⟩)]) (by simp) (by simp [go_sem]) ?_
      refine (unlock_dev .returning hX).mono ?_
      rintro e u' w7 ⟨rfl, rfl, h7, t7⟩
      have hs1 := t1.size
      have hd1 := heap_lt h1.blk
      have hPL7 := hPL.turns t7 (fun e => by omega) (fun g hg e => by have := hHi g hg; omega)
      refine ⟨_, results_tmp rfl _ _ _, ?_⟩
      exact ⟨⟨w1.heap.size, gs', rfl, hPL7, hs1, fun g hg => by have := hHi g hg; omega⟩, Same0.of h7 f hl ((t1.trans (Below.turns hB (fun i => i = db)) (fun _ _ h => h)).trans t7 (fun _ _ h => h))⟩
end Go.Proofs.YtnmdnglbpkpfdaaGreatDoor

/- The journal's small functions by their contracts: copied, the region, what one call does on the device. -/
namespace Go.Proofs.YtnmdnglbpkpfdaaGreatDoor
open Go.RowKit
set_option maxRecDepth 100000
set_option maxHeartbeats 1000000 in
theorem jcopied_any (ao : Option Addr) (n c : Nat) (bs : List Int) (w : World) (hn : n ≤ 140737488355328) (hL : Lies w ao n c bs) :
    Calls Tryz.prog 62 #[.slice ao n c] w fun e w' => ∃ g, e = .returned (.slice (some ⟨g, 0, none⟩) n n) ∧ w.heap.size ≤ g ∧ w'.heap[g]? = some (bl bs) ∧ Below w.heap.size w w' := by
  obtain ⟨i0, hi, hz0, hz1, hz2⟩ := info_parts Tryz.info5
  have hni : (n : Int) ≤ 140737488355328 := by omega
  have hlen := hL.hlen
  have hsz : (Tryz.prog.info? 5).map (·.size) = some 1 := by rw [hi]; simp [hz1]
  have hL1 : Lies (w.alloc (.cells (madeCells #[.int .u8 0] n) 5)) ao n c bs := hL.below ((Below.refl _ w).alloc (Nat.le_refl _) _) (Nat.le_refl _)
  have hpos : 0 < (bs.map (Value.int .u8)).length → (some ⟨w.heap.size, 0, none⟩ : Option Addr) = some ⟨w.heap.size, 0, none⟩ ∧ ∃ ad, ao = some ad ∧ ∀ j v, (bs.map (Value.int .u8))[j]? = some v → (w.alloc (.cells (madeCells #[.int .u8 0] n) 5)).cell? (ad.add j) = some v := fun hp => by
    cases hao : ao with
    | none => have := (hL.hnone hao).1; simp at hp; omega
    | some ad => exact ⟨rfl, ad, rfl, hL1.hcells ad hao⟩
  have hrow := made_row w n
  have hbel : Below w.heap.size w (w.alloc (.cells (madeCells #[.int .u8 0] n) 5)) := (Below.refl _ w).alloc (Nat.le_refl _) _
  go_enter Tryz.func62, Tryz.ntmps62
  go_wp2_with (first
    | (at_make; (refine wpList_make_row _ rfl _ _ 56 rfl 5 i0 (.int .u8 0) Tryz.underlying56 hi hz0 hz1 rfl _ _ n rfl rfl (by rw [hz2]; omega) (by omega) ?_))
    | (refine wpList_copy_splice rfl _ _ 56 56 rfl 5 Tryz.underlying56 hsz _ _ _ _ _ _ rfl rfl w.heap.size 0 (List.replicate n (Value.int .u8 0)) 5 hrow (bs.map (Value.int .u8)) (by simp [hlen]) hpos (by simp [hlen]) (ints_oneCell _ _) w.heap.size w hbel (Nat.le_refl _) ?_; intro w2 HG2 hB2))
  go_ret
  refine ⟨_, rfl, Nat.le_refl _, ?_, hB2⟩
  rw [HG2.out, splice_whole _ _ (by simp [hlen])]


theorem Below.fromDrew {w w' : World} (h : Below w.drew.heap.size w.drew w') : Below w.heap.size w w' := ⟨h.os, h.tape, h.output, h.size, h.block⟩
theorem Turns.fromDrew {F : Nat → Prop} {w w' : World} (h : Turns F w.drew w') : Turns F w w' := ⟨h.os, h.tape, h.output, h.size, h.block⟩
theorem Same0.fromDrew {w w' : World} {db : Nat} {S : DevS} {k N : Nat} {F : Nat → Prop} (h : Same0 w.drew w' db S k N F) : Same0 w w' db S k N F := ⟨h.1, h.2.fromDrew⟩
theorem Dev.drew {w : World} {db : Nat} {st : Int} {S : DevS} {k N : Nat} {F : Nat → Prop} (h : Dev w db st S k N F) : Dev w.drew db st S k N F := h.turns (Turns.drewN (fun _ => False) w 1) (fun _ _ => id)
/-- A region as a value. -/
abbrev rgV (d : Nat) (st sz : Int) : Value := .agg #[.pointer (some ⟨d, 0, none⟩), .int .i64 st, .int .i64 sz]
theorem places_any (d : Nat) (st sz : Int) (w : World) (h : 1 ≤ sz ∧ sz ≤ 4096) : Calls Tryz.prog 79 #[rgV d st sz] w fun e w' => e = .returned (.int .i64 (sz - 1)) ∧ Below w.heap.size w w' := by
  go_enter Tryz.func79, Tryz.ntmps79
  go_wp2
  go_ret
  exact ⟨by simp, (Below.refl _ w).alloc (Nat.le_refl _) _⟩

/-- An error of the device, with its code. -/
def ErrV (v : Value) (e : Int) : Prop := (e = 0 ∧ v = .nilIface) ∨ (e ≠ 0 ∧ ∃ s, v = .iface 173 (.agg #[.string s, .iface 36 (.int .i64 e)]))
theorem wrapped_any (s : ByteArray) (c : Int) (w : World) : Calls Tryz.prog 87 #[.string s, .int .i64 c] w fun e w' => ∃ v, e = .returned v ∧ ErrV v c ∧ w' = w := by
  by_cases hc : c = 0
  · subst hc
    go_enter Tryz.func87, Tryz.ntmps87
    go_wp2
    go_ret
    exact ⟨_, rfl, Or.inl ⟨rfl, rfl⟩, rfl⟩
  · go_enter Tryz.func87, Tryz.ntmps87
    go_wp2
    go_ret
    exact ⟨_, rfl, Or.inr ⟨hc, _, rfl⟩, rfl⟩

/-- The block of a place; places go round. -/
theorem at_any (d : Nat) (st sz : Nat) (p : Nat) (w : World) (h : 2 ≤ sz ∧ sz ≤ 4096) (hst : st ≤ 4096) (hp : p ≤ 1099511627776) : Calls Tryz.prog 81 #[rgV d st sz, .int .i64 p] w fun e w' => e = .returned (.int .i64 (st + 1 + p % (sz - 1) : Nat)) ∧ Below w.heap.size w w' := by
  have hm : ((p : Int)).tmod ((sz : Int) - 1) = ((p % (sz - 1) : Nat) : Int) := by
    rw [Int.tmod_eq_emod_of_nonneg (by omega)]
    have : ((sz : Int) - 1) = ((sz - 1 : Nat) : Int) := by omega
    rw [this]; rfl
  have hlt : p % (sz - 1) < sz - 1 := Nat.mod_lt _ (by omega)
  have hszi : (sz : Int) - 1 ≠ 0 := by omega
  obtain ⟨W, hW⟩ : ∃ W, w.alloc (.cells #[.pointer (some ⟨d, 0, none⟩), .int .i64 st, .int .i64 sz] 98) = W := ⟨_, rfl⟩
  have hb : Below w.heap.size w W := by rw [← hW]; exact (Below.refl _ w).alloc (Nat.le_refl _) _
  have x0 : W.cell? ⟨w.heap.size, 0, none⟩ = some (.pointer (some ⟨d, 0, none⟩)) := by rw [← hW]; simp
  have x1 : W.cell? ⟨w.heap.size, 1, none⟩ = some (.int .i64 st) := by rw [← hW]; simp
  have x2 : W.cell? ⟨w.heap.size, 2, none⟩ = some (.int .i64 sz) := by rw [← hW]; simp
  have hs : w.heap.size < W.heap.size := by rw [← hW]; simp
  go_enter Tryz.func81, Tryz.ntmps81
  go_wp2_with fail
  try rw [hW]
  go_region_held3 (fun w' => w'.cell? ⟨w.heap.size, 0, none⟩ = some (.pointer (some ⟨d, 0, none⟩)) ∧ w'.cell? ⟨w.heap.size, 1, none⟩ = some (.int .i64 st) ∧ w'.cell? ⟨w.heap.size, 2, none⟩ = some (.int .i64 sz))
    (first | exact ⟨x0, x1, x2⟩ | exact ⟨y0, y1, y2⟩)
    (first
      | (go_at_call 79; refine (places_any d st sz _ (by omega)).mono ?_; rintro e w1 ⟨rfl, b1⟩; have y0 := cell_later b1 x0; have y1 := cell_later b1 x1; have y2 := cell_later b1 x2))
  go_wp2
  go_ret
  have e1 : IntKind.i64.wrap (st + 1 : Int) = st + 1 := Go.IntWalk.i64_in _ ⟨by omega, by omega⟩
  have e2 : IntKind.i64.wrap (st + 1 + ((p % (sz - 1) : Nat) : Int)) = st + 1 + ((p % (sz - 1) : Nat) : Int) := Go.IntWalk.i64_in _ ⟨by omega, by omega⟩
  refine ⟨?_, hb.trans ((Below.fromDrew b1).mono (Nat.le_of_lt hs))⟩
  show Ending.returned (Value.int .i64 (IntKind.i64.wrap (IntKind.i64.wrap (st + 1 : Int) + ((p % (sz - 1) : Nat) : Int)))) = _
  rw [e1, e2]
  rfl

def outB (k : Nat) (st sz : Nat) (b : Int) : Bool := decide (0 ≤ b) && decide (b < k) && (decide (b < st) || decide ((st + sz : Int) ≤ b))
set_option maxHeartbeats 1000000 in
theorem outside_any {w : World} {d : Nat} {S : DevS} {k N : Nat} {F : Nat → Prop} (hD : Dev w d 0 S k N F) (st sz : Nat) (hst : st ≤ 4096) (hsz : sz ≤ 4096) (b : Int) : Calls Tryz.prog 61 #[rgV d st sz, .int .i64 b] w fun e w' => e = .returned (.bool (outB k st sz b)) ∧ Same0 w w' d S k N F := by
  obtain ⟨W, hW⟩ : ∃ W, w.alloc (.cells #[.pointer (some ⟨d, 0, none⟩), .int .i64 st, .int .i64 sz] 98) = W := ⟨_, rfl⟩
  have hb : Below w.heap.size w W := by rw [← hW]; exact (Below.refl _ w).alloc (Nat.le_refl _) _
  have x0 : W.cell? ⟨w.heap.size, 0, none⟩ = some (.pointer (some ⟨d, 0, none⟩)) := by rw [← hW]; simp
  have x1 : W.cell? ⟨w.heap.size, 1, none⟩ = some (.int .i64 st) := by rw [← hW]; simp
  have x2 : W.cell? ⟨w.heap.size, 2, none⟩ = some (.int .i64 sz) := by rw [← hW]; simp
  have hs : w.heap.size < W.heap.size := by rw [← hW]; simp
  have hDW := hD.below hb
  have hF := hD.lt
  have fin : ∀ w', Same0 W w' d S k N F → Same0 w w' d S k N F := fun w' h => ⟨h.1, (Below.turns hb F).trans h.2 (fun _ _ h => h)⟩
  have e1 : IntKind.i64.wrap (st + sz : Int) = st + sz := Go.IntWalk.i64_in _ ⟨by omega, by omega⟩
  by_cases h1 : 0 ≤ b
  · go_enter Tryz.func61, Tryz.ntmps61
    go_wp2_with fail
    try rw [hW]
    refine (size_any hDW).mono ?_
    rintro e w1 ⟨rfl, q1⟩
    have y1 : w1.cell? ⟨w.heap.size, 1, none⟩ = some (.int .i64 st) := (World.cell?_of_block (q1.2.block w.heap.size hs (fun h => by have := hF _ h; omega))).trans x1
    have y2 : w1.cell? ⟨w.heap.size, 2, none⟩ = some (.int .i64 sz) := (World.cell?_of_block (q1.2.block w.heap.size hs (fun h => by have := hF _ h; omega))).trans x2
    have q := fin w1 q1
    clear x0 x1 x2 q1
    by_cases h2 : b < k
    · by_cases h3 : b < st
      · go_wp2
        go_ret
        exact ⟨by simp [outB, h1, h2, h3], q⟩
      · by_cases h4 : (st + sz : Int) ≤ b
        · go_wp2
          go_ret
          exact ⟨by simp [outB, h1, h2, h4], q⟩
        · go_wp2
          go_ret
          exact ⟨by simp [outB]; omega, q⟩
    · go_wp2
      go_ret
      exact ⟨by simp [outB]; omega, q⟩
  · go_enter Tryz.func61, Tryz.ntmps61
    go_wp2_with fail
    try rw [hW]
    go_ret
    exact ⟨by simp [outB]; omega, fin W ⟨hDW, Turns.refl _ _⟩⟩

def fitB (k : Nat) (st sz : Int) : Bool := decide (0 ≤ st) && decide (27 ≤ sz) && decide (sz ≤ k - st)
set_option maxHeartbeats 1000000 in
theorem fits_any {w : World} {d : Nat} {S : DevS} {k N : Nat} {F : Nat → Prop} (hD : Dev w d 0 S k N F) (st sz : Int) (h1 : 0 ≤ st) (h2 : 27 ≤ sz) (h3 : st ≤ 9223372036854775807) : Calls Tryz.prog 78 #[rgV d st sz] w fun e w' => e = .returned (.bool (fitB k st sz)) ∧ Same0 w w' d S k N F := by
  obtain ⟨W, hW⟩ : ∃ W, w.alloc (.cells #[.pointer (some ⟨d, 0, none⟩), .int .i64 st, .int .i64 sz] 98) = W := ⟨_, rfl⟩
  have hb : Below w.heap.size w W := by rw [← hW]; exact (Below.refl _ w).alloc (Nat.le_refl _) _
  have x0 : W.cell? ⟨w.heap.size, 0, none⟩ = some (.pointer (some ⟨d, 0, none⟩)) := by rw [← hW]; simp
  have x1 : W.cell? ⟨w.heap.size, 1, none⟩ = some (.int .i64 st) := by rw [← hW]; simp
  have x2 : W.cell? ⟨w.heap.size, 2, none⟩ = some (.int .i64 sz) := by rw [← hW]; simp
  have hs : w.heap.size < W.heap.size := by rw [← hW]; simp
  have hDW := hD.below hb
  have hF := hD.lt
  have hk := hD.good.top
  have fin : ∀ w', Same0 W w' d S k N F → Same0 w w' d S k N F := fun w' h => ⟨h.1, (Below.turns hb F).trans h.2 (fun _ _ h => h)⟩
  go_enter Tryz.func78, Tryz.ntmps78
  go_wp2_with fail
  try rw [hW]
  go_region_held3 (fun w' => w'.cell? ⟨w.heap.size, 0, none⟩ = some (.pointer (some ⟨d, 0, none⟩)) ∧ w'.cell? ⟨w.heap.size, 1, none⟩ = some (.int .i64 st) ∧ w'.cell? ⟨w.heap.size, 2, none⟩ = some (.int .i64 sz))
    (first | exact ⟨x0, x1, x2⟩ | exact ⟨y0, y1, y2⟩)
    (first
      | (go_at_call 99; refine (size_any hDW.drew).mono ?_; rintro e w1 ⟨rfl, q1⟩; have q1 := q1.fromDrew; have y0 : w1.cell? ⟨w.heap.size, 0, none⟩ = some (.pointer (some ⟨d, 0, none⟩)) := (World.cell?_of_block (q1.2.block w.heap.size hs (fun h => by have := hF _ h; omega))).trans x0; have y1 : w1.cell? ⟨w.heap.size, 1, none⟩ = some (.int .i64 st) := (World.cell?_of_block (q1.2.block w.heap.size hs (fun h => by have := hF _ h; omega))).trans x1; have y2 : w1.cell? ⟨w.heap.size, 2, none⟩ = some (.int .i64 sz) := (World.cell?_of_block (q1.2.block w.heap.size hs (fun h => by have := hF _ h; omega))).trans x2))
  all_goals go_wp2
  all_goals go_ret
  have e1 : IntKind.i64.wrap (k - st : Int) = k - st := Go.IntWalk.i64_in _ ⟨by omega, by omega⟩
  refine ⟨?_, fin _ q1⟩
  show Ending.returned (Value.bool (decide (sz ≤ IntKind.i64.wrap (k - st : Int)))) = _
  rw [e1]
  simp [fitB, h1, h2]
end Go.Proofs.YtnmdnglbpkpfdaaGreatDoor

/- Edits that came in. -/
namespace Go.Proofs.YtnmdnglbpkpfdaaGreatDoor
open Go.RowKit
set_option maxRecDepth 100000
/-- An edit that came in. -/
structure Ed where
  kind : Int
  kk : Int
  pb : Int
  da : Option Addr
  dn : Nat
  dc : Nat
  ds : List Int
def Ed.cells (e : Ed) : List Value := [.int .i64 e.kind, .int .i64 e.kk, .int .i64 e.pb, .slice e.da e.dn e.dc]
end Go.Proofs.YtnmdnglbpkpfdaaGreatDoor

/- Edits that came in, opened once. -/
namespace Go.Proofs.YtnmdnglbpkpfdaaGreatDoor
open Go.ChangeShapes Go.WideShapes Go.ChangeAt Go.RowKit Go.Deep
set_option maxRecDepth 100000
theorem cells3 : Tryz.prog.cellsOf 3 = 1 := by kernel_rfl
theorem cells5 : Tryz.prog.cellsOf 5 = 1 := by kernel_rfl
theorem cells33 : Tryz.prog.cellsOf 56 = 1 := by kernel_rfl
theorem bytes5 : Tryz.prog.bytesOf 5 = 1 := by kernel_rfl
theorem cellsPt : Tryz.prog.cellsOf 58 = 2 := by kernel_rfl
theorem view_bytes {H : Type} {enc : TypeId × Value → H} {W : World} {fuel : Nat} {cs : List Value} {y : DataW H × List MemPlace}
    (hf : DataW.trod enc Tryz.prog W 0 (fun _ => true) true fuel 56 cs = some y) :
    ∃ a0 len cap Z, cs = [.slice a0 len cap] ∧ Lies W a0 len cap Z ∧ (∀ x ∈ Z, 0 ≤ x ∧ x ≤ 255) ∧ ((∀ n ∈ y.1.weights Tryz.prog 56, n ≤ reachBytes) → len ≤ reachBytes) := by
  rcases open_ints Tryz.underlying56 Tryz.underlying5 cells5 hf with ⟨hcs, hx⟩ | ⟨a, len, cap, zs, hcs, _, hl, hm, hz, hx, hcell, hwz⟩
  · exact ⟨_, _, _, [], hcs, Lies.nil W, (fun n hn => by cases hn), fun _ => Nat.zero_le _⟩
  · simp only [if_true] at hz
    refine ⟨_, _, _, zs.take len, hcs, ⟨(by simp; omega), hl, (fun h => by cases h), fun ad had t u hu => ?_⟩, fun n hn => bounds_u8 (hwz n (List.mem_of_mem_take hn)), fun hall => ?_⟩
    · obtain rfl := Option.some.inj had
      have ht : t < len := by
        have := (List.getElem?_eq_some_iff.1 hu).1
        simp at this; omega
      rw [hcell t (by omega)]
      rw [List.map_take, List.getElem?_take, if_pos ht, List.getElem?_map, Option.map_eq_some_iff] at hu
      obtain ⟨x, hx, rfl⟩ := hu
      simp [List.getD, hx]
    · have h1 := hall (((lits (H := H) .u8 (zs.take len)).length + (lits (H := H) .u8 (zs.drop len)).length) * Tryz.prog.bytesOf 5) (by rw [hx]; simp [DataW.weights, Tryz.underlying56])
      rw [bytes5] at h1
      simp only [lits, List.length_map, List.length_take] at h1
      omega
theorem weights_all_mem {H : Type} {P : Program} {e : TypeId} {n : Nat} : ∀ {l : List (DataW H)} {d : DataW H}, d ∈ l → n ∈ d.weights P e → n ∈ DataW.weightsAll P e l
  | x :: r, d, h, hn => by
    simp only [DataW.weightsAll]
    rcases List.mem_cons.1 h with rfl | h
    · exact List.mem_append_left _ hn
    · exact List.mem_append_right _ (weights_all_mem h hn)
theorem each_reach {H : Type} {ts : List TypeId} {ds : List (DataW H)} (hsz : (DataW.weightsEach Tryz.prog ts ds).all (· ≤ reachBytes) = true) {j : Nat} {t : TypeId} {d : DataW H} (ht : ts[j]? = some t) (hd : ds[j]? = some d) : ∀ n ∈ d.weights Tryz.prog t, n ≤ reachBytes := fun n hn => by
  simpa using List.all_eq_true.1 hsz n (DataW.weights_mem_each ht hd n hn)
end Go.Proofs.YtnmdnglbpkpfdaaGreatDoor

/- What one call does on the device, by its contracts: begun, write, flush, read. -/
namespace Go.Proofs.YtnmdnglbpkpfdaaGreatDoor
open Go.RowKit
set_option maxRecDepth 100000
/-- The work of a call: its block, its error. -/
def Wk (w : World) (wb d : Nat) (ev : Value) : Prop := w.heap[wb]? = some (.cells #[.pointer (some ⟨d, 0, none⟩), ev] 147)
theorem Wk.turns {F : Nat → Prop} {w w' : World} {wb d : Nat} {ev : Value} (h : Wk w wb d ev) (t : Turns F w w') (hF : ¬ F wb) : Wk w' wb d ev := (t.block wb (heap_lt h) hF).trans h
theorem Wk.c0 {w : World} {wb d : Nat} {ev : Value} (h : Wk w wb d ev) : w.cell? ⟨wb, 0, none⟩ = some (.pointer (some ⟨d, 0, none⟩)) := by unfold Wk at h; simp [World.cell?, h]
theorem Wk.c1 {w : World} {wb d : Nat} {ev : Value} (h : Wk w wb d ev) : w.cell? ⟨wb, 1, none⟩ = some ev := by unfold Wk at h; simp [World.cell?, h]
theorem Wk.fz {w : World} {wb d : Nat} {ev : Value} (h : Wk w wb d ev) (j : Nat) : w.frozen? ⟨wb, j, none⟩ = false := by unfold Wk at h; simp [World.frozen?, h]
theorem Wk.set {w : World} {wb d : Nat} {ev : Value} (h : Wk w wb d ev) (v : Value) : Wk (w.setCell ⟨wb, 1, none⟩ v) wb d v := heap_setCell_same _ _ _ _ _ _ h
theorem ErrV.nil {e : Int} (h : ErrV .nilIface e) : e = 0 := by
  rcases h with h | ⟨_, s, h⟩
  · exact h.1
  · cases h
theorem Dev.more {F : Nat → Prop} {w : World} {db : Nat} {st : Int} {S : DevS} {k N M : Nat} (h : Dev w db st S k N F) (hM : N ≤ M) : Dev w db st S k M F := by
  obtain ⟨gl, bm, q, pv, gs, Dm, h, f, hl⟩ := h
  exact ⟨gl, bm, q, pv, gs, Dm, { h with pn := Nat.le_trans h.pn hM, map := h.map.mono hM }, f, hl⟩
def begE (S : DevS) : Int := if S.off then 3 else 0
set_option maxHeartbeats 1000000 in
theorem begun_any {w : World} {d : Nat} {S : DevS} {k N : Nat} {F : Nat → Prop} (hD : Dev w d 0 S k N F) : Calls Tryz.prog 51 #[.pointer (some ⟨d, 0, none⟩)] w fun e w' => ∃ ev, e = .returned (.pointer (some ⟨w.heap.size, 0, none⟩)) ∧ ErrV ev (begE S) ∧ Wk w' w.heap.size d ev ∧ Same0 w w' d S k N F := by
  obtain ⟨W, hW⟩ : ∃ W, w.alloc (.cells #[.pointer (some ⟨d, 0, none⟩), .nilIface] 147) = W := ⟨_, rfl⟩
  have hb : Below w.heap.size w W := by rw [← hW]; exact (Below.refl _ w).alloc (Nat.le_refl _) _
  have hk : Wk W w.heap.size d .nilIface := by rw [← hW]; exact (MapKept.heap_alloc w _).1
  have hs : w.heap.size < W.heap.size := by rw [← hW]; simp
  have hDW := hD.below hb
  have hF := hD.lt
  have hn : ¬ F w.heap.size := fun h => by have := hF _ h; omega
  go_enter Tryz.func51, Tryz.ntmps51
  go_wp2_with fail
  try rw [hW]
  refine (power_any hDW).mono ?_
  rintro e w1 ⟨rfl, q1⟩
  have k1 := hk.turns q1.2 hn
  have T : Turns F w w1 := (Below.turns hb F).trans q1.2 (fun _ _ h => h)
  by_cases ho : S.off = true
  · have c0 := k1.c0
    have c1 := k1.c1
    have f1 := k1.fz 1
    go_wp2_with fail
    refine (wrapped_any _ _ _).mono ?_
    rintro e wn ⟨v, rfl, hv, hwn⟩
    subst wn
    have he : begE S = 3 := by unfold begE; rw [if_pos ho]
    obtain ⟨_, s, rfl⟩ := hv.resolve_left (fun h => by cases h.1)
    go_wp2
    go_ret
    refine ⟨_, rfl, ?_, k1.set _, q1.1.turns (Turns.cell w1 w.heap.size 1 _) (fun i hi e => hn (e ▸ hi)), T.trans (Turns.cell w1 w.heap.size 1 _) (fun i hi e => by omega)⟩
    rw [he]
    exact hv
  · have ho' : S.off = false := by simpa using ho
    rw [ho']
    go_wp2
    go_ret
    refine ⟨_, rfl, ?_, k1, q1.1, T⟩
    unfold begE
    rw [if_neg ho]
    exact Or.inl ⟨rfl, rfl⟩

/-- The error behind a write, and what the device holds then. -/
def wkE (e : Int) (S : DevS) (k : Nat) (b : Int) (n : Nat) : Int := if e = 0 then wrE S k b n else e
def wkS (e : Int) (S : DevS) (k : Nat) (b : Int) (d : List Int) : DevS := if e = 0 then wrS S k b d else S
/-- What one of the calls leaves: the work with its error, the device, what may have turned. -/
def Did (w w' : World) (wb d : Nat) (e : Int) (S : DevS) (k N : Nat) (F : Nat → Prop) : Prop := ∃ ev, ErrV ev e ∧ Wk w' wb d ev ∧ Dev w' d 0 S k N (grow F w w') ∧ Turns (fun i => F i ∨ i = wb) w w'
set_option maxHeartbeats 1000000 in
theorem wkwrite_any {w : World} {d wb : Nat} {S : DevS} {k N : Nat} {F : Nat → Prop} {ev : Value} {e0 : Int} (hD : Dev w d 0 S k N F) (hW : Wk w wb d ev) (hE : ErrV ev e0) (hwF : ¬ F wb) (b : Int) (ao : Option Addr) (n c : Nat) (ds : List Int) (hL : Lies w ao n c ds) (hy : ∀ x ∈ ds, 0 ≤ x ∧ x ≤ 255) (hF : ∀ ad, ao = some ad → ¬ F ad.block) (hN : N ≤ 1099511627776) :
    Calls Tryz.prog 80 #[.pointer (some ⟨wb, 0, none⟩), .int .i64 b, .slice ao n c] w fun e w' => e = .returned (.tuple #[]) ∧ Did w w' wb d (wkE e0 S k b n) (wkS e0 S k b ds) k (N + 1) F := by
  have c0 := hW.c0
  have c1 := hW.c1
  have hlt := heap_lt hW
  rcases hE with ⟨rfl, rfl⟩ | ⟨h0, s, rfl⟩
  · go_enter Tryz.func80, Tryz.ntmps80
    go_wp2_with fail
    refine (write_any hD b ao n c ds hL hy hF hN).mono ?_
    rintro e w1 ⟨rfl, D1, t1⟩
    have k1 := hW.turns t1 hwF
    have c0 := k1.c0
    have c1 := k1.c1
    have f1 := k1.fz 1
    have hg1 : ¬ grow F w w1 wb := fun h => hwF (grow_old wb hlt h)
    go_wp2_with fail
    refine (wrapped_any _ _ _).mono ?_
    rintro e wn ⟨v, rfl, hv, hwn⟩
    subst wn
    have hcell : ∀ v, Did w (w1.setCell ⟨wb, 1, none⟩ v) wb d (wrE S k b n) (wrS S k b ds) k (N + 1) F ↔ Did w (w1.setCell ⟨wb, 1, none⟩ v) wb d (wkE 0 S k b n) (wkS 0 S k b ds) k (N + 1) F := fun v => by simp [wkE, wkS]
    have fin : ∀ v, ErrV v (wrE S k b n) → Did w (w1.setCell ⟨wb, 1, none⟩ v) wb d (wkE 0 S k b n) (wkS 0 S k b ds) k (N + 1) F := fun v hv => (hcell v).1 ⟨v, hv, k1.set v, (D1.turns (Turns.cell w1 wb 1 v) (fun i hi e => hg1 (e ▸ hi))).foot (fun i h => by simpa [grow, World.setCell] using h) (fun i h => by have := D1.lt i (by simpa [grow, World.setCell] using h); simpa [World.setCell] using this), (t1.mono (fun _ _ h => Or.inl h)).trans (Turns.cell w1 wb 1 v) (fun i hi e => Or.inr e)⟩
    rcases hv with ⟨h0, rfl⟩ | ⟨h0, s, rfl⟩
    · go_wp2
      first | go_end0 | refine bodyPost_ret (results_none rfl _ _ _) rfl ?_
      exact ⟨rfl, fin _ (Or.inl ⟨h0, rfl⟩)⟩
    · go_wp2
      first | go_end0 | refine bodyPost_ret (results_none rfl _ _ _) rfl ?_
      exact ⟨rfl, fin _ (Or.inr ⟨h0, _, rfl⟩)⟩
  · go_enter Tryz.func80, Tryz.ntmps80
    go_wp2
    first | go_end0 | refine bodyPost_ret (results_none rfl _ _ _) rfl ?_
    rw [show wkE e0 S k b n = e0 from if_neg h0, show wkS e0 S k b ds = S from if_neg h0]
    exact ⟨rfl, _, Or.inr ⟨h0, s, rfl⟩, hW, (hD.foot (fun i h => Or.inl h) (fun i h => h.elim (hD.lt i) (fun h => by omega))).more (Nat.le_succ N), Turns.refl _ _⟩

def fkE (e : Int) (S : DevS) : Int := if e = 0 then flE S else e
def fkS (e : Int) (S : DevS) : DevS := if e = 0 then flS S else S
set_option maxHeartbeats 1000000 in
theorem wkflush_any {w : World} {d wb : Nat} {S : DevS} {k N : Nat} {F : Nat → Prop} {ev : Value} {e0 : Int} (hD : Dev w d 0 S k N F) (hW : Wk w wb d ev) (hE : ErrV ev e0) (hwF : ¬ F wb) (hN : N ≤ 1099511627776) :
    Calls Tryz.prog 82 #[.pointer (some ⟨wb, 0, none⟩)] w fun e w' => e = .returned (.tuple #[]) ∧ Did w w' wb d (fkE e0 S) (fkS e0 S) k N F := by
  have c0 := hW.c0
  have c1 := hW.c1
  have hlt := heap_lt hW
  rcases hE with ⟨rfl, rfl⟩ | ⟨h0, s, rfl⟩
  · go_enter Tryz.func82, Tryz.ntmps82
    go_wp2_with fail
    refine (flush_any hD hN).mono ?_
    rintro e w1 ⟨rfl, D1, t1⟩
    have k1 := hW.turns t1 hwF
    have c0 := k1.c0
    have c1 := k1.c1
    have f1 := k1.fz 1
    have hg1 : ¬ grow F w w1 wb := fun h => hwF (grow_old wb hlt h)
    go_wp2_with fail
    refine (wrapped_any _ _ _).mono ?_
    rintro e wn ⟨v, rfl, hv, hwn⟩
    subst wn
    have hcell : ∀ v, Did w (w1.setCell ⟨wb, 1, none⟩ v) wb d (flE S) (flS S) k N F ↔ Did w (w1.setCell ⟨wb, 1, none⟩ v) wb d (fkE 0 S) (fkS 0 S) k N F := fun v => by simp [fkE, fkS]
    have fin : ∀ v, ErrV v (flE S) → Did w (w1.setCell ⟨wb, 1, none⟩ v) wb d (fkE 0 S) (fkS 0 S) k N F := fun v hv => (hcell v).1 ⟨v, hv, k1.set v, (D1.turns (Turns.cell w1 wb 1 v) (fun i hi e => hg1 (e ▸ hi))).foot (fun i h => by simpa [grow, World.setCell] using h) (fun i h => by have := D1.lt i (by simpa [grow, World.setCell] using h); simpa [World.setCell] using this), (t1.mono (fun _ _ h => Or.inl h)).trans (Turns.cell w1 wb 1 v) (fun i hi e => Or.inr e)⟩
    rcases hv with ⟨h0, rfl⟩ | ⟨h0, s, rfl⟩
    · go_wp2
      first | go_end0 | refine bodyPost_ret (results_none rfl _ _ _) rfl ?_
      exact ⟨rfl, fin _ (Or.inl ⟨h0, rfl⟩)⟩
    · go_wp2
      first | go_end0 | refine bodyPost_ret (results_none rfl _ _ _) rfl ?_
      exact ⟨rfl, fin _ (Or.inr ⟨h0, _, rfl⟩)⟩
  · go_enter Tryz.func82, Tryz.ntmps82
    go_wp2
    first | go_end0 | refine bodyPost_ret (results_none rfl _ _ _) rfl ?_
    rw [show fkE e0 S = e0 from if_neg h0, show fkS e0 S = S from if_neg h0]
    exact ⟨rfl, _, Or.inr ⟨h0, s, rfl⟩, hW, hD.foot (fun i h => Or.inl h) (fun i h => h.elim (hD.lt i) (fun h => by omega)), Turns.refl _ _⟩

end Go.Proofs.YtnmdnglbpkpfdaaGreatDoor
