/- Flush, Crash by their contracts. -/
import Derived.Test.YtlcjkbhcbiggcaaGreatDoorPk03
import Derived.Deep.RegionHeld3
import Derived.Deep.RegionLaw
import Derived.Test.YtlcjkbhcbiggcaaGreatDoorChecked
import Derived.WalkKit
import Derived.LaidEql
import Derived.Stop.Asserts
import Derived.RowKitTokens
namespace Go.Proofs.YtlcjkbhcbiggcaaGreatDoor
open Go.RowKit Go.Maps
open Go.MuLone
set_option maxRecDepth 100000

/-- The writes that pend, cell by cell. -/
theorem DevX.pending {w : World} {db : Nat} {st : Int} {S : DevS} {k N gl bm : Nat} {q : Int} {pa : Option Addr} {L pcp : Nat} {gs : List Nat} {Dm : DataW Value} (h : DevX w db st S k N gl bm q (.slice pa L pcp) gs Dm) {j : Nat} (hj : j < S.pend.length) :
    ∃ pg g p, pa = some ⟨pg, 0, none⟩ ∧ S.pend[j]? = some p ∧ gs[j]? = some g ∧ p.1 < k ∧ p.2.length = 512 ∧ (∀ x ∈ p.2, 0 ≤ x ∧ x ≤ 255) ∧ w.cell? ⟨pg, j * 2, none⟩ = some (.int .i64 p.1) ∧ w.cell? ⟨pg, j * 2 + 1, none⟩ = some (hv g) ∧ w.heap[g]? = some (bl p.2) := by
  have hp : S.pend[j]? = some S.pend[j] := List.getElem?_eq_getElem hj
  have hgj : gs[j]? = some (gs[j]'(by rw [h.gsl]; exact hj)) := List.getElem?_eq_getElem _
  obtain ⟨e1, e2⟩ := pc_at _ _ j _ _ hp hgj
  have hpm := h.good.pend _ (List.mem_of_getElem? hp)
  have hrow := h.row
  rcases hrow.2 with ⟨_, h0⟩ | ⟨pg, cap, cur, hv', _, hb, _⟩
  · omega
  · cases hv'
    refine ⟨pg, _, _, rfl, hp, hgj, hpm.1, hpm.2.1, hpm.2.2, ?_, ?_, h.dat j _ _ hp hgj⟩
    · rw [hrow.cellAt (j * 2) (by omega)]; exact e1
    · rw [hrow.cellAt (j * 2 + 1) (by omega)]; exact e2
theorem layAll_take (l : List Int) (ps : List (Nat × List Int)) (j : Nat) (p : Nat × List Int) (h : ps[j]? = some p) : layAll l (ps.take (j + 1)) = layB (layAll l (ps.take j)) p := by
  have hj := (List.getElem?_eq_some_iff.1 h).1
  rw [List.take_succ_eq_append_getElem hj, (List.getElem?_eq_some_iff.1 h).2]
  simp [layAll]
/-- Flush's answer. -/
def flE (S : DevS) : Int := if (burnt S).off then 3 else 0
def flS (S : DevS) : DevS := if (burnt S).off then burnt S else flushed (burnt S)

set_option maxHeartbeats 4000000 in
theorem flush_any {w : World} {db : Nat} {S : DevS} {k N : Nat} {F : Nat → Prop} (h : Dev w db 0 S k N F) (hN : N ≤ 1099511627776) :
    Calls Tryz.prog 119 #[.pointer (some ⟨db, 0, none⟩)] w fun e w' => e = .returned (.int .i64 (flE S)) ∧ Went w w' db (flS S) k N F := by
  obtain ⟨gl, bm, q, pv, gs, Dm, h, f, hl⟩ := h
  by_cases ho : (burnt S).off = true
  · have e1 : flE S = 3 := by unfold flE; rw [if_pos ho]
    have e2 : flS S = burnt S := by unfold flS; rw [if_pos ho]
    rw [e1, e2]
    go_enter_defers Tryz.func119, Tryz.ntmps119
    go_wp2_with fail
    refine (lock_dev h).mono ?_
    rintro e w1 ⟨rfl, h1, t1⟩
    go_wp2_with fail
    refine (burn_any h1).mono ?_
    rintro e w2 ⟨rfl, h2, t2⟩
    have c6 := h2.cells.2.2.2.2.2.1
    rw [ho] at c6
    go_wp2_with fail
    refine leaves_cons (f := 98) (args := #[.pointer (some ⟨db, 0, none⟩)]) (by simp) (by simp [go_sem]) ?_
    refine (unlock_dev .returning h2).mono ?_
    rintro e u' w3 ⟨rfl, rfl, h3, t3⟩
    exact ⟨_, results_tmp rfl _ _ _, rfl, Went.of h3 f hl (((t1.trans t2 (fun _ _ h => h)).trans t3 (fun _ _ h => h)).mono (fun i _ e => by subst e; exact f.f1)) rfl (Or.inr (Or.inl rfl)) (fun g hg => Or.inl hg)⟩
  · have ho' : (burnt S).off = false := by simpa using ho
    have e1 : flE S = 0 := by unfold flE; rw [if_neg ho]
    have e2 : flS S = flushed (burnt S) := by unfold flS; rw [if_neg ho]
    rw [e1, e2]
    have hpb : (burnt S).pend = S.pend := by unfold burnt; split <;> rfl
    obtain ⟨pa, pcp, hpv⟩ := row_slice h.row
    have hpn := h.pn
    obtain ⟨L, hL⟩ : ∃ L, S.pend.length = L := ⟨_, rfl⟩
    rw [hL] at hpv hpn
    have hLi : (L : Int) ≤ 1099511627776 := by omega
    have HL : Hid ((burnt S).pend.length = L) := by rw [hpb]; exact hL
    clear hL hpb
    obtain ⟨B, hB⟩ : ∃ B, burnt S = B := ⟨_, rfl⟩
    have HB : Hid (burnt S = B) := hB
    rw [hB] at ho' HL ⊢
    clear hB ho e1 e2
    subst hpv
    go_enter_defers Tryz.func119, Tryz.ntmps119
    go_wp2_with fail
    refine (lock_dev h).mono ?_
    rintro e w1 ⟨rfl, h1, t1⟩
    go_wp2_with fail
    refine (burn_any h1).mono ?_
    rintro e w2 ⟨rfl, h2, t2⟩
    have t12 := t1.trans t2 (fun _ _ h => h)
    rw [HB.out] at h2
    obtain ⟨c0, c2, c3, c4, c5, c6, fz⟩ := h2.cells
    rw [ho'] at c6
    clear c0 c2 c4 c5 fz t1 t2 h1
    go_wp2_with fail
    go_loopw [23] (fun i wr => ∃ j : Nat, j ≤ L ∧ i = .int .i64 j ∧ DevX wr db 1 { B with last := layAll B.last (B.pend.take j) } k N gl bm q (.slice pa L pcp) gs Dm ∧ Turns (fun i => i = gl) w2 wr) (fun i _ => L - (intOf i).toNat)
    case atStart => exact ⟨0, Nat.zero_le _, rfl, h2, Turns.refl _ _⟩
    case round =>
      obtain ⟨j, hj, rfl, hX, hT⟩ := hrel
      by_cases hlt : j < L
      · obtain ⟨pg, g, p, rfl, hp, hg, hpk, hpl, hpy, x0, x1, hgb⟩ := hX.pending (j := j) (by simp only; rw [HL.out]; exact hlt)
        have HE : Hid (layAll B.last (B.pend.take (j + 1)) = layB (layAll B.last (B.pend.take j)) p) := layAll_take B.last B.pend j p hp
        obtain ⟨pb, pd⟩ := p
        simp only at hpk hpl hpy x0 hgb
        obtain ⟨W, hW⟩ : ∃ W, wr.alloc (.cells #[.int .i64 pb, .slice (some ⟨g, 0, none⟩) 512 512] 186) = W := ⟨_, rfl⟩
        have hbW : Below wr.heap.size wr W := by rw [← hW]; exact (Below.refl _ wr).alloc (Nat.le_refl _) _
        have y0 : W.cell? ⟨wr.heap.size, 0, none⟩ = some (.int .i64 pb) := by rw [← hW]; simp
        have y1 : W.cell? ⟨wr.heap.size, 1, none⟩ = some (.slice (some ⟨g, 0, none⟩) 512 512) := by rw [← hW]; simp
        have hXW := hX.turns (Below.turns hbW (fun _ => False)) id id id (fun _ _ => id) (fun _ _ => id)
        have hgW : W.heap[g]? = some (bl pd) := (hbW.block g (heap_lt hgb)).trans hgb
        clear hX hp hg hgb
        go_wp2_with fail
        try rw [hW]
        refine (last_any hXW pb g pd hpk hgW hpl hpy).mono ?_
        rintro e w3 ⟨rfl, h3, t3⟩
        have hT3 : Turns (fun i => i = gl) w2 w3 := (hT.trans (Below.turns hbW (fun i => i = gl)) (fun _ _ h => h)).trans t3 (fun _ _ h => h)
        go_wp2_with fail
        go_roundw
        case rel => exact ⟨j + 1, by omega, by go_num, by rw [HE.out]; exact h3, hT3⟩
        case measure => simp [intOf]; omega
      · obtain rfl : j = L := by omega
        have e3 : B.pend.take j = B.pend := List.take_of_length_le (by rw [HL.out]; exact Nat.le_refl _)
        rw [e3] at hX
        clear e3
        go_wp2_with fail
        refine (forget_any hX hN).mono ?_
        rintro e w4 ⟨rfl, ⟨D', h4⟩, t4⟩
        have h4' : DevX w4 db 1 (flushed B) k N gl bm q (.slice none 0 0) [] D' := h4
        clear h4
        go_wp2_with fail
        refine leaves_cons (f := 98) (args := #[.pointer (some ⟨db, 0, none⟩)]) (by simp) (by simp [go_sem]) ?_
        refine (unlock_dev .returning h4').mono ?_
        rintro e u' w5 ⟨rfl, rfl, h5, t5⟩
        refine ⟨_, results_tmp rfl _ _ _, ?_⟩
        refine ⟨rfl, Went.of h5 f hl ?_ rfl (Or.inl rfl) (fun x hx => by cases hx)⟩
        refine (((t12.mono (G := F) (fun i _ e => by subst e; exact f.f1)).trans hT (fun i _ e => by subst e; exact f.f2)).trans t4 (fun i _ e => ?_)).trans t5 (fun i _ e => by subst e; exact f.f1)
        rcases e with e | e
        · subst e; exact f.f1
        · subst e; exact f.f3
end Go.Proofs.YtlcjkbhcbiggcaaGreatDoor

/- Crash by its contract. -/
namespace Go.Proofs.YtlcjkbhcbiggcaaGreatDoor
open Go.RowKit Go.Maps
open Go.MuLone
set_option maxRecDepth 100000

/-- The slice reads as these bools. -/
structure KLies (w : World) (ao : Option Addr) (n c : Nat) (ks : List Bool) : Prop where
  hlen : ks.length = n
  hle : n ≤ c
  hcells : ∀ j b, ks[j]? = some b → ∃ g o, ao = some ⟨g, o, none⟩ ∧ w.cell? ⟨g, o + j, none⟩ = some (.bool b)
theorem KLies.turns {F : Nat → Prop} {w w' : World} {ao : Option Addr} {n c : Nat} {ks : List Bool} (h : KLies w ao n c ks) (ht : Turns F w w') (hF : ∀ ad, ao = some ad → ¬ F ad.block) : KLies w' ao n c ks :=
  ⟨h.hlen, h.hle, fun j b hj => by
    obtain ⟨g, o, e, hc⟩ := h.hcells j b hj
    have hlt := World.block_lt_of_cell? w _ hc
    exact ⟨g, o, e, (World.cell?_of_block (w := w) (w' := w') (a := ⟨g, o + j, none⟩) (ht.block g hlt (hF _ e))).trans hc⟩⟩
theorem KLies.nil (w : World) : KLies w none 0 0 [] := ⟨rfl, Nat.le_refl _, fun j b h => by simp at h⟩
theorem kept_app : ∀ (ps : List (Nat × List Int)) (ks : List Bool) (p : Nat × List Int), kept (ps ++ [p]) ks = kept ps ks ++ (if ks[ps.length]? = some true then [p] else [])
  | [], [], p => by simp [kept]
  | [], k :: ks, p => by cases k <;> simp [kept]
  | q :: ps, [], p => by simp [kept]
  | q :: ps, k :: ks, p => by
    have := kept_app ps ks p
    cases k <;> simp [kept, this]
theorem kept_take (ps : List (Nat × List Int)) (ks : List Bool) (j : Nat) (p : Nat × List Int) (h : ps[j]? = some p) : kept (ps.take (j + 1)) ks = kept (ps.take j) ks ++ (if ks[j]? = some true then [p] else []) := by
  have hj := (List.getElem?_eq_some_iff.1 h).1
  rw [List.take_succ_eq_append_getElem hj, (List.getElem?_eq_some_iff.1 h).2, kept_app]
  simp [Nat.min_eq_left (Nat.le_of_lt hj)]
theorem lay_yes (l : List Int) (ps : List (Nat × List Int)) (ks : List Bool) (j : Nat) (p : Nat × List Int) (h : ps[j]? = some p) (hk : ks[j]? = some true) : layAll l (kept (ps.take (j + 1)) ks) = layB (layAll l (kept (ps.take j) ks)) p := by
  rw [kept_take ps ks j p h, if_pos hk]; simp [layAll]
theorem lay_no (l : List Int) (ps : List (Nat × List Int)) (ks : List Bool) (j : Nat) (p : Nat × List Int) (h : ps[j]? = some p) (hk : ¬ ks[j]? = some true) : layAll l (kept (ps.take (j + 1)) ks) = layAll l (kept (ps.take j) ks) := by
  rw [kept_take ps ks j p h, if_neg hk]; simp

set_option maxHeartbeats 4000000 in
theorem crash_any {w : World} {db : Nat} {S : DevS} {k N : Nat} {F : Nat → Prop} (h : Dev w db 0 S k N F) (ao : Option Addr) (m c : Nat) (ks : List Bool) (hK : KLies w ao m c ks) (hm : m ≤ 140737488355328) (hF : ∀ ad, ao = some ad → ¬ F ad.block) (hN : N ≤ 1099511627776) :
    Calls Tryz.prog 99 #[.pointer (some ⟨db, 0, none⟩), .slice ao m c] w fun e w' => e = .returned (.tuple #[]) ∧ Went w w' db (crashed S ks) k N F := by
  obtain ⟨gl, bm, q, pv, gs, Dm, h, f, hl⟩ := h
  obtain ⟨pa, pcp, hpv⟩ := row_slice h.row
  have hpn := h.pn
  obtain ⟨L, hL⟩ : ∃ L, S.pend.length = L := ⟨_, rfl⟩
  rw [hL] at hpv hpn
  have hLi : (L : Int) ≤ 1099511627776 := by omega
  have hmi : (m : Int) ≤ 140737488355328 := by omega
  have HL : Hid (S.pend.length = L) := hL
  clear hL
  subst hpv
  go_enter_defers Tryz.func99, Tryz.ntmps99
  go_wp2_with fail
  refine (lock_dev h).mono ?_
  rintro e w1 ⟨rfl, h1, t1⟩
  have hK1 := hK.turns t1 (fun ad had e => hF ad had (by rw [e]; exact f.f1))
  have c3 := h1.cells.2.2.1
  go_wp2_with fail
  go_loopw [18] (fun i wr => ∃ j : Nat, j ≤ L ∧ i = .int .i64 j ∧ DevX wr db 1 { S with last := layAll S.last (kept (S.pend.take j) ks) } k N gl bm q (.slice pa L pcp) gs Dm ∧ Turns (fun i => i = gl) w1 wr) (fun i _ => L - (intOf i).toNat)
  case atStart => exact ⟨0, Nat.zero_le _, rfl, by simpa [kept, layAll] using h1, Turns.refl _ _⟩
  case round =>
    obtain ⟨j, hj, rfl, hX, hT⟩ := hrel
    by_cases hlt : j < L
    · obtain ⟨pg, g, p, rfl, hp, hg, hpk, hpl, hpy, x0, x1, hgb⟩ := hX.pending (j := j) (by simp only; rw [HL.out]; exact hlt)
      have hKr := hK1.turns hT (fun ad had e => hF ad had (by rw [e]; exact f.f2))
      have hpj : S.pend[j]? = some p := hp
      obtain ⟨W, hW⟩ : ∃ W, wr.alloc (.cells #[.int .i64 p.1, .slice (some ⟨g, 0, none⟩) 512 512] 186) = W := ⟨_, rfl⟩
      have hbW : Below wr.heap.size wr W := by rw [← hW]; exact (Below.refl _ wr).alloc (Nat.le_refl _) _
      have y0 : W.cell? ⟨wr.heap.size, 0, none⟩ = some (.int .i64 p.1) := by rw [← hW]; simp
      have y1 : W.cell? ⟨wr.heap.size, 1, none⟩ = some (.slice (some ⟨g, 0, none⟩) 512 512) := by rw [← hW]; simp
      have hXW := hX.turns (Below.turns hbW (fun _ => False)) id id id (fun _ _ => id) (fun _ _ => id)
      have hgW : W.heap[g]? = some (bl p.2) := (hbW.block g (heap_lt hgb)).trans hgb
      have hTW : Turns (fun i => i = gl) w1 W := hT.trans (Below.turns hbW (fun i => i = gl)) (fun _ _ h => h)
      have hKW := hKr.turns (Below.turns hbW (fun _ => False)) (fun _ _ => id)
      by_cases hkj : ks[j]? = some true
      · have HE : Hid (layAll S.last (kept (S.pend.take (j + 1)) ks) = layB (layAll S.last (kept (S.pend.take j) ks)) p) := lay_yes S.last S.pend ks j p hpj hkj
        obtain ⟨kg, ko, rfl, hkc⟩ := hKW.hcells j true hkj
        have hjm : j < m := by rw [← hK.hlen]; exact (List.getElem?_eq_some_iff.1 hkj).1
        have hjmi : (j : Int) < m := by omega
        clear hX hp hg hgb hkj hpj hKr hKW
        obtain ⟨pb, pd⟩ := p
        simp only at hpk hpl hpy x0 y0 hgW hW
        go_wp2_with fail
        try rw [hW]
        refine (last_any hXW pb g pd hpk hgW hpl hpy).mono ?_
        rintro e w3 ⟨rfl, h3, t3⟩
        have hT3 : Turns (fun i => i = gl) w1 w3 := hTW.trans t3 (fun _ _ h => h)
        go_wp2_with fail
        go_roundw
        case rel => exact ⟨j + 1, by omega, by go_num, by rw [HE.out]; exact h3, hT3⟩
        case measure => simp [intOf]; omega
      · have HE : Hid (layAll S.last (kept (S.pend.take (j + 1)) ks) = layAll S.last (kept (S.pend.take j) ks)) := lay_no S.last S.pend ks j p hpj hkj
        by_cases hjm : j < m
        · have hkj2 : ks[j]? = some false := by
            have hlk : j < ks.length := by rw [hK.hlen]; exact hjm
            rw [List.getElem?_eq_getElem hlk] at hkj ⊢
            cases hb : ks[j] <;> simp_all
          obtain ⟨kg, ko, rfl, hkc⟩ := hKW.hcells j false hkj2
          have hjmi : (j : Int) < m := by omega
          clear hX hp hg hgb hkj hkj2 hpj hKr hKW
          go_wp2_with fail
          try rw [hW]
          go_roundw
          case rel => exact ⟨j + 1, by omega, by go_num, by rw [HE.out]; exact hXW, hTW⟩
          case measure => simp [intOf]; omega
        · have hjmi : ¬ (j : Int) < m := by omega
          clear hX hp hg hgb hkj hpj hKr hKW
          go_wp2_with fail
          try rw [hW]
          go_roundw
          case rel => exact ⟨j + 1, by omega, by go_num, by rw [HE.out]; exact hXW, hTW⟩
          case measure => simp [intOf]; omega
    · obtain rfl : j = L := by omega
      have e3 : S.pend.take j = S.pend := List.take_of_length_le (by rw [HL.out]; exact Nat.le_refl _)
      rw [e3] at hX
      clear e3
      go_wp2_with fail
      refine (forget_any hX hN).mono ?_
      rintro e w4 ⟨rfl, ⟨D', h4⟩, t4⟩
      have h5 := h4.db (S' := { last := layAll S.last (kept S.pend ks), pend := [], fuse := 0, off := S.off }) (st' := 1) 5 (.int .i64 0) ⟨rfl, rfl, Nat.zero_le _⟩ rfl
      have h6 : DevX ((w4.setCell ⟨db, 5, none⟩ (.int .i64 0)).setCell ⟨db, 6, none⟩ (.bool false)) db 1 (crashed S ks) k N gl bm q (.slice none 0 0) [] D' := h5.db 6 (.bool false) ⟨rfl, rfl, Nat.zero_le _⟩ rfl
      have t6 : Turns (fun i => i = db) w4 ((w4.setCell ⟨db, 5, none⟩ (.int .i64 0)).setCell ⟨db, 6, none⟩ (.bool false)) := (Turns.cell w4 db 5 _).trans (Turns.cell _ db 6 _) (fun _ _ h => h)
      obtain ⟨c0, c2, c3', c4, c5, c6, fz⟩ := h4.cells
      have f5 := fz 5
      have f6 := fz 6
      clear c0 c2 c3' c4 fz h5 h4
      go_wp2
      refine leaves_cons (f := 98) (args := #[.pointer (some ⟨db, 0, none⟩)]) (by simp) (by simp [go_sem]) ?_
      refine (unlock_dev .returning h6).mono ?_
      rintro e u' w7 ⟨rfl, rfl, h7, t7⟩
      refine ⟨_, results_none rfl _ _ _, ?_⟩
      refine ⟨rfl, Went.of h7 f hl ?_ rfl (Or.inl rfl) (fun x hx => by cases hx)⟩
      refine ((((t1.mono (G := F) (fun i _ e => by subst e; exact f.f1)).trans hT (fun i _ e => by subst e; exact f.f2)).trans t4 (fun i _ e => ?_)).trans t6 (fun i _ e => by subst e; exact f.f1)).trans t7 (fun i _ e => by subst e; exact f.f1)
      rcases e with e | e
      · subst e; exact f.f1
      · subst e; exact f.f3
end Go.Proofs.YtlcjkbhcbiggcaaGreatDoor

/- Pending by its contract. -/
namespace Go.Proofs.YtlcjkbhcbiggcaaGreatDoor
open Go.RowKit Go.Maps
open Go.MuLone
set_option maxRecDepth 100000

/-- A list of writes that was handed out: its row, and a block for each one's bytes. -/
structure PList (w : World) (G : Nat) (gs : List Nat) (ps : List (Nat × List Int)) : Prop where
  row : w.heap[G]? = some (.cells (pc ps gs).toArray 186 (0, 0))
  len : gs.length = ps.length
  dat : ∀ (i : Nat) p g, ps[i]? = some p → gs[i]? = some g → w.heap[g]? = some (bl p.2)
  nod : gs.Nodup
  out : G ∉ gs
theorem PList.turns {F : Nat → Prop} {w w' : World} {G : Nat} {gs : List Nat} {ps : List (Nat × List Int)} (h : PList w G gs ps) (ht : Turns F w w') (hG : ¬ F G) (hg : ∀ g ∈ gs, ¬ F g) : PList w' G gs ps :=
  ⟨(ht.block G (heap_lt h.row) hG).trans h.row, h.len, dat_turns h.dat ht hg, h.nod, h.out⟩
theorem take_two (cur : List Value) (j : Nat) (a b : Value) (h : j * 2 + 2 ≤ cur.length) : ((cur.set (j * 2) a).set (j * 2 + 1) b).take ((j + 1) * 2) = cur.take (j * 2) ++ [a, b] := by
  have h1 : j * 2 < ((cur.set (j * 2) a).set (j * 2 + 1) b).length := by simp; omega
  have h2 : j * 2 + 1 < ((cur.set (j * 2) a).set (j * 2 + 1) b).length := by simp; omega
  rw [show (j + 1) * 2 = j * 2 + 1 + 1 by omega, List.take_succ_eq_append_getElem h2, List.take_succ_eq_append_getElem h1, List.take_set, List.take_set, List.set_eq_of_length_le (by simp; omega), List.set_eq_of_length_le (by simp; omega)]
  simp
theorem pc_take : ∀ (ps : List (Nat × List Int)) (gs : List Nat) (j : Nat) (p : Nat × List Int) (g : Nat), gs.length = j → ps[j]? = some p → pc (ps.take (j + 1)) (gs ++ [g]) = pc (ps.take j) gs ++ [.int .i64 p.1, hv g] := fun ps gs j p g hl hp => by
  have hj := (List.getElem?_eq_some_iff.1 hp).1
  rw [List.take_succ_eq_append_getElem hj, (List.getElem?_eq_some_iff.1 hp).2]
  obtain ⟨b, d⟩ := p
  exact pc_snoc _ _ _ _ _ (by simp [hl]; omega)
/-- The list as far as it is filled. -/
structure PPart (w0 w : World) (G : Nat) (gs : List Nat) (ps : List (Nat × List Int)) (L j : Nat) (cur : List Value) : Prop where
  row : w.heap[G]? = some (.cells cur.toArray 186 (0, 0))
  cl : cur.length = L * 2
  tk : cur.take (j * 2) = pc (ps.take j) gs
  len : gs.length = j
  dat : ∀ (i : Nat) p g, ps[i]? = some p → gs[i]? = some g → w.heap[g]? = some (bl p.2)
  nod : gs.Nodup
  hi : ∀ g ∈ gs, w0.heap.size < g
  hG : G = w0.heap.size
theorem PPart.done {w0 w : World} {G : Nat} {gs : List Nat} {ps : List (Nat × List Int)} {L : Nat} {cur : List Value} (h : PPart w0 w G gs ps L L cur) (hL : ps.length = L) : PList w G gs ps := by
  have e1 : cur.take (L * 2) = cur := List.take_of_length_le (by rw [h.cl]; exact Nat.le_refl _)
  have e2 : ps.take L = ps := List.take_of_length_le (by omega)
  have e3 := h.tk
  rw [e1, e2] at e3
  refine ⟨by rw [← e3]; exact h.row, by rw [h.len, hL], h.dat, h.nod, fun hm => ?_⟩
  have := h.hi _ hm
  have := h.hG
  omega
theorem PPart.step {w0 w w2 : World} {G : Nat} {gs : List Nat} {ps : List (Nat × List Int)} {L j : Nat} {cur : List Value} (h : PPart w0 w G gs ps L j cur) (hj : j < L) {p : Nat × List Int} {g : Nat} (hp : ps[j]? = some p) (hb : Below w.heap.size w w2) (hg : w.heap.size ≤ g) (hgb : w2.heap[g]? = some (bl p.2)) :
    PPart w0 ((w2.setCell ⟨G, j * 2, none⟩ (.int .i64 p.1)).setCell ⟨G, j * 2 + 1, none⟩ (hv g)) G (gs ++ [g]) ps L (j + 1) ((cur.set (j * 2) (.int .i64 p.1)).set (j * 2 + 1) (hv g)) := by
  have hGlt := heap_lt h.row
  have hG2 := (hb.block G hGlt).trans h.row
  have hne : g ≠ G := by omega
  have hT : Turns (fun i => i = G) w2 ((w2.setCell ⟨G, j * 2, none⟩ (.int .i64 p.1)).setCell ⟨G, j * 2 + 1, none⟩ (hv g)) := (Turns.cell w2 G _ _).trans (Turns.cell _ G _ _) (fun _ _ h => h)
  have hgo : ∀ x ∈ gs, x < w.heap.size := fun x hx => by
    obtain ⟨i, hi⟩ := List.mem_iff_getElem?.1 hx
    have hil : i < j := by rw [← h.len]; exact (List.getElem?_eq_some_iff.1 hi).1
    have hjp := (List.getElem?_eq_some_iff.1 hp).1
    exact heap_lt (h.dat i _ _ (List.getElem?_eq_getElem (by omega)) hi)
  refine ⟨?_, by simp [h.cl], ?_, by simp [h.len], ?_, ?_, ?_, h.hG⟩
  · rw [heap_setCell_same _ _ _ _ _ _ (heap_setCell_same _ _ _ _ _ _ hG2)]
    simp
  · rw [take_two _ _ _ _ (by rw [h.cl]; omega), pc_take ps gs j p g h.len hp, h.tk]
  · intro i p' g' h1 h2
    by_cases hi : i < gs.length
    · rw [List.getElem?_append_left hi] at h2
      have hx := h.dat i p' g' h1 h2
      have hx2 := (hb.block g' (heap_lt hx)).trans hx
      have hgi := h.hi g' (List.mem_of_getElem? h2)
      have := h.hG
      exact (hT.block g' (heap_lt hx2) (fun e => by omega)).trans hx2
    · rw [List.getElem?_append_right (by omega)] at h2
      have h0 : i - gs.length = 0 := by
        have := (List.getElem?_eq_some_iff.1 h2).1
        simp at this; omega
      rw [h0] at h2
      simp at h2
      subst h2
      have hij : i = j := by have := h.len; omega
      subst hij
      rw [hp] at h1
      obtain rfl := Option.some.inj h1
      exact (hT.block g (heap_lt hgb) hne).trans hgb
  · rw [List.nodup_append]
    refine ⟨h.nod, by simp, fun a ha b hb e => ?_⟩
    obtain rfl := List.mem_singleton.1 hb
    have := hgo a ha
    omega
  · intro x hx
    rcases List.mem_append.1 hx with hx | hx
    · exact h.hi x hx
    · obtain rfl := List.mem_singleton.1 hx
      have := h.hG
      omega
end Go.Proofs.YtlcjkbhcbiggcaaGreatDoor

/- The journal's small functions by their contracts: copied, the region, what one call does on the device. -/
namespace Go.Proofs.YtlcjkbhcbiggcaaGreatDoor
open Go.RowKit
set_option maxRecDepth 100000

set_option maxHeartbeats 1000000 in
theorem jcopied_any (ao : Option Addr) (n c : Nat) (bs : List Int) (w : World) (hn : n ≤ 140737488355328) (hL : Lies w ao n c bs) :
    Calls Tryz.prog 152 #[.slice ao n c] w fun e w' => ∃ g, e = .returned (.slice (some ⟨g, 0, none⟩) n n) ∧ w.heap.size ≤ g ∧ w'.heap[g]? = some (bl bs) ∧ Below w.heap.size w w' := by
  obtain ⟨i0, hi, hz0, hz1, hz2⟩ := info_parts Tryz.info5
  have hni : (n : Int) ≤ 140737488355328 := by omega
  have hlen := hL.hlen
  have hsz : (Tryz.prog.info? 5).map (·.size) = some 1 := by rw [hi]; simp [hz1]
  have hL1 : Lies (w.alloc (.cells (madeCells #[.int .u8 0] n) 5)) ao n c bs := hL.below ((Below.refl _ w).alloc (Nat.le_refl _) _) (Nat.le_refl _)
  have hpos : 0 < (bs.map (Value.int .u8)).length → (some ⟨w.heap.size, 0, none⟩ : Option Addr) = some ⟨w.heap.size, 0, none⟩ ∧ ∃ ad, ao = some ad ∧ ∀ j v, (bs.map (Value.int .u8))[j]? = some v → (w.alloc (.cells (madeCells #[.int .u8 0] n) 5)).cell? (ad.add j) = some v := fun hp => by
    cases hao : ao with
    | none => have := (hL.hnone hao).1; simp at hp; omega
    | some ad => exact ⟨rfl, ad, rfl, hL1.hcells ad hao⟩
  have hrow := made_row w n
  have hbel : Below w.heap.size w (w.alloc (.cells (madeCells #[.int .u8 0] n) 5)) := (Below.refl _ w).alloc (Nat.le_refl _) _
  go_enter Tryz.func152, Tryz.ntmps152
  go_wp2_with (first
    | (at_make; (refine wpList_make_row _ rfl _ _ 39 rfl 5 i0 (.int .u8 0) Tryz.underlying39 hi hz0 hz1 rfl _ _ n rfl rfl (by rw [hz2]; omega) (by omega) ?_))
    | (refine wpList_copy_splice rfl _ _ 39 39 rfl 5 Tryz.underlying39 hsz _ _ _ _ _ _ rfl rfl w.heap.size 0 (List.replicate n (Value.int .u8 0)) 5 hrow (bs.map (Value.int .u8)) (by simp [hlen]) hpos (by simp [hlen]) (ints_oneCell _ _) w.heap.size w hbel (Nat.le_refl _) ?_; intro w2 HG2 hB2))
  go_ret
  refine ⟨_, rfl, Nat.le_refl _, ?_, hB2⟩
  rw [HG2.out, splice_whole _ _ (by simp [hlen])]


theorem Below.fromDrew {w w' : World} (h : Below w.drew.heap.size w.drew w') : Below w.heap.size w w' := ⟨h.os, h.tape, h.output, h.size, h.block⟩
theorem Turns.fromDrew {F : Nat → Prop} {w w' : World} (h : Turns F w.drew w') : Turns F w w' := ⟨h.os, h.tape, h.output, h.size, h.block⟩
theorem Same0.fromDrew {w w' : World} {db : Nat} {S : DevS} {k N : Nat} {F : Nat → Prop} (h : Same0 w.drew w' db S k N F) : Same0 w w' db S k N F := ⟨h.1, h.2.fromDrew⟩
theorem Dev.drew {w : World} {db : Nat} {st : Int} {S : DevS} {k N : Nat} {F : Nat → Prop} (h : Dev w db st S k N F) : Dev w.drew db st S k N F := h.turns (Turns.drewN (fun _ => False) w 1) (fun _ _ => id)
/-- A region as a value. -/
abbrev rgV (d : Nat) (st sz : Int) : Value := .agg #[.pointer (some ⟨d, 0, none⟩), .int .i64 st, .int .i64 sz]
theorem places_any (d : Nat) (st sz : Int) (w : World) (h : 1 ≤ sz ∧ sz ≤ 4096) : Calls Tryz.prog 69 #[rgV d st sz] w fun e w' => e = .returned (.int .i64 (sz - 1)) ∧ Below w.heap.size w w' := by
  go_enter Tryz.func69, Tryz.ntmps69
  go_wp2
  go_ret
  exact ⟨by simp, (Below.refl _ w).alloc (Nat.le_refl _) _⟩

/-- An error of the device, with its code. -/
def ErrV (v : Value) (e : Int) : Prop := (e = 0 ∧ v = .nilIface) ∨ (e ≠ 0 ∧ ∃ s, v = .iface 219 (.agg #[.string s, .iface 55 (.int .i64 e)]))
theorem wrapped_any (s : ByteArray) (c : Int) (w : World) : Calls Tryz.prog 117 #[.string s, .int .i64 c] w fun e w' => ∃ v, e = .returned v ∧ ErrV v c ∧ w' = w := by
  by_cases hc : c = 0
  · subst hc
    go_enter Tryz.func117, Tryz.ntmps117
    go_wp2
    go_ret
    exact ⟨_, rfl, Or.inl ⟨rfl, rfl⟩, rfl⟩
  · go_enter Tryz.func117, Tryz.ntmps117
    go_wp2
    go_ret
    exact ⟨_, rfl, Or.inr ⟨hc, _, rfl⟩, rfl⟩

/-- The block of a place; places go round. -/
theorem at_any (d : Nat) (st sz : Nat) (p : Nat) (w : World) (h : 2 ≤ sz ∧ sz ≤ 4096) (hst : st ≤ 4096) (hp : p ≤ 1099511627776) : Calls Tryz.prog 71 #[rgV d st sz, .int .i64 p] w fun e w' => e = .returned (.int .i64 (st + 1 + p % (sz - 1) : Nat)) ∧ Below w.heap.size w w' := by
  have hm : ((p : Int)).tmod ((sz : Int) - 1) = ((p % (sz - 1) : Nat) : Int) := by
    rw [Int.tmod_eq_emod_of_nonneg (by omega)]
    have : ((sz : Int) - 1) = ((sz - 1 : Nat) : Int) := by omega
    rw [this]; rfl
  have hlt : p % (sz - 1) < sz - 1 := Nat.mod_lt _ (by omega)
  have hszi : (sz : Int) - 1 ≠ 0 := by omega
  obtain ⟨W, hW⟩ : ∃ W, w.alloc (.cells #[.pointer (some ⟨d, 0, none⟩), .int .i64 st, .int .i64 sz] 118) = W := ⟨_, rfl⟩
  have hb : Below w.heap.size w W := by rw [← hW]; exact (Below.refl _ w).alloc (Nat.le_refl _) _
  have x0 : W.cell? ⟨w.heap.size, 0, none⟩ = some (.pointer (some ⟨d, 0, none⟩)) := by rw [← hW]; simp
  have x1 : W.cell? ⟨w.heap.size, 1, none⟩ = some (.int .i64 st) := by rw [← hW]; simp
  have x2 : W.cell? ⟨w.heap.size, 2, none⟩ = some (.int .i64 sz) := by rw [← hW]; simp
  have hs : w.heap.size < W.heap.size := by rw [← hW]; simp
  go_enter Tryz.func71, Tryz.ntmps71
  go_wp2_with fail
  try rw [hW]
  go_region_held3 (fun w' => w'.cell? ⟨w.heap.size, 0, none⟩ = some (.pointer (some ⟨d, 0, none⟩)) ∧ w'.cell? ⟨w.heap.size, 1, none⟩ = some (.int .i64 st) ∧ w'.cell? ⟨w.heap.size, 2, none⟩ = some (.int .i64 sz))
    (first | exact ⟨x0, x1, x2⟩ | exact ⟨y0, y1, y2⟩)
    (first
      | (go_at_call 69; refine (places_any d st sz _ (by omega)).mono ?_; rintro e w1 ⟨rfl, b1⟩; have y0 := cell_later b1 x0; have y1 := cell_later b1 x1; have y2 := cell_later b1 x2))
  go_wp2
  go_ret
  have e1 : IntKind.i64.wrap (st + 1 : Int) = st + 1 := Go.IntWalk.i64_in _ ⟨by omega, by omega⟩
  have e2 : IntKind.i64.wrap (st + 1 + ((p % (sz - 1) : Nat) : Int)) = st + 1 + ((p % (sz - 1) : Nat) : Int) := Go.IntWalk.i64_in _ ⟨by omega, by omega⟩
  refine ⟨?_, hb.trans ((Below.fromDrew b1).mono (Nat.le_of_lt hs))⟩
  show Ending.returned (Value.int .i64 (IntKind.i64.wrap (IntKind.i64.wrap (st + 1 : Int) + ((p % (sz - 1) : Nat) : Int)))) = _
  rw [e1, e2]
  rfl

def outB (k : Nat) (st sz : Nat) (b : Int) : Bool := decide (0 ≤ b) && decide (b < k) && (decide (b < st) || decide ((st + sz : Int) ≤ b))
set_option maxHeartbeats 1000000 in
theorem outside_any {w : World} {d : Nat} {S : DevS} {k N : Nat} {F : Nat → Prop} (hD : Dev w d 0 S k N F) (st sz : Nat) (hst : st ≤ 4096) (hsz : sz ≤ 4096) (b : Int) : Calls Tryz.prog 110 #[rgV d st sz, .int .i64 b] w fun e w' => e = .returned (.bool (outB k st sz b)) ∧ Same0 w w' d S k N F := by
  obtain ⟨W, hW⟩ : ∃ W, w.alloc (.cells #[.pointer (some ⟨d, 0, none⟩), .int .i64 st, .int .i64 sz] 118) = W := ⟨_, rfl⟩
  have hb : Below w.heap.size w W := by rw [← hW]; exact (Below.refl _ w).alloc (Nat.le_refl _) _
  have x0 : W.cell? ⟨w.heap.size, 0, none⟩ = some (.pointer (some ⟨d, 0, none⟩)) := by rw [← hW]; simp
  have x1 : W.cell? ⟨w.heap.size, 1, none⟩ = some (.int .i64 st) := by rw [← hW]; simp
  have x2 : W.cell? ⟨w.heap.size, 2, none⟩ = some (.int .i64 sz) := by rw [← hW]; simp
  have hs : w.heap.size < W.heap.size := by rw [← hW]; simp
  have hDW := hD.below hb
  have hF := hD.lt
  have fin : ∀ w', Same0 W w' d S k N F → Same0 w w' d S k N F := fun w' h => ⟨h.1, (Below.turns hb F).trans h.2 (fun _ _ h => h)⟩
  have e1 : IntKind.i64.wrap (st + sz : Int) = st + sz := Go.IntWalk.i64_in _ ⟨by omega, by omega⟩
  by_cases h1 : 0 ≤ b
  · go_enter Tryz.func110, Tryz.ntmps110
    go_wp2_with fail
    try rw [hW]
    refine (size_any hDW).mono ?_
    rintro e w1 ⟨rfl, q1⟩
    have y1 : w1.cell? ⟨w.heap.size, 1, none⟩ = some (.int .i64 st) := (World.cell?_of_block (q1.2.block w.heap.size hs (fun h => by have := hF _ h; omega))).trans x1
    have y2 : w1.cell? ⟨w.heap.size, 2, none⟩ = some (.int .i64 sz) := (World.cell?_of_block (q1.2.block w.heap.size hs (fun h => by have := hF _ h; omega))).trans x2
    have q := fin w1 q1
    clear x0 x1 x2 q1
    by_cases h2 : b < k
    · by_cases h3 : b < st
      · go_wp2
        go_ret
        exact ⟨by simp [outB, h1, h2, h3], q⟩
      · by_cases h4 : (st + sz : Int) ≤ b
        · go_wp2
          go_ret
          exact ⟨by simp [outB, h1, h2, h4], q⟩
        · go_wp2
          go_ret
          exact ⟨by simp [outB]; omega, q⟩
    · go_wp2
      go_ret
      exact ⟨by simp [outB]; omega, q⟩
  · go_enter Tryz.func110, Tryz.ntmps110
    go_wp2_with fail
    try rw [hW]
    go_ret
    exact ⟨by simp [outB]; omega, fin W ⟨hDW, Turns.refl _ _⟩⟩

def fitB (k : Nat) (st sz : Int) : Bool := decide (0 ≤ st) && decide (27 ≤ sz) && decide (sz ≤ k - st)
set_option maxHeartbeats 1000000 in
theorem fits_any {w : World} {d : Nat} {S : DevS} {k N : Nat} {F : Nat → Prop} (hD : Dev w d 0 S k N F) (st sz : Int) (h1 : 0 ≤ st) (h2 : 27 ≤ sz) (h3 : st ≤ 9223372036854775807) : Calls Tryz.prog 67 #[rgV d st sz] w fun e w' => e = .returned (.bool (fitB k st sz)) ∧ Same0 w w' d S k N F := by
  obtain ⟨W, hW⟩ : ∃ W, w.alloc (.cells #[.pointer (some ⟨d, 0, none⟩), .int .i64 st, .int .i64 sz] 118) = W := ⟨_, rfl⟩
  have hb : Below w.heap.size w W := by rw [← hW]; exact (Below.refl _ w).alloc (Nat.le_refl _) _
  have x0 : W.cell? ⟨w.heap.size, 0, none⟩ = some (.pointer (some ⟨d, 0, none⟩)) := by rw [← hW]; simp
  have x1 : W.cell? ⟨w.heap.size, 1, none⟩ = some (.int .i64 st) := by rw [← hW]; simp
  have x2 : W.cell? ⟨w.heap.size, 2, none⟩ = some (.int .i64 sz) := by rw [← hW]; simp
  have hs : w.heap.size < W.heap.size := by rw [← hW]; simp
  have hDW := hD.below hb
  have hF := hD.lt
  have hk := hD.good.top
  have fin : ∀ w', Same0 W w' d S k N F → Same0 w w' d S k N F := fun w' h => ⟨h.1, (Below.turns hb F).trans h.2 (fun _ _ h => h)⟩
  go_enter Tryz.func67, Tryz.ntmps67
  go_wp2_with fail
  try rw [hW]
  go_region_held3 (fun w' => w'.cell? ⟨w.heap.size, 0, none⟩ = some (.pointer (some ⟨d, 0, none⟩)) ∧ w'.cell? ⟨w.heap.size, 1, none⟩ = some (.int .i64 st) ∧ w'.cell? ⟨w.heap.size, 2, none⟩ = some (.int .i64 sz))
    (first | exact ⟨x0, x1, x2⟩ | exact ⟨y0, y1, y2⟩)
    (first
      | (go_at_call 115; refine (size_any hDW.drew).mono ?_; rintro e w1 ⟨rfl, q1⟩; have q1 := q1.fromDrew; have y0 : w1.cell? ⟨w.heap.size, 0, none⟩ = some (.pointer (some ⟨d, 0, none⟩)) := (World.cell?_of_block (q1.2.block w.heap.size hs (fun h => by have := hF _ h; omega))).trans x0; have y1 : w1.cell? ⟨w.heap.size, 1, none⟩ = some (.int .i64 st) := (World.cell?_of_block (q1.2.block w.heap.size hs (fun h => by have := hF _ h; omega))).trans x1; have y2 : w1.cell? ⟨w.heap.size, 2, none⟩ = some (.int .i64 sz) := (World.cell?_of_block (q1.2.block w.heap.size hs (fun h => by have := hF _ h; omega))).trans x2))
  all_goals go_wp2
  all_goals go_ret
  have e1 : IntKind.i64.wrap (k - st : Int) = k - st := Go.IntWalk.i64_in _ ⟨by omega, by omega⟩
  refine ⟨?_, fin _ q1⟩
  show Ending.returned (Value.bool (decide (sz ≤ IntKind.i64.wrap (k - st : Int)))) = _
  rw [e1]
  simp [fitB, h1, h2]
end Go.Proofs.YtlcjkbhcbiggcaaGreatDoor

/- What one call does on the device, by its contracts: begun, write, flush, read. -/
namespace Go.Proofs.YtlcjkbhcbiggcaaGreatDoor
open Go.RowKit
set_option maxRecDepth 100000

/-- The work of a call: its block, its error. -/
def Wk (w : World) (wb d : Nat) (ev : Value) : Prop := w.heap[wb]? = some (.cells #[.pointer (some ⟨d, 0, none⟩), ev] 127)
theorem Wk.turns {F : Nat → Prop} {w w' : World} {wb d : Nat} {ev : Value} (h : Wk w wb d ev) (t : Turns F w w') (hF : ¬ F wb) : Wk w' wb d ev := (t.block wb (heap_lt h) hF).trans h
theorem Wk.c0 {w : World} {wb d : Nat} {ev : Value} (h : Wk w wb d ev) : w.cell? ⟨wb, 0, none⟩ = some (.pointer (some ⟨d, 0, none⟩)) := by unfold Wk at h; simp [World.cell?, h]
theorem Wk.c1 {w : World} {wb d : Nat} {ev : Value} (h : Wk w wb d ev) : w.cell? ⟨wb, 1, none⟩ = some ev := by unfold Wk at h; simp [World.cell?, h]
theorem Wk.fz {w : World} {wb d : Nat} {ev : Value} (h : Wk w wb d ev) (j : Nat) : w.frozen? ⟨wb, j, none⟩ = false := by unfold Wk at h; simp [World.frozen?, h]
theorem Wk.set {w : World} {wb d : Nat} {ev : Value} (h : Wk w wb d ev) (v : Value) : Wk (w.setCell ⟨wb, 1, none⟩ v) wb d v := heap_setCell_same _ _ _ _ _ _ h
theorem ErrV.nil {e : Int} (h : ErrV .nilIface e) : e = 0 := by
  rcases h with h | ⟨_, s, h⟩
  · exact h.1
  · cases h
theorem Dev.more {F : Nat → Prop} {w : World} {db : Nat} {st : Int} {S : DevS} {k N M : Nat} (h : Dev w db st S k N F) (hM : N ≤ M) : Dev w db st S k M F := by
  obtain ⟨gl, bm, q, pv, gs, Dm, h, f, hl⟩ := h
  exact ⟨gl, bm, q, pv, gs, Dm, { h with pn := Nat.le_trans h.pn hM, map := h.map.mono hM }, f, hl⟩
def begE (S : DevS) : Int := if S.off then 3 else 0
set_option maxHeartbeats 1000000 in
theorem begun_any {w : World} {d : Nat} {S : DevS} {k N : Nat} {F : Nat → Prop} (hD : Dev w d 0 S k N F) : Calls Tryz.prog 68 #[.pointer (some ⟨d, 0, none⟩)] w fun e w' => ∃ ev, e = .returned (.pointer (some ⟨w.heap.size, 0, none⟩)) ∧ ErrV ev (begE S) ∧ Wk w' w.heap.size d ev ∧ Same0 w w' d S k N F := by
  obtain ⟨W, hW⟩ : ∃ W, w.alloc (.cells #[.pointer (some ⟨d, 0, none⟩), .nilIface] 127) = W := ⟨_, rfl⟩
  have hb : Below w.heap.size w W := by rw [← hW]; exact (Below.refl _ w).alloc (Nat.le_refl _) _
  have hk : Wk W w.heap.size d .nilIface := by rw [← hW]; exact (MapKept.heap_alloc w _).1
  have hs : w.heap.size < W.heap.size := by rw [← hW]; simp
  have hDW := hD.below hb
  have hF := hD.lt
  have hn : ¬ F w.heap.size := fun h => by have := hF _ h; omega
  go_enter Tryz.func68, Tryz.ntmps68
  go_wp2_with fail
  try rw [hW]
  refine (power_any hDW).mono ?_
  rintro e w1 ⟨rfl, q1⟩
  have k1 := hk.turns q1.2 hn
  have T : Turns F w w1 := (Below.turns hb F).trans q1.2 (fun _ _ h => h)
  by_cases ho : S.off = true
  · have c0 := k1.c0
    have c1 := k1.c1
    have f1 := k1.fz 1
    go_wp2_with fail
    refine (wrapped_any _ _ _).mono ?_
    rintro e wn ⟨v, rfl, hv, hwn⟩
    subst wn
    have he : begE S = 3 := by unfold begE; rw [if_pos ho]
    obtain ⟨_, s, rfl⟩ := hv.resolve_left (fun h => by cases h.1)
    go_wp2
    go_ret
    refine ⟨_, rfl, ?_, k1.set _, q1.1.turns (Turns.cell w1 w.heap.size 1 _) (fun i hi e => hn (e ▸ hi)), T.trans (Turns.cell w1 w.heap.size 1 _) (fun i hi e => by omega)⟩
    rw [he]
    exact hv
  · have ho' : S.off = false := by simpa using ho
    rw [ho']
    go_wp2
    go_ret
    refine ⟨_, rfl, ?_, k1, q1.1, T⟩
    unfold begE
    rw [if_neg ho]
    exact Or.inl ⟨rfl, rfl⟩

/-- The error behind a write, and what the device holds then. -/
def wkE (e : Int) (S : DevS) (k : Nat) (b : Int) (n : Nat) : Int := if e = 0 then wrE S k b n else e
def wkS (e : Int) (S : DevS) (k : Nat) (b : Int) (d : List Int) : DevS := if e = 0 then wrS S k b d else S
/-- What one of the calls leaves: the work with its error, the device, what may have turned. -/
def Did (w w' : World) (wb d : Nat) (e : Int) (S : DevS) (k N : Nat) (F : Nat → Prop) : Prop := ∃ ev, ErrV ev e ∧ Wk w' wb d ev ∧ Dev w' d 0 S k N (grow F w w') ∧ Turns (fun i => F i ∨ i = wb) w w'
set_option maxHeartbeats 1000000 in
theorem wkwrite_any {w : World} {d wb : Nat} {S : DevS} {k N : Nat} {F : Nat → Prop} {ev : Value} {e0 : Int} (hD : Dev w d 0 S k N F) (hW : Wk w wb d ev) (hE : ErrV ev e0) (hwF : ¬ F wb) (b : Int) (ao : Option Addr) (n c : Nat) (ds : List Int) (hL : Lies w ao n c ds) (hy : ∀ x ∈ ds, 0 ≤ x ∧ x ≤ 255) (hF : ∀ ad, ao = some ad → ¬ F ad.block) (hN : N ≤ 1099511627776) :
    Calls Tryz.prog 70 #[.pointer (some ⟨wb, 0, none⟩), .int .i64 b, .slice ao n c] w fun e w' => e = .returned (.tuple #[]) ∧ Did w w' wb d (wkE e0 S k b n) (wkS e0 S k b ds) k (N + 1) F := by
  have c0 := hW.c0
  have c1 := hW.c1
  have hlt := heap_lt hW
  rcases hE with ⟨rfl, rfl⟩ | ⟨h0, s, rfl⟩
  · go_enter Tryz.func70, Tryz.ntmps70
    go_wp2_with fail
    refine (write_any hD b ao n c ds hL hy hF hN).mono ?_
    rintro e w1 ⟨rfl, D1, t1⟩
    have k1 := hW.turns t1 hwF
    have c0 := k1.c0
    have c1 := k1.c1
    have f1 := k1.fz 1
    have hg1 : ¬ grow F w w1 wb := fun h => hwF (grow_old wb hlt h)
    go_wp2_with fail
    refine (wrapped_any _ _ _).mono ?_
    rintro e wn ⟨v, rfl, hv, hwn⟩
    subst wn
    have hcell : ∀ v, Did w (w1.setCell ⟨wb, 1, none⟩ v) wb d (wrE S k b n) (wrS S k b ds) k (N + 1) F ↔ Did w (w1.setCell ⟨wb, 1, none⟩ v) wb d (wkE 0 S k b n) (wkS 0 S k b ds) k (N + 1) F := fun v => by simp [wkE, wkS]
    have fin : ∀ v, ErrV v (wrE S k b n) → Did w (w1.setCell ⟨wb, 1, none⟩ v) wb d (wkE 0 S k b n) (wkS 0 S k b ds) k (N + 1) F := fun v hv => (hcell v).1 ⟨v, hv, k1.set v, (D1.turns (Turns.cell w1 wb 1 v) (fun i hi e => hg1 (e ▸ hi))).foot (fun i h => by simpa [grow, World.setCell] using h) (fun i h => by have := D1.lt i (by simpa [grow, World.setCell] using h); simpa [World.setCell] using this), (t1.mono (fun _ _ h => Or.inl h)).trans (Turns.cell w1 wb 1 v) (fun i hi e => Or.inr e)⟩
    rcases hv with ⟨h0, rfl⟩ | ⟨h0, s, rfl⟩
    · go_wp2
      first | go_end0 | refine bodyPost_ret (results_none rfl _ _ _) rfl ?_
      exact ⟨rfl, fin _ (Or.inl ⟨h0, rfl⟩)⟩
    · go_wp2
      first | go_end0 | refine bodyPost_ret (results_none rfl _ _ _) rfl ?_
      exact ⟨rfl, fin _ (Or.inr ⟨h0, _, rfl⟩)⟩
  · go_enter Tryz.func70, Tryz.ntmps70
    go_wp2
    first | go_end0 | refine bodyPost_ret (results_none rfl _ _ _) rfl ?_
    rw [show wkE e0 S k b n = e0 from if_neg h0, show wkS e0 S k b ds = S from if_neg h0]
    exact ⟨rfl, _, Or.inr ⟨h0, s, rfl⟩, hW, (hD.foot (fun i h => Or.inl h) (fun i h => h.elim (hD.lt i) (fun h => by omega))).more (Nat.le_succ N), Turns.refl _ _⟩

def fkE (e : Int) (S : DevS) : Int := if e = 0 then flE S else e
def fkS (e : Int) (S : DevS) : DevS := if e = 0 then flS S else S
set_option maxHeartbeats 1000000 in
theorem wkflush_any {w : World} {d wb : Nat} {S : DevS} {k N : Nat} {F : Nat → Prop} {ev : Value} {e0 : Int} (hD : Dev w d 0 S k N F) (hW : Wk w wb d ev) (hE : ErrV ev e0) (hwF : ¬ F wb) (hN : N ≤ 1099511627776) :
    Calls Tryz.prog 72 #[.pointer (some ⟨wb, 0, none⟩)] w fun e w' => e = .returned (.tuple #[]) ∧ Did w w' wb d (fkE e0 S) (fkS e0 S) k N F := by
  have c0 := hW.c0
  have c1 := hW.c1
  have hlt := heap_lt hW
  rcases hE with ⟨rfl, rfl⟩ | ⟨h0, s, rfl⟩
  · go_enter Tryz.func72, Tryz.ntmps72
    go_wp2_with fail
    refine (flush_any hD hN).mono ?_
    rintro e w1 ⟨rfl, D1, t1⟩
    have k1 := hW.turns t1 hwF
    have c0 := k1.c0
    have c1 := k1.c1
    have f1 := k1.fz 1
    have hg1 : ¬ grow F w w1 wb := fun h => hwF (grow_old wb hlt h)
    go_wp2_with fail
    refine (wrapped_any _ _ _).mono ?_
    rintro e wn ⟨v, rfl, hv, hwn⟩
    subst wn
    have hcell : ∀ v, Did w (w1.setCell ⟨wb, 1, none⟩ v) wb d (flE S) (flS S) k N F ↔ Did w (w1.setCell ⟨wb, 1, none⟩ v) wb d (fkE 0 S) (fkS 0 S) k N F := fun v => by simp [fkE, fkS]
    have fin : ∀ v, ErrV v (flE S) → Did w (w1.setCell ⟨wb, 1, none⟩ v) wb d (fkE 0 S) (fkS 0 S) k N F := fun v hv => (hcell v).1 ⟨v, hv, k1.set v, (D1.turns (Turns.cell w1 wb 1 v) (fun i hi e => hg1 (e ▸ hi))).foot (fun i h => by simpa [grow, World.setCell] using h) (fun i h => by have := D1.lt i (by simpa [grow, World.setCell] using h); simpa [World.setCell] using this), (t1.mono (fun _ _ h => Or.inl h)).trans (Turns.cell w1 wb 1 v) (fun i hi e => Or.inr e)⟩
    rcases hv with ⟨h0, rfl⟩ | ⟨h0, s, rfl⟩
    · go_wp2
      first | go_end0 | refine bodyPost_ret (results_none rfl _ _ _) rfl ?_
      exact ⟨rfl, fin _ (Or.inl ⟨h0, rfl⟩)⟩
    · go_wp2
      first | go_end0 | refine bodyPost_ret (results_none rfl _ _ _) rfl ?_
      exact ⟨rfl, fin _ (Or.inr ⟨h0, _, rfl⟩)⟩
  · go_enter Tryz.func72, Tryz.ntmps72
    go_wp2
    first | go_end0 | refine bodyPost_ret (results_none rfl _ _ _) rfl ?_
    rw [show fkE e0 S = e0 from if_neg h0, show fkS e0 S = S from if_neg h0]
    exact ⟨rfl, _, Or.inr ⟨h0, s, rfl⟩, hW, hD.foot (fun i h => Or.inl h) (fun i h => h.elim (hD.lt i) (fun h => by omega)), Turns.refl _ _⟩

end Go.Proofs.YtlcjkbhcbiggcaaGreatDoor

/- What one call reads of the device, by its contract: read. -/
namespace Go.Proofs.YtlcjkbhcbiggcaaGreatDoor
open Go.RowKit
set_option maxRecDepth 100000

def rkE (e : Int) (S : DevS) (k : Nat) (b : Int) : Int := if e = 0 then rdE S k b else e
def rkD (e : Int) (S : DevS) (k : Nat) (b : Int) : List Int := if rkE e S k b = 0 then rdB S b.toNat else List.replicate 512 0
/-- What a read leaves. -/
def DidR (w w' : World) (wb d g : Nat) (e : Int) (S : DevS) (k N : Nat) (F : Nat → Prop) (bs : List Int) : Prop := w.heap.size ≤ g ∧ w'.heap[g]? = some (bl bs) ∧ ∃ ev, ErrV ev e ∧ Wk w' wb d ev ∧ Dev w' d 0 S k N F ∧ Turns (fun i => F i ∨ i = wb) w w'
theorem DidR.of {w w' : World} {d wb g : Nat} {S : DevS} {k N : Nat} {F : Nat → Prop} {v : Value} {e : Int} {bs : List Int} (hD : Dev w' d 0 S k N F) (t : Turns F w w') (hk : ∃ ev, Wk w' wb d ev) (hv : ErrV v e) (hwF : ¬ F wb) (hwb : wb < w.heap.size) (hg : w.heap.size ≤ g) (hb : w'.heap[g]? = some (bl bs)) : DidR w (w'.setCell ⟨wb, 1, none⟩ v) wb d g e S k N F bs := by
  obtain ⟨ev, hk⟩ := hk
  have T := Turns.cell w' wb 1 v
  exact ⟨hg, (T.block g (heap_lt hb) (by omega)).trans hb, v, hv, hk.set v, hD.turns T (fun i hi e => hwF (e ▸ hi)), (t.mono (fun _ _ h => Or.inl h)).trans T (fun i _ e => Or.inr e)⟩
theorem DidR.zeros {w w' : World} {d wb : Nat} {S : DevS} {k N : Nat} {F : Nat → Prop} {v : Value} {e : Int} (hD : Dev w' d 0 S k N F) (t : Turns (fun i => F i ∨ i = wb) w w') (hk : Wk w' wb d v) (hv : ErrV v e) : DidR w (w'.alloc (.cells (madeCells #[.int .u8 0] 512) 5)) wb d w'.heap.size e S k N F (List.replicate 512 0) := by
  have b := (Below.refl _ w').alloc (Nat.le_refl _) (.cells (madeCells #[.int .u8 0] 512) 5)
  have hs := t.size
  exact ⟨hs, zeros_bl w' 512, v, hv, hk.turns (Below.turns b (fun _ => False)) id, hD.below b, t.trans (Below.turns b (fun _ => False)) (fun _ _ h => h.elim)⟩
set_option maxHeartbeats 1000000 in
theorem wkread_any {w : World} {d wb : Nat} {S : DevS} {k N : Nat} {F : Nat → Prop} {ev : Value} {e0 : Int} (hD : Dev w d 0 S k N F) (hW : Wk w wb d ev) (hE : ErrV ev e0) (hwF : ¬ F wb) (b : Int) :
    Calls Tryz.prog 167 #[.pointer (some ⟨wb, 0, none⟩), .int .i64 b] w fun e w' => ∃ g, e = .returned (hv g) ∧ DidR w w' wb d g (rkE e0 S k b) S k N F (rkD e0 S k b) := by
  obtain ⟨i0, hi, hz0, hz1, hz2⟩ := info_parts Tryz.info5
  have c0 := hW.c0
  have c1 := hW.c1
  have hlt := heap_lt hW
  rcases hE with ⟨rfl, rfl⟩ | ⟨h0, s, rfl⟩
  · have hr0 : rkE 0 S k b = rdE S k b := if_pos rfl
    go_enter Tryz.func167, Tryz.ntmps167
    go_wp2_with fail
    refine (read_any hD b).mono ?_
    rintro e w1 ⟨hR, D1, t1⟩
    have k1 := hW.turns t1 hwF
    have c0 := k1.c0
    have c1 := k1.c1
    have f1 := k1.fz 1
    rcases hR with ⟨hne, rfl⟩ | ⟨heq, g, rfl, hg, hbl⟩
    · go_wp2_with fail
      refine (wrapped_any _ _ _).mono ?_
      rintro e wn ⟨v, rfl, hv, hwn⟩
      subst wn
      obtain ⟨_, s, rfl⟩ := hv.resolve_left (fun h => hne h.1)
      have k2 := k1.set (.iface 219 (.agg #[.string s, .iface 55 (.int .i64 (rdE S k b))]))
      have d1 := k2.c1
      have T2 := Turns.cell w1 wb 1 (.iface 219 (.agg #[.string s, .iface 55 (.int .i64 (rdE S k b))]))
      have fin := DidR.zeros (D1.turns T2 (fun i hi e => hwF (e ▸ hi))) ((t1.mono (fun _ _ h => Or.inl h)).trans T2 (fun i _ e => Or.inr e)) k2 hv
      rw [show (w1.setCell ⟨wb, 1, none⟩ (.iface 219 (.agg #[.string s, .iface 55 (.int .i64 (rdE S k b))]))).heap.size = w1.heap.size by simp [World.setCell]] at fin
      go_wp2_with (at_make; (refine wpList_make_row _ rfl _ _ 39 rfl 5 i0 (.int .u8 0) Tryz.underlying39 hi hz0 hz1 rfl _ _ 512 rfl rfl (by rw [hz2]; omega) (by omega) ?_))
      go_ret
      refine ⟨_, rfl, ?_⟩
      unfold rkD
      rw [hr0, if_neg hne]
      exact fin
    · have hrd : rkD 0 S k b = rdB S b.toNat := by unfold rkD; rw [hr0, if_pos heq]
      go_wp2_with fail
      refine (wrapped_any _ _ _).mono ?_
      rintro e wn ⟨v, rfl, hv, hwn⟩
      subst wn
      obtain ⟨_, rfl⟩ := hv.resolve_right (fun h => h.1 rfl)
      have k2 := k1.set .nilIface
      have d1 := k2.c1
      go_wp2
      go_ret
      refine ⟨_, rfl, ?_⟩
      rw [hr0, heq, hrd]
      exact DidR.of D1 t1 ⟨_, k1⟩ (Or.inl ⟨rfl, rfl⟩) hwF hlt hg hbl
  · have hr0 : rkE e0 S k b = e0 := if_neg h0
    go_enter Tryz.func167, Tryz.ntmps167
    go_wp2_with (at_make; (refine wpList_make_row _ rfl _ _ 39 rfl 5 i0 (.int .u8 0) Tryz.underlying39 hi hz0 hz1 rfl _ _ 512 rfl rfl (by rw [hz2]; omega) (by omega) ?_))
    go_ret
    refine ⟨_, rfl, ?_⟩
    unfold rkD
    rw [hr0, if_neg h0]
    exact DidR.zeros hD (Turns.refl _ _) hW (Or.inr ⟨h0, s, rfl⟩)
end Go.Proofs.YtlcjkbhcbiggcaaGreatDoor

/- errors.Is at this dump, for the package's five sentinels: the same one is found, another one is not. -/
namespace Go.Proofs.YtlcjkbhcbiggcaaGreatDoor
open Go.RowKit Go.Extern.Stop Go.Stop Go.Extern Go.Extern.Rtype
set_option maxRecDepth 100000

theorem isTypeOf (v : Value) (w : World) : (Extern.ReflectliteType.typeOf #[.iface 319 v]).run Tryz.prog w = .ok (.iface 270 (.agg #[.pointer (some ⟨7, 319, none⟩)])) w := by kernel_rfl
def cmpFn : Array Value → Sem Value := Extern.ReflectliteType.method fun t => do noPackHeld "Comparable" t; pure (.bool (← typeInfo t).comparable)
theorem isComparable (w : World) : (cmpFn #[.agg #[.pointer (some ⟨7, 319, none⟩)]]).run Tryz.prog w = .ok (.bool true) w := by kernel_rfl
theorem isMethodComparable (v : Value) (w : World) : (Go.method 451 270 v "Comparable").run Tryz.prog w = .ok (297, v) w := by kernel_rfl
theorem isComp : (Tryz.prog.info? 319).map (·.comparable) = some true := by kernel_rfl
theorem isSize : (Tryz.prog.info? 339).map (·.size) = some 1 := by kernel_rfl
theorem noIsE (v : Value) (xT : TypeId) (w : World) : (Instr.typeAssert (.iface 319 v) xT 316 true).run Tryz.prog w = .ok (.tuple #[.nilIface, .bool false]) w := run_typeAssert_lacksB Tryz.underlying316 (by kernel_rfl) (by kernel_rfl) v xT w
theorem noUnwrapE (v : Value) (xT : TypeId) (w : World) : (Instr.typeAssert (.iface 319 v) xT 278 true).run Tryz.prog w = .ok (.tuple #[.nilIface, .bool false]) w := run_typeAssert_lacksB Tryz.underlying278 (by kernel_rfl) (by kernel_rfl) v xT w
theorem noUnwrapsE (v : Value) (xT : TypeId) (w : World) : (Instr.typeAssert (.iface 319 v) xT 280 true).run Tryz.prog w = .ok (.tuple #[.nilIface, .bool false]) w := run_typeAssert_lacksB Tryz.underlying280 (by kernel_rfl) (by kernel_rfl) v xT w

/-- errors.Is(x, x), x a pointer to an errors.errorString. -/
theorem is_same (a : Addr) (w : World) :
    Calls Tryz.prog 268 #[.iface 319 (.pointer (some a)), .iface 319 (.pointer (some a))] w fun e w' => e = .returned (.bool true) ∧ w' = w := by
  obtain ⟨i, hi, hcmp⟩ := Option.map_eq_some_iff.1 isComp
  obtain ⟨j, hj, hjs⟩ := Option.map_eq_some_iff.1 isSize
  have h8 := @run_callFunc_extern Tryz.prog 228 _ Extern.ReflectliteType.typeOf Tryz.func228 (by kernel_rfl) (by kernel_rfl) (by kernel_rfl) (by kernel_rfl)
  have h32 := @run_callFunc_extern Tryz.prog 297 _ cmpFn Tryz.func297 (by kernel_rfl) (by kernel_rfl) (by kernel_rfl) (by kernel_rfl)
  have tT := isTypeOf
  have cT := isComparable
  have mR := isMethodComparable
  have heq := run_eql_iface_ptr_same (P := Tryz.prog) w a Tryz.underlying125 Tryz.underlying319 hi hcmp hj
  go_enter Tryz.func268, Tryz.ntmps268
  go_wp2
  refine wp_loop_rounds 1 ?_
  rw [rounds_succ]
  go_wp2
  go_ret
  exact ⟨rfl, rfl⟩

/-- errors.Is(x, y), two different pointers to errors.errorString: neither has Is nor Unwrap: false. -/
theorem is_other (a b : Addr) (ca cb : Array Value) (ta tb : TypeId) (w : World) (hne : a ≠ b) (ha : w.heap[a.block]? = some (.cells ca ta (0, 0))) (hb : w.heap[b.block]? = some (.cells cb tb (0, 0))) :
    Calls Tryz.prog 268 #[.iface 319 (.pointer (some a)), .iface 319 (.pointer (some b))] w fun e w' => e = .returned (.bool false) ∧ w' = w := by
  obtain ⟨i, hi, hcmp⟩ := Option.map_eq_some_iff.1 isComp
  obtain ⟨j, hj, hjs⟩ := Option.map_eq_some_iff.1 isSize
  have h8 := @run_callFunc_extern Tryz.prog 228 _ Extern.ReflectliteType.typeOf Tryz.func228 (by kernel_rfl) (by kernel_rfl) (by kernel_rfl) (by kernel_rfl)
  have h32 := @run_callFunc_extern Tryz.prog 297 _ cmpFn Tryz.func297 (by kernel_rfl) (by kernel_rfl) (by kernel_rfl) (by kernel_rfl)
  have tT := isTypeOf
  have cT := isComparable
  have mR := isMethodComparable
  have nE := noIsE
  have uE := noUnwrapE
  have vE := noUnwrapsE
  have heq := run_eql_iface_ptr_other (P := Tryz.prog) w Tryz.underlying125 Tryz.underlying319 hi hcmp hj (by rw [hjs]; decide) hne ha hb
  go_enter Tryz.func268, Tryz.ntmps268
  go_wp2
  refine wp_loop_rounds 1 ?_
  rw [rounds_succ]
  go_wp2
  go_ret
  exact ⟨rfl, rfl⟩
end Go.Proofs.YtlcjkbhcbiggcaaGreatDoor
