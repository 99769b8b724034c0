/- Crash by its contract. -/
import Derived.Test.YtejfbjjhnhlagaaDI
namespace Go.Proofs.Ytejfbjjhnhlagaa
open Go.RowKit Go.Maps
open Go.MuLone
set_option maxRecDepth 100000

/-- The slice reads as these bools. -/
structure KLies (w : World) (ao : Option Addr) (n c : Nat) (ks : List Bool) : Prop where
  hlen : ks.length = n
  hle : n ≤ c
  hcells : ∀ j b, ks[j]? = some b → ∃ g o, ao = some ⟨g, o, none⟩ ∧ w.cell? ⟨g, o + j, none⟩ = some (.bool b)
theorem KLies.turns {F : Nat → Prop} {w w' : World} {ao : Option Addr} {n c : Nat} {ks : List Bool} (h : KLies w ao n c ks) (ht : Turns F w w') (hF : ∀ ad, ao = some ad → ¬ F ad.block) : KLies w' ao n c ks :=
  ⟨h.hlen, h.hle, fun j b hj => by
    obtain ⟨g, o, e, hc⟩ := h.hcells j b hj
    have hlt := World.block_lt_of_cell? w _ hc
    exact ⟨g, o, e, (World.cell?_of_block (w := w) (w' := w') (a := ⟨g, o + j, none⟩) (ht.block g hlt (hF _ e))).trans hc⟩⟩
theorem KLies.nil (w : World) : KLies w none 0 0 [] := ⟨rfl, Nat.le_refl _, fun j b h => by simp at h⟩
theorem kept_app : ∀ (ps : List (Nat × List Int)) (ks : List Bool) (p : Nat × List Int), kept (ps ++ [p]) ks = kept ps ks ++ (if ks[ps.length]? = some true then [p] else [])
  | [], [], p => by simp [kept]
  | [], k :: ks, p => by cases k <;> simp [kept]
  | q :: ps, [], p => by simp [kept]
  | q :: ps, k :: ks, p => by
    have := kept_app ps ks p
    cases k <;> simp [kept, this]
theorem kept_take (ps : List (Nat × List Int)) (ks : List Bool) (j : Nat) (p : Nat × List Int) (h : ps[j]? = some p) : kept (ps.take (j + 1)) ks = kept (ps.take j) ks ++ (if ks[j]? = some true then [p] else []) := by
  have hj := (List.getElem?_eq_some_iff.1 h).1
  rw [List.take_succ_eq_append_getElem hj, (List.getElem?_eq_some_iff.1 h).2, kept_app]
  simp [Nat.min_eq_left (Nat.le_of_lt hj)]
theorem lay_yes (l : List Int) (ps : List (Nat × List Int)) (ks : List Bool) (j : Nat) (p : Nat × List Int) (h : ps[j]? = some p) (hk : ks[j]? = some true) : layAll l (kept (ps.take (j + 1)) ks) = layB (layAll l (kept (ps.take j) ks)) p := by
  rw [kept_take ps ks j p h, if_pos hk]; simp [layAll]
theorem lay_no (l : List Int) (ps : List (Nat × List Int)) (ks : List Bool) (j : Nat) (p : Nat × List Int) (h : ps[j]? = some p) (hk : ¬ ks[j]? = some true) : layAll l (kept (ps.take (j + 1)) ks) = layAll l (kept (ps.take j) ks) := by
  rw [kept_take ps ks j p h, if_neg hk]; simp

set_option maxHeartbeats 4000000 in
theorem crash_any {w : World} {db : Nat} {S : DevS} {k N : Nat} {F : Nat → Prop} (h : Dev w db 0 S k N F) (ao : Option Addr) (m c : Nat) (ks : List Bool) (hK : KLies w ao m c ks) (hm : m ≤ 140737488355328) (hF : ∀ ad, ao = some ad → ¬ F ad.block) (hN : N ≤ 1099511627776) :
    Calls Try.prog 16 #[.pointer (some ⟨db, 0, none⟩), .slice ao m c] w fun e w' => e = .returned (.tuple #[]) ∧ Went w w' db (crashed S ks) k N F := by
  obtain ⟨gl, bm, q, pv, gs, Dm, h, f, hl⟩ := h
  obtain ⟨pa, pcp, hpv⟩ := row_slice h.row
  have hpn := h.pn
  obtain ⟨L, hL⟩ : ∃ L, S.pend.length = L := ⟨_, rfl⟩
  rw [hL] at hpv hpn
  have hLi : (L : Int) ≤ 1099511627776 := by omega
  have hmi : (m : Int) ≤ 140737488355328 := by omega
  have HL : Hid (S.pend.length = L) := hL
  clear hL
  subst hpv
  go_enter_defers Try.func16, Try.ntmps16
  go_wp2_with fail
  refine (lock_dev h).mono ?_
  rintro e w1 ⟨rfl, h1, t1⟩
  have hK1 := hK.turns t1 (fun ad had e => hF ad had (by rw [e]; exact f.f1))
  have c3 := h1.cells.2.2.1
  go_wp2_with fail
  go_loopw [18] (fun i wr => ∃ j : Nat, j ≤ L ∧ i = .int .i64 j ∧ DevX wr db 1 { S with last := layAll S.last (kept (S.pend.take j) ks) } k N gl bm q (.slice pa L pcp) gs Dm ∧ Turns (fun i => i = gl) w1 wr) (fun i _ => L - (intOf i).toNat)
  case atStart => exact ⟨0, Nat.zero_le _, rfl, by simpa [kept, layAll] using h1, Turns.refl _ _⟩
  case round =>
    obtain ⟨j, hj, rfl, hX, hT⟩ := hrel
    by_cases hlt : j < L
    · obtain ⟨pg, g, p, rfl, hp, hg, hpk, hpl, hpy, x0, x1, hgb⟩ := hX.pending (j := j) (by simp only; rw [HL.out]; exact hlt)
      have hKr := hK1.turns hT (fun ad had e => hF ad had (by rw [e]; exact f.f2))
      have hpj : S.pend[j]? = some p := hp
      obtain ⟨W, hW⟩ : ∃ W, wr.alloc (.cells #[.int .i64 p.1, .slice (some ⟨g, 0, none⟩) 512 512] 69) = W := ⟨_, rfl⟩
      have hbW : Below wr.heap.size wr W := by rw [← hW]; exact (Below.refl _ wr).alloc (Nat.le_refl _) _
      have y0 : W.cell? ⟨wr.heap.size, 0, none⟩ = some (.int .i64 p.1) := by rw [← hW]; simp
      have y1 : W.cell? ⟨wr.heap.size, 1, none⟩ = some (.slice (some ⟨g, 0, none⟩) 512 512) := by rw [← hW]; simp
      have hXW := hX.turns (Below.turns hbW (fun _ => False)) id id id (fun _ _ => id) (fun _ _ => id)
      have hgW : W.heap[g]? = some (bl p.2) := (hbW.block g (heap_lt hgb)).trans hgb
      have hTW : Turns (fun i => i = gl) w1 W := hT.trans (Below.turns hbW (fun i => i = gl)) (fun _ _ h => h)
      have hKW := hKr.turns (Below.turns hbW (fun _ => False)) (fun _ _ => id)
      by_cases hkj : ks[j]? = some true
      · have HE : Hid (layAll S.last (kept (S.pend.take (j + 1)) ks) = layB (layAll S.last (kept (S.pend.take j) ks)) p) := lay_yes S.last S.pend ks j p hpj hkj
        obtain ⟨kg, ko, rfl, hkc⟩ := hKW.hcells j true hkj
        have hjm : j < m := by rw [← hK.hlen]; exact (List.getElem?_eq_some_iff.1 hkj).1
        have hjmi : (j : Int) < m := by omega
        clear hX hp hg hgb hkj hpj hKr hKW
        obtain ⟨pb, pd⟩ := p
        simp only at hpk hpl hpy x0 y0 hgW hW
        go_wp2_with fail
        try rw [hW]
        refine (last_any hXW pb g pd hpk hgW hpl hpy).mono ?_
        rintro e w3 ⟨rfl, h3, t3⟩
        have hT3 : Turns (fun i => i = gl) w1 w3 := hTW.trans t3 (fun _ _ h => h)
        go_wp2_with fail
        go_roundw
        case rel => exact ⟨j + 1, by omega, by go_num, by rw [HE.out]; exact h3, hT3⟩
        case measure => simp [intOf]; omega
      · have HE : Hid (layAll S.last (kept (S.pend.take (j + 1)) ks) = layAll S.last (kept (S.pend.take j) ks)) := lay_no S.last S.pend ks j p hpj hkj
        by_cases hjm : j < m
        · have hkj2 : ks[j]? = some false := by
            have hlk : j < ks.length := by rw [hK.hlen]; exact hjm
            rw [List.getElem?_eq_getElem hlk] at hkj ⊢
            cases hb : ks[j] <;> simp_all
          obtain ⟨kg, ko, rfl, hkc⟩ := hKW.hcells j false hkj2
          have hjmi : (j : Int) < m := by omega
          clear hX hp hg hgb hkj hkj2 hpj hKr hKW
          go_wp2_with fail
          try rw [hW]
          go_roundw
          case rel => exact ⟨j + 1, by omega, by go_num, by rw [HE.out]; exact hXW, hTW⟩
          case measure => simp [intOf]; omega
        · have hjmi : ¬ (j : Int) < m := by omega
          clear hX hp hg hgb hkj hpj hKr hKW
          go_wp2_with fail
          try rw [hW]
          go_roundw
          case rel => exact ⟨j + 1, by omega, by go_num, by rw [HE.out]; exact hXW, hTW⟩
          case measure => simp [intOf]; omega
    · obtain rfl : j = L := by omega
      have e3 : S.pend.take j = S.pend := List.take_of_length_le (by rw [HL.out]; exact Nat.le_refl _)
      rw [e3] at hX
      clear e3
      go_wp2_with fail
      refine (forget_any hX hN).mono ?_
      rintro e w4 ⟨rfl, ⟨D', h4⟩, t4⟩
      have h5 := h4.db (S' := { last := layAll S.last (kept S.pend ks), pend := [], fuse := 0, off := S.off }) (st' := 1) 5 (.int .i64 0) ⟨rfl, rfl, Nat.zero_le _⟩ rfl
      have h6 : DevX ((w4.setCell ⟨db, 5, none⟩ (.int .i64 0)).setCell ⟨db, 6, none⟩ (.bool false)) db 1 (crashed S ks) k N gl bm q (.slice none 0 0) [] D' := h5.db 6 (.bool false) ⟨rfl, rfl, Nat.zero_le _⟩ rfl
      have t6 : Turns (fun i => i = db) w4 ((w4.setCell ⟨db, 5, none⟩ (.int .i64 0)).setCell ⟨db, 6, none⟩ (.bool false)) := (Turns.cell w4 db 5 _).trans (Turns.cell _ db 6 _) (fun _ _ h => h)
      obtain ⟨c0, c2, c3', c4, c5, c6, fz⟩ := h4.cells
      have f5 := fz 5
      have f6 := fz 6
      clear c0 c2 c3' c4 fz h5 h4
      go_wp2
      refine leaves_cons (f := 43) (args := #[.pointer (some ⟨db, 0, none⟩)]) (by simp) (by simp [go_sem]) ?_
      refine (unlock_dev .returning h6).mono ?_
      rintro e u' w7 ⟨rfl, rfl, h7, t7⟩
      refine ⟨_, results_none rfl _ _ _, ?_⟩
      refine ⟨rfl, Went.of h7 f hl ?_ rfl (Or.inl rfl) (fun x hx => by cases hx)⟩
      refine ((((t1.mono (G := F) (fun i _ e => by subst e; exact f.f1)).trans hT (fun i _ e => by subst e; exact f.f2)).trans t4 (fun i _ e => ?_)).trans t6 (fun i _ e => by subst e; exact f.f1)).trans t7 (fun i _ e => by subst e; exact f.f1)
      rcases e with e | e
      · subst e; exact f.f1
      · subst e; exact f.f3
end Go.Proofs.Ytejfbjjhnhlagaa
