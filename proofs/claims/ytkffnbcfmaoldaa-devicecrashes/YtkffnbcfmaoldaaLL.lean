/- annexlaw5.DeviceCrashes by its walk. -/
import Derived.Test.YtkffnbcfmaoldaaLJ
namespace Go.Proofs.Ytkffnbcfmaoldaa
open Go.RowKit Go.Maps
open Go.MuLone
set_option maxRecDepth 100000

set_option maxHeartbeats 4000000 in
theorem crash_gen {w : World} {db : Nat} {S : DevS} {k N : Nat} {F : Nat → Prop} (h : Dev w db 0 S k N F) (ao : Option Addr) (m c : Nat) (ks : List Bool) (hK : ∀ W, Turns F w W → KLies W ao m c ks) (hlen : ks.length = m) (hm : m ≤ 140737488355328) (hN : N ≤ 1099511627776) :
    Calls Try.prog 16 #[.pointer (some ⟨db, 0, none⟩), .slice ao m c] w fun e w' => e = .returned (.tuple #[]) ∧ Went w w' db (crashed S ks) k N F := by
  obtain ⟨gl, bm, q, pv, gs, Dm, h, f, hl⟩ := h
  obtain ⟨pa, pcp, hpv⟩ := row_slice h.row
  have hpn := h.pn
  obtain ⟨L, hL⟩ : ∃ L, S.pend.length = L := ⟨_, rfl⟩
  rw [hL] at hpv hpn
  have hLi : (L : Int) ≤ 1099511627776 := by omega
  have hmi : (m : Int) ≤ 140737488355328 := by omega
  have HL : Hid (S.pend.length = L) := hL
  clear hL
  subst hpv
  go_enter_defers Try.func16, Try.ntmps16
  go_wp2_with fail
  refine (lock_dev h).mono ?_
  rintro e w1 ⟨rfl, h1, t1⟩
  have tF1 : Turns F w w1 := t1.mono (fun i _ e => by subst e; exact f.f1)
  have c3 := h1.cells.2.2.1
  go_wp2_with fail
  go_loopw [18] (fun i wr => ∃ j : Nat, j ≤ L ∧ i = .int .i64 j ∧ DevX wr db 1 { S with last := layAll S.last (kept (S.pend.take j) ks) } k N gl bm q (.slice pa L pcp) gs Dm ∧ Turns (fun i => i = gl) w1 wr) (fun i _ => L - (intOf i).toNat)
  case atStart => exact ⟨0, Nat.zero_le _, rfl, by simpa [kept, layAll] using h1, Turns.refl _ _⟩
  case round =>
    obtain ⟨j, hj, rfl, hX, hT⟩ := hrel
    by_cases hlt : j < L
    · obtain ⟨pg, g, p, rfl, hp, hg, hpk, hpl, hpy, x0, x1, hgb⟩ := hX.pending (j := j) (by simp only; rw [HL.out]; exact hlt)
      have hpj : S.pend[j]? = some p := hp
      obtain ⟨W, hW⟩ : ∃ W, wr.alloc (.cells #[.int .i64 p.1, .slice (some ⟨g, 0, none⟩) 512 512] 51) = W := ⟨_, rfl⟩
      have hbW : Below wr.heap.size wr W := by rw [← hW]; exact (Below.refl _ wr).alloc (Nat.le_refl _) _
      have y0 : W.cell? ⟨wr.heap.size, 0, none⟩ = some (.int .i64 p.1) := by rw [← hW]; simp
      have y1 : W.cell? ⟨wr.heap.size, 1, none⟩ = some (.slice (some ⟨g, 0, none⟩) 512 512) := by rw [← hW]; simp
      have hXW := hX.turns (Below.turns hbW (fun _ => False)) id id id (fun _ _ => id) (fun _ _ => id)
      have hgW : W.heap[g]? = some (bl p.2) := (hbW.block g (heap_lt hgb)).trans hgb
      have hTW : Turns (fun i => i = gl) w1 W := hT.trans (Below.turns hbW (fun i => i = gl)) (fun _ _ h => h)
      have hKW := hK W (tF1.trans hTW (fun i _ e => by subst e; exact f.f2))
      by_cases hkj : ks[j]? = some true
      · have HE : Hid (layAll S.last (kept (S.pend.take (j + 1)) ks) = layB (layAll S.last (kept (S.pend.take j) ks)) p) := lay_yes S.last S.pend ks j p hpj hkj
        obtain ⟨kg, ko, rfl, hkc⟩ := hKW.hcells j true hkj
        have hjm : j < m := by rw [← hlen]; exact (List.getElem?_eq_some_iff.1 hkj).1
        have hjmi : (j : Int) < m := by omega
        clear hX hp hg hgb hkj hpj hKW
        obtain ⟨pb, pd⟩ := p
        simp only at hpk hpl hpy x0 y0 hgW hW
        go_wp2_with fail
        try rw [hW]
        refine (last_any hXW pb g pd hpk hgW hpl hpy).mono ?_
        rintro e w3 ⟨rfl, h3, t3⟩
        have hT3 : Turns (fun i => i = gl) w1 w3 := hTW.trans t3 (fun _ _ h => h)
        go_wp2_with fail
        go_roundw
        case rel => exact ⟨j + 1, by omega, by go_num, by rw [HE.out]; exact h3, hT3⟩
        case measure => simp [intOf]; omega
      · have HE : Hid (layAll S.last (kept (S.pend.take (j + 1)) ks) = layAll S.last (kept (S.pend.take j) ks)) := lay_no S.last S.pend ks j p hpj hkj
        by_cases hjm : j < m
        · have hkj2 : ks[j]? = some false := by
            have hlk : j < ks.length := by rw [hlen]; exact hjm
            rw [List.getElem?_eq_getElem hlk] at hkj ⊢
            cases hb : ks[j] <;> simp_all
          obtain ⟨kg, ko, rfl, hkc⟩ := hKW.hcells j false hkj2
          have hjmi : (j : Int) < m := by omega
          clear hX hp hg hgb hkj hkj2 hpj hKW
          go_wp2_with fail
          try rw [hW]
          go_roundw
          case rel => exact ⟨j + 1, by omega, by go_num, by rw [HE.out]; exact hXW, hTW⟩
          case measure => simp [intOf]; omega
        · have hjmi : ¬ (j : Int) < m := by omega
          clear hX hp hg hgb hkj hpj hKW
          go_wp2_with fail
          try rw [hW]
          go_roundw
          case rel => exact ⟨j + 1, by omega, by go_num, by rw [HE.out]; exact hXW, hTW⟩
          case measure => simp [intOf]; omega
    · obtain rfl : j = L := by omega
      have e3 : S.pend.take j = S.pend := List.take_of_length_le (by rw [HL.out]; exact Nat.le_refl _)
      rw [e3] at hX
      clear e3
      go_wp2_with fail
      refine (forget_any hX hN).mono ?_
      rintro e w4 ⟨rfl, ⟨D', h4⟩, t4⟩
      have h5 := h4.db (S' := { last := layAll S.last (kept S.pend ks), pend := [], fuse := 0, off := S.off }) (st' := 1) 5 (.int .i64 0) ⟨rfl, rfl, Nat.zero_le _⟩ rfl
      have h6 : DevX ((w4.setCell ⟨db, 5, none⟩ (.int .i64 0)).setCell ⟨db, 6, none⟩ (.bool false)) db 1 (crashed S ks) k N gl bm q (.slice none 0 0) [] D' := h5.db 6 (.bool false) ⟨rfl, rfl, Nat.zero_le _⟩ rfl
      have t6 : Turns (fun i => i = db) w4 ((w4.setCell ⟨db, 5, none⟩ (.int .i64 0)).setCell ⟨db, 6, none⟩ (.bool false)) := (Turns.cell w4 db 5 _).trans (Turns.cell _ db 6 _) (fun _ _ h => h)
      obtain ⟨c0, c2, c3', c4, c5, c6, fz⟩ := h4.cells
      have f5 := fz 5
      have f6 := fz 6
      clear c0 c2 c3' c4 fz h5 h4
      go_wp2
      refine leaves_cons (f := 34) (args := #[.pointer (some ⟨db, 0, none⟩)]) (by simp) (by simp [go_sem]) ?_
      refine (unlock_dev .returning h6).mono ?_
      rintro e u' w7 ⟨rfl, rfl, h7, t7⟩
      refine ⟨_, results_none rfl _ _ _, ?_⟩
      refine ⟨rfl, Went.of h7 f hl ?_ rfl (Or.inl rfl) (fun x hx => by cases hx)⟩
      refine ((((t1.mono (G := F) (fun i _ e => by subst e; exact f.f1)).trans hT (fun i _ e => by subst e; exact f.f2)).trans t4 (fun i _ e => ?_)).trans t6 (fun i _ e => by subst e; exact f.f1)).trans t7 (fun i _ e => by subst e; exact f.f1)
      rcases e with e | e
      · subst e; exact f.f1
      · subst e; exact f.f3
theorem KLies.any {w0 w : World} {ao : Option Addr} {n c : Nat} {ks : List Bool} (h : KLies w0 ao n c ks) (hb : Below w0.heap.size w0 w) : KLies w ao n c ks := h.below hb (Nat.le_refl _)

theorem splice_step (l d : List Int) (o t : Nat) (x : Int) (ht : d[t]? = some x) (hl : o + d.length ≤ l.length) : (splice l o (d.take t)).set (o + t) x = splice l o (d.take (t + 1)) := by
  have htl := (List.getElem?_eq_some_iff.1 ht).1
  have htx := (List.getElem?_eq_some_iff.1 ht).2
  unfold splice
  rw [List.take_succ_eq_append_getElem htl, htx]
  have e1 : (d.take t).length = t := by simp; omega
  have e2 : l.drop (o + (d.take t).length) = l[o + t]'(by omega) :: l.drop (o + t + 1) := by
    rw [e1, List.drop_eq_getElem_cons]
  rw [e2]
  have e3 : (l.take o).length = o := by simp; omega
  have e4 : (d.take t ++ [x]).length = t + 1 := by simp; omega
  rw [List.set_append_right _ _ (by omega), e3, show o + t - o = t by omega, List.set_append_right _ _ (by omega), e1, Nat.sub_self, List.set_cons_zero, e4]
  simp [Nat.add_assoc]
theorem kept_end (ps : List (Nat × List Int)) (ks : List Bool) (j : Nat) (h : ps.length ≤ j ∨ ks.length ≤ j) : kept (ps.take j) ks = kept ps ks := by
  induction ps generalizing ks j with
  | nil => simp
  | cons p ps ih =>
    cases j with
    | zero =>
      rcases h with h | h
      · simp at h
      · have : ks = [] := List.eq_nil_of_length_eq_zero (by omega)
        subst this
        simp [kept]
    | succ j =>
      cases ks with
      | nil => simp [kept]
      | cons q ks =>
        have := ih ks j (by simpa using h)
        simp [kept, this]

set_option maxHeartbeats 16000000 in
theorem crashes_any (n : Int) (ao : Option Addr) (m c : Nat) (ws : List Stp) (ao2 : Option Addr) (m2 c2 : Nat) (ks : List Bool) (w : World) (_hn : -9223372036854775808 ≤ n ∧ n ≤ 9223372036854775807) (hm : m ≤ 140737488351232) (hL : WLies w ao m c ws) (hm2 : m2 ≤ 140737488351232) (hK : KLies w ao2 m2 c2 ks) :
    Calls Try.prog 5 #[.int .i64 n, .slice ao m c, .slice ao2 m2 c2] w fun e w' => e = .returned (.bool true) ∧ Below w.heap.size w w' := by
  have hmi : (m : Int) ≤ 140737488351232 := by omega
  have hmi2 : (m2 : Int) ≤ 140737488351232 := by omega
  have hwl := hL.hlen
  have hwl2 := hK.hlen
  have hk1 := (sizeN_bd n).1
  have hk2 := (sizeN_bd n).2.1
  go_enter Try.func5, Try.ntmps5
  go_wp2_with fail
  refine (known_any _).mono ?_
  rintro e w1 ⟨rfl, B1⟩
  go_wp2_with fail
  refine (size_law n _).mono ?_
  rintro e wn ⟨rfl, hwn⟩
  subst wn
  generalize sizeN n = k at *
  have hki : (k : Int) ≤ 64 := by omega
  have hki1 : (1 : Int) ≤ k := by omega
  go_wp2_with fail
  refine (new_good k _ hk1 (by omega)).mono ?_
  rintro e w2 ⟨d, rfl, Dd, b2⟩
  have h2 := On.new B1 Dd b2
  clear Dd b2
  generalize grow (fun _ => False) w1 w2 = F at *
  have hT0 : (fresh (List.replicate (512 * k) 0)).fuse = 0 ∧ (fresh (List.replicate (512 * k) 0)).off = false := ⟨rfl, rfl⟩
  generalize fresh (List.replicate (512 * k) 0) = T0 at *
  go_wp2_with fail
  go_loopw [9] (fun i wr => ∃ (j : Nat) (S : DevS) (N : Nat) (F : Nat → Prop), j ≤ 400 ∧ j ≤ m ∧ i = .int .i64 j ∧ On w wr d S k N F ∧ S.fuse = 0 ∧ S.off = false ∧ N ≤ j) (fun i _ => 400 - (intOf i).toNat)
  case atStart => exact ⟨0, T0, 0, F, Nat.zero_le _, Nat.zero_le _, rfl, h2, hT0.1, hT0.2, Nat.zero_le _⟩
  case round =>
    clear h2 hT0
    obtain ⟨j, S, N, F, hj, hjm, rfl, h, hSf, hSo, hN⟩ := hrel
    by_cases hlt : j < m ∧ j < 400
    · obtain ⟨hlt1, hlt2⟩ := hlt
      have hji : (j : Int) < m := by omega
      have hji2 : (j : Int) < 400 := by omega
      obtain ⟨s, hs⟩ : ∃ s, ws[j]? = some s := ⟨_, List.getElem?_eq_getElem (by omega)⟩
      obtain ⟨hsx, g, o, hao, p0, p1, p2⟩ := hL.hcells j s hs
      subst hao
      have hglt : g < w.heap.size := World.block_lt_of_cell? _ _ p1
      have hpl := (placeN_bd s.b k hk1).1
      obtain ⟨sb, sx, sf⟩ := s
      simp only at hsx p0 p1 p2 hpl
      have r0 := (h.B.cell (p := ⟨g, o + j * 3, none⟩) hglt).trans p0
      have r1 := (h.B.cell (p := ⟨g, o + j * 3 + 1, none⟩) hglt).trans p1
      have r2 := (h.B.cell (p := ⟨g, o + j * 3 + 2, none⟩) hglt).trans p2
      clear hs
      cases sf with
      | true =>
        go_wp2_with fail
        refine (flush_on h.D hSf hSo (by omega)).mono ?_
        rintro e w5 ⟨rfl, D5, t5⟩
        have h5 := h.went ⟨D5, t5⟩
        clear h D5 t5 r0 r1 r2
        go_wp2_with fail
        go_roundw
        case rel => exact ⟨j + 1, flushed S, _, _, by omega, by omega, by go_num, h5, hSf, hSo, by omega⟩
        case measure => simp [intOf]; omega
      | false =>
        have hfl := fun (W : World) (hW : W.heap = wr.heap) => full_on (w := W) (F := F) (by rw [hW]; exact h.D.lt) sx
        have HFL : Hid _ := hfl
        have HWR : Hid (∀ (w5 w6 : World) (g5 : Nat), Out w5 F g5 (List.replicate 512 sx) → Below wr.heap.size wr w5 → w6.heap = w5.heap → w6.os = w5.os → w6.tape = w5.tape → w6.output = w5.output →
            Calls Try.prog 13 #[.pointer (some ⟨d, 0, none⟩), .int .i64 (placeN sb k), .slice (some ⟨g5, 0, none⟩) 512 512] w6 fun e w' => e = .returned (.int .i64 0) ∧ On w w' d (wrote S (placeN sb k) (List.replicate 512 sx)) k (N + 1) (grow F w6 w')) := fun w5 w6 g5 o5 b5 e1 e2 e3 e4 => by
          have b6 : Below wr.heap.size wr w6 := ⟨e2.trans b5.os, e3.trans b5.tape, e4.trans b5.output, by rw [e1]; exact b5.size, fun i hi => by rw [e1]; exact b5.block i hi⟩
          have h6 := h.below b6
          refine (write_on h6.D hSf hSo (placeN sb k) hpl g5 _ ⟨by rw [e1]; exact o5.blk, o5.out⟩ (by simp) (fullD sx hsx) (by omega)).mono ?_
          rintro e w7 ⟨rfl, D7, t7⟩
          exact ⟨rfl, h6.went ⟨D7, t7⟩⟩
        have HB : Hid (Below w.heap.size w wr) := h.B
        clear h hfl
        go_wp2_with fail
        go_region_held3 (fun w' => w'.cell? ⟨g, o + j * 3, none⟩ = some (.int .i64 sb) ∧ w'.cell? ⟨g, o + j * 3 + 1, none⟩ = some (.int .u8 sx))
          (first | exact ⟨r0, r1⟩ | exact ⟨y0, y1⟩ | exact ⟨z0, z1⟩)
          (first
            | (go_at_call 12; refine (place_law _ k hk1 (by omega) _).mono ?_; rintro e wn ⟨rfl, hwn⟩; subst wn)
            | (go_at_call 14; refine (HFL.out wr.drew rfl).mono ?_; rintro e w5 ⟨g5, rfl, o5, b5, _⟩; have b5 : Below wr.heap.size wr w5 := ⟨b5.os, b5.tape, b5.output, b5.size, b5.block⟩; have bb5 := HB.out.trans (b5.mono HB.out.size); have y0 := (bb5.cell (p := ⟨g, o + j * 3, none⟩) hglt).trans p0; have y1 := (bb5.cell (p := ⟨g, o + j * 3 + 1, none⟩) hglt).trans p1)
            | (go_at_call 13; refine (HWR.out w5 w5 g5 o5 b5 rfl rfl rfl rfl).mono ?_; rintro e w6 ⟨rfl, h6⟩; have z0 := (h6.B.cell (p := ⟨g, o + j * 3, none⟩) hglt).trans p0; have z1 := (h6.B.cell (p := ⟨g, o + j * 3 + 1, none⟩) hglt).trans p1))
        all_goals (
          go_wp2_with fail
          go_roundw
          case rel => exact ⟨j + 1, wrote S (placeN sb k) (List.replicate 512 sx), _, _, by omega, by omega, by go_num, h6, hSf, hSo, by omega⟩
          case measure => simp [intOf]; omega)
    · have hlen := h.D.good.len
      have hgood := h.D.good
      have hpn := h.pn
      clear hL
      by_cases hjm2 : (j : Int) < m
      all_goals (
        try (have hj3 : ¬ (j : Int) < 400 := by omega)
        go_wp2_with fail
        have hs0 := h.B.size
        refine (durable_on h.D).mono ?_
        rintro e w5 ⟨gw, rfl, o5, D5, t5, hg5⟩
        have h5 := h.same ⟨D5, t5⟩
        clear h D5 t5
        go_wp2_with fail
        refine (pending_any h5.D (by omega)).mono ?_
        rintro e w6 ⟨⟨P, gs, rfl, lP, hP1, hP2⟩, q6⟩
        have h6 := h5.same q6
        have o6 := o5.same q6.2
        have hgw5 := heap_lt o5.blk
        have hFP : ¬ F P := fun q => by have := h5.D.lt _ q; omega
        have hFg : ∀ g ∈ gs, ¬ F g := fun g hg q => by have := h5.D.lt _ q; have := hP2 g hg; omega
        have hPw : P ≠ gw := by omega
        have hgw : ∀ g ∈ gs, g ≠ gw := fun g hg e => by have := hP2 g hg; omega
        clear h5 o5 q6
        obtain ⟨L, hL⟩ : ∃ L, S.pend.length = L := ⟨_, rfl⟩
        have hLi : (L : Int) ≤ 400 := by omega
        have HL : Hid (S.pend.length = L) := hL
        rw [hL]
        clear hL
        have HC : Hid (∀ i, i < L → ∃ p g, S.pend[i]? = some p ∧ gs[i]? = some g ∧ p.1 < k ∧ p.2.length = 512 ∧ (pc S.pend gs)[i * 2]? = some (.int .i64 p.1) ∧ (pc S.pend gs)[i * 2 + 1]? = some (hv g)) := fun i hi => by
          have hp : S.pend[i]? = some (S.pend[i]'(by rw [HL.out]; exact hi)) := List.getElem?_eq_getElem _
          have hg : gs[i]? = some (gs[i]'(by rw [lP.len, HL.out]; exact hi)) := List.getElem?_eq_getElem _
          obtain ⟨e1, e2⟩ := pc_at _ _ i _ _ hp hg
          have hpm := hgood.pend _ (List.mem_of_getElem? hp)
          exact ⟨_, _, hp, hg, hpm.1, hpm.2.1, e1, e2⟩
        have hmul : ((512 * (k : Int)) != (k : Int) * 512) = false := by simp; omega
        go_wp2_with fail
        go_loopw [12] (fun i wr => ∃ t : Nat, t ≤ L ∧ i = .int .i64 t ∧ wr = w6) (fun i _ => L - (intOf i).toNat)
        case atStart => exact ⟨0, Nat.zero_le _, rfl, rfl⟩
        case round =>
          obtain ⟨t, ht, rfl, hwr⟩ := hrel
          subst wr
          by_cases hlt : t < L
          · have hti : (t : Int) < L := by omega
            obtain ⟨p, g, hp, hg, hpk, hpl, e1, e2⟩ := HC.out t hlt
            have x0 : w6.cell? ⟨P, t * 2, none⟩ = some (.int .i64 p.1) := by simp only [World.cell?, lP.row]; simpa using e1
            have x1 : w6.cell? ⟨P, t * 2 + 1, none⟩ = some (hv g) := by simp only [World.cell?, lP.row]; simpa using e2
            have hpi : (p.1 : Int) < k := by omega
            clear hp hg e1 e2 hpl
            generalize p.1 = pb at *
            go_wp2_with fail
            go_roundw
            case rel => exact ⟨t + 1, by omega, by go_num, by trivial⟩
            case measure => simp [intOf]; omega
          · have hti : ¬ (t : Int) < L := by omega
            go_wp2_with fail
            refine (crash_gen h6.D ao2 m2 c2 ks (fun W tW => hK.any (h6.B.trans (tW.below h6.hF h6.B.size))) hwl2 (by omega) (by omega)).mono ?_
            rintro e w7 ⟨rfl, q7⟩
            have h7 := h6.went q7
            have o7 := o6.went q7.2
            have l7 := lP.turns q7.2 hFP hFg
            have h7o : ¬ grow F w6 w7 gw := o7.out
            generalize hF7 : grow F w6 w7 = F7 at *
            have hP7 : P < w7.heap.size := heap_lt l7.row
            have hgwB : w.heap.size ≤ gw := Nat.le_trans hs0 hg5
            clear h6 o6 lP q7 hF7 hFP hFg hP1 hP2 hg5 hgw5
            have hlast7 : (crashed S ks).last = layAll S.last (kept S.pend ks) := rfl
            have hpend7 : (crashed S ks).pend = [] := rfl
            have hoff7 : (crashed S ks).off = false := rfl
            go_wp2_with fail
            go_loopw [13] (fun i wr => ∃ (t : Nat) (bs : List Int), t ≤ L ∧ i = .int .i64 t ∧ bs = layAll S.last (kept (S.pend.take t) ks) ∧ wr.heap[gw]? = some (bl bs) ∧ Turns (fun i => i = gw) w7 wr) (fun i _ => L - (intOf i).toNat)
            case atStart => exact ⟨0, _, Nat.zero_le _, rfl, by simp [kept, layAll], o7.blk, Turns.refl _ _⟩
            case round =>
              obtain ⟨t, bs, ht, rfl, hbs, hwB, hT⟩ := hrel
              obtain ⟨wb, hwb⟩ : ∃ wb, wb = wr := ⟨wr, rfl⟩
              subst hwb
              have hbl : bs.length = 512 * k := by
                rw [hbs]
                exact (layAll_good _ _ hlen hgood.by_ (fun p hp => hgood.pend p (List.mem_of_mem_take (kept_mem hp)))).1
              have hB7 : Below w.heap.size w wb := h7.B.trans (hT.below (fun i e => by omega) h7.B.size)
              by_cases hc : t < L ∧ t < m2
              · obtain ⟨hc1, hc2⟩ := hc
                have hci1 : (t : Int) < L := by omega
                have hci2 : (t : Int) < m2 := by omega
                obtain ⟨p, g, hp, hg, hpk, hpl, e1, e2⟩ := HC.out t hc1
                have hgm := List.mem_of_getElem? hg
                have lr := l7.turns hT hPw hgw
                obtain ⟨kb, hkb⟩ : ∃ b, ks[t]? = some b := ⟨_, List.getElem?_eq_getElem (by omega)⟩
                obtain ⟨kg, ko, rfl, hkc⟩ := (hK.any hB7).hcells t kb hkb
                have HST : Hid (∀ (W : World), Turns (fun i => i = gw) wb W → W.cell? ⟨P, t * 2, none⟩ = some (.int .i64 p.1) ∧ W.cell? ⟨P, t * 2 + 1, none⟩ = some (hv g) ∧ W.heap[g]? = some (bl p.2) ∧ W.cell? ⟨kg, ko + t, none⟩ = some (.bool kb)) := fun W hW => by
                  have lW := lr.turns hW hPw hgw
                  refine ⟨?_, ?_, lW.dat t p g hp hg, ?_⟩
                  · simp only [World.cell?, lW.row]; simpa using e1
                  · simp only [World.cell?, lW.row]; simpa using e2
                  · have hbW : Below w.heap.size w W := hB7.trans (hW.below (fun i e => by omega) hB7.size)
                    obtain ⟨kg', ko', e, h⟩ := (hK.any hbW).hcells t kb hkb
                    cases e
                    exact h
                have HE1 : Hid (kb = true → layAll S.last (kept (S.pend.take (t + 1)) ks) = splice bs (512 * p.1) p.2) := fun e => by
                  rw [lay_yes S.last S.pend ks t p hp (by rw [hkb, e]), ← hbs]; rfl
                have HE0 : Hid (kb = false → layAll S.last (kept (S.pend.take (t + 1)) ks) = bs) := fun e => by
                  rw [lay_no S.last S.pend ks t p hp (by rw [hkb, e]; simp), ← hbs]
                have HSP : Hid (∀ u x, p.2[u]? = some x → (splice bs (512 * p.1) (p.2.take u)).set (512 * p.1 + u) x = splice bs (512 * p.1) (p.2.take (u + 1))) := fun u x hx => splice_step bs p.2 (512 * p.1) u x hx (by omega)
                have HSL : Hid (∀ u, (splice bs (512 * p.1) (p.2.take u)).length = 512 * k) := fun u => by
                  rw [length_splice _ _ _ (by simp; omega), hbl]
                have hs00 : splice bs (512 * p.1) (p.2.take 0) = bs := by simp [splice]
                have HS0 : Hid (splice bs (512 * p.1) (p.2.take 0) = bs) := hs00
                have hs55 : splice bs (512 * p.1) (p.2.take 512) = splice bs (512 * p.1) p.2 := by rw [List.take_of_length_le (by omega)]
                have HS5 : Hid (splice bs (512 * p.1) (p.2.take 512) = splice bs (512 * p.1) p.2) := hs55
                have HGN : Hid (g ≠ gw) := hgw g hgm
                clear hp hg e1 e2 hkb hbs lr hgm hs00 hs55
                obtain ⟨pb, pd⟩ := p
                simp only at hpk hpl HST HE1 HE0 HSP HSL HS0 HS5
                have hpki : (pb : Int) < k := by omega
                have hx0 := (HST.out wb (Turns.refl _ _)).2.2.2
                go_wp2_with fail
                go_loopw [14] (fun i wr => ∃ u : Nat, u ≤ 512 ∧ i = .int .i64 u ∧ (kb = false → u = 0) ∧ wr.heap[gw]? = some (bl (splice bs (512 * pb) (pd.take u))) ∧ Turns (fun i => i = gw) wb wr) (fun i _ => 512 - (intOf i).toNat)
                case atStart => exact ⟨0, Nat.zero_le _, rfl, fun _ => rfl, by rw [HS0.out]; exact hwB, Turns.refl _ _⟩
                case round =>
                  obtain ⟨u, hu, rfl, hu0, hwQ, hTQ⟩ := hrel
                  obtain ⟨y0, y1, y2, y3⟩ := HST.out _ hTQ
                  by_cases hcu : u < 512 ∧ kb = true
                  · obtain ⟨hcu1, rfl⟩ := hcu
                    have hui : (u : Int) < 512 := by omega
                    obtain ⟨x, hx⟩ : ∃ x, pd[u]? = some x := ⟨_, List.getElem?_eq_getElem (by omega)⟩
                    have y4 : wr.cell? ⟨g, u, none⟩ = some (.int .u8 x) := by simp only [World.cell?, y2]; simp [hx]
                    have hsl := HSL.out u
                    obtain ⟨v, hv⟩ : ∃ v, ((splice bs (512 * pb) (pd.take u)).map (Value.int .u8)).toArray[512 * pb + u]? = some v := ⟨_, Array.getElem?_eq_getElem (by simp [hsl]; omega)⟩
                    have y5 : wr.cell? ⟨gw, 512 * pb + u, none⟩ = some v := by simp only [World.cell?, hwQ]; exact hv
                    have f5 : wr.frozen? ⟨gw, 512 * pb + u, none⟩ = false := by simp [World.frozen?, hwQ]
                    have HN : Hid ((wr.setCell ⟨gw, 512 * pb + u, none⟩ (.int .u8 x)).heap[gw]? = some (bl (splice bs (512 * pb) (pd.take (u + 1))))) := by
                      have q := heap_setCell_same _ gw (512 * pb + u) _ _ (.int .u8 x) hwQ
                      have q2 : (splice bs (512 * pb) (pd.take (u + 1))) = (splice bs (512 * pb) (pd.take u)).set (512 * pb + u) x := (HSP.out u x hx).symm
                      rw [q2]
                      refine Eq.trans q ?_
                      simp
                    have hTQ2 : Turns (fun i => i = gw) wb (wr.setCell ⟨gw, 512 * pb + u, none⟩ (.int .u8 x)) := hTQ.trans (Turns.cell wr gw _ _) (fun _ _ h => h)
                    clear hwQ hv hsl y2 hx
                    have hw1 : IntKind.i64.wrap (512 * (pb : Int)) = 512 * (pb : Int) := by rw [IntKind.wrap_i64]; omega
                    have hw2 : IntKind.i64.wrap (512 * (pb : Int) + u) = 512 * (pb : Int) + u := by rw [IntKind.wrap_i64]; omega
                    have hw3 : (512 * (pb : Int) + u) < 512 * (k : Int) := by omega
                    have hw4 : (512 * (pb : Int) + u).toNat = 512 * pb + u := by omega
                    have hw5 : ¬ (512 * (pb : Int) + u < 0) := by omega
                    have hw6 : ¬ (512 * (k : Int) ≤ 512 * (pb : Int) + u) := by omega
                    have hw7 : (0 : Int) ≤ 512 * (pb : Int) + u := by omega
                    have hw8 : (512 * (pb : Int) + u) < ((512 * k : Nat) : Int) := by omega
                    have z0 : (wr.setCell ⟨gw, 512 * pb + u, none⟩ (.int .u8 x)).cell? ⟨P, t * 2, none⟩ = some (.int .i64 pb) := (World.cell?_setCell_other _ _ _ _ (by first | (simp; done) | (simp; omega))).trans y0
                    have z1 : (wr.setCell ⟨gw, 512 * pb + u, none⟩ (.int .u8 x)).cell? ⟨P, t * 2 + 1, none⟩ = some (hv g) := (World.cell?_setCell_other _ _ _ _ (by first | (simp; done) | (simp; omega))).trans y1
                    have hgne : g ≠ gw := HGN.out
                    have z4 : (wr.setCell ⟨gw, 512 * pb + u, none⟩ (.int .u8 x)).cell? ⟨g, u, none⟩ = some (.int .u8 x) := (World.cell?_setCell_other _ _ _ _ (by first | (simp; done) | (simp; omega))).trans y4
                    go_wp2_with fail
                    go_region_held3 (fun w' => w'.cell? ⟨P, t * 2, none⟩ = some (.int .i64 pb) ∧ w'.cell? ⟨P, t * 2 + 1, none⟩ = some (hv g) ∧ w'.cell? ⟨g, u, none⟩ = some (.int .u8 x))
                      (first | exact ⟨y0, y1, y4⟩ | exact ⟨z0, z1, z4⟩)
                      (fail)
                    all_goals (
                      go_wp2_with fail
                      go_roundw
                      case rel => exact ⟨u + 1, by omega, by go_num, (fun e => by cases e), HN.out, ⟨hTQ2.os, hTQ2.tape, hTQ2.output, hTQ2.size, hTQ2.block⟩⟩
                      case measure => simp [intOf]; omega)
                  · have hfin : splice bs (512 * pb) (pd.take u) = layAll S.last (kept (S.pend.take (t + 1)) ks) := by
                      cases kb with
                      | true =>
                        obtain rfl : u = 512 := by
                          rcases Nat.lt_or_ge u 512 with q | q
                          · exact absurd ⟨q, rfl⟩ hcu
                          · omega
                        rw [HE1.out rfl]; exact HS5.out
                      | false =>
                        obtain rfl := hu0 rfl
                        rw [HE0.out rfl]; exact HS0.out
                    have HN : Hid (_ = some (bl (layAll S.last (kept (S.pend.take (t + 1)) ks)))) := hfin ▸ hwQ
                    have hT2 : Turns (fun i => i = gw) w7 _ := hT.trans hTQ (fun _ _ h => h)
                    clear hwQ hfin y2
                    cases kb with
                    | true =>
                      have hui : ¬ (u : Int) < 512 := by
                        intro q
                        exact hcu ⟨by omega, rfl⟩
                      go_wp2_with fail
                      go_roundw
                      case rel => exact ⟨t + 1, _, by omega, by go_num, rfl, HN.out, hT2⟩
                      case measure => simp [intOf]; omega
                    | false =>
                      obtain rfl := hu0 rfl
                      go_wp2_with fail
                      go_roundw
                      case rel => exact ⟨t + 1, _, by omega, by go_num, rfl, HN.out, hT2⟩
                      case measure => simp [intOf]; omega
              · have hfin : bs = (crashed S ks).last := by
                  rw [hbs, hlast7, kept_end _ _ _ (by rw [HL.out]; omega)]
                have hD8 : Dev wb d 0 (crashed S ks) k N F7 := h7.D.turns hT (fun i hi e => h7o (by rw [← e]; exact hi))
                have h8 : On w wb d (crashed S ks) k N F7 := ⟨hD8, h7.hF, hB7⟩
                rw [hfin] at hwB
                have hl8 : (crashed S ks).last.length = 512 * k := h8.D.good.len
                have hrd : ∀ b, rdB (crashed S ks) b = ((crashed S ks).last.drop (512 * b)).take 512 := fun b => rfl
                have hpe : (crashed S ks).pend.length = 0 := rfl
                have HRD : Hid _ := hrd
                clear hbs hfin h7 hD8 hT hbl HC hgood o7 l7 hlast7 hpend7 hrd hlen
                generalize crashed S ks = C at *
                by_cases hq : (t : Int) < L
                all_goals (
                  try (have hq2 : ¬ (t : Int) < m2 := by omega)
                  go_wp2_with fail
                  refine (durable_on h8.D).mono ?_
                  rintro e w9 ⟨g9, rfl, o9, D9, t9, _⟩
                  have h9 := h8.same ⟨D9, t9⟩
                  have hw9 := (t9.block gw (heap_lt hwB) h7o).trans hwB
                  clear D9 t9
                  go_wp2_with fail
                  refine (same_true _ _ (512 * k) (512 * k) (512 * k) (512 * k) C.last _ (by omega) (o9.lies hl8) (Lies.full hw9 hl8)).mono ?_
                  rintro e w10 ⟨rfl, t10, rfl⟩
                  have h10 := h9.below (Below.drewN (Below.refl _ w9) t10)
                  have hw10 : (w9.drewN t10).heap[gw]? = some (bl C.last) := hw9
                  clear h9 hw9 o9
                  generalize w9.drewN t10 = w10 at *
                  go_wp2_with fail
                  refine (power_any h10.D).mono ?_
                  rintro e w11 ⟨rfl, q11⟩
                  have h11 := h10.same q11
                  have hw11 := (q11.2.block gw (heap_lt hw10) h7o).trans hw10
                  clear h10 q11 hw10
                  rw [hoff7]
                  go_wp2_with fail
                  refine (pending_any h11.D (by omega)).mono ?_
                  rintro e w12 ⟨⟨P12, gs12, rfl, _⟩, q12⟩
                  have h12 := h11.same q12
                  have hw12 := (q12.2.block gw (heap_lt hw11) h7o).trans hw11
                  clear h11 q12 hw11
                  rw [hpe]
                  go_wp2_with fail
                  go_loopw [17] (fun i wr => ∃ b : Nat, b ≤ k ∧ i = .int .i64 b ∧ On w wr d C k N F7 ∧ wr.heap[gw]? = some (bl C.last)) (fun i _ => k - (intOf i).toNat)
                  case atStart => exact ⟨0, Nat.zero_le _, rfl, h12, hw12⟩
                  case round =>
                    clear h12 hw12
                    obtain ⟨b, hb, rfl, h13, hw13⟩ := hrel
                    by_cases hbk : b < k
                    · have hbi : (b : Int) < k := by omega
                      have hbb : (512 * (b : Int)) + 512 ≤ 512 * (k : Int) := by omega
                      go_wp2_with fail
                      refine (read_on h13.D hoff7 b hbk).mono ?_
                      rintro e w14 ⟨g14, rfl, o14, D14, t14, _⟩
                      have h14 := h13.same ⟨D14, t14⟩
                      have hw14 := (t14.block gw (heap_lt hw13) h7o).trans hw13
                      rw [HRD.out b] at o14
                      have hpc := Lies.piece (o := 512 * b) (n := 512) (c := 512 * k - 512 * b) hw14 (by rw [hl8]; omega) (by omega)
                      clear h13 hw13 D14 t14
                      go_wp2_with fail
                      rw [show 512 * (b + 1) - 512 * b = 512 by omega]
                      refine (same_true _ _ 512 512 512 (512 * k - 512 * b) _ _ (by omega) (o14.lies (by simp; omega)) hpc).mono ?_
                      rintro e w15 ⟨rfl, t15, rfl⟩
                      have h15 := h14.below (Below.drewN (Below.refl _ w14) t15)
                      have hw15 : (w14.drewN t15).heap[gw]? = some (bl C.last) := hw14
                      go_wp2_with (go_at_call 20; refine (num_id _ _).mono ?_; rintro e wn ⟨rfl, hwn⟩; subst wn)
                      go_roundw
                      case rel => exact ⟨b + 1, by omega, by go_num, h15, hw15⟩
                      case measure => simp [intOf]; omega
                    · have hbi : ¬ (b : Int) < k := by omega
                      go_wp2_with fail
                      go_ret
                      exact ⟨rfl, h13.B⟩))
end Go.Proofs.Ytkffnbcfmaoldaa
