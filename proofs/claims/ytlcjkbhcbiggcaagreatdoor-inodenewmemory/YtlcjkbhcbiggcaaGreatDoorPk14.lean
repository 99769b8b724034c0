/- The lines of a descriptor as they are read: linesOf by its contract, of any block. -/
import Derived.Test.YtlcjkbhcbiggcaaGreatDoorPk12
import Derived.Lib.LazyBuf
namespace Go.Proofs.YtlcjkbhcbiggcaaGreatDoor
open Go.RowKit Go.Maps
set_option maxRecDepth 100000

theorem lnC_set (ls : List (Nat × Nat)) (i : Nat) (p : Nat × Nat) : lnC (ls.set i p) = ((lnC ls).set (i * 2) (.int .i64 p.1)).set (i * 2 + 1) (.int .i64 p.2) := by
  induction ls generalizing i with
  | nil => simp [lnC]
  | cons q ls ih =>
    cases i with
    | zero => simp [lnC]
    | succ i =>
      have := ih i
      rw [show (i + 1) * 2 = i * 2 + 1 + 1 by omega]
      simp only [lnC, List.set_cons_succ, List.flatMap_cons, List.cons_append, List.nil_append] at *
      rw [this]
theorem lnC_zero (n : Nat) : lnC (List.replicate n (0, 0)) = List.replicate (n * 2) (.int .i64 0) := by
  induction n with
  | zero => rfl
  | succ n ih =>
    rw [show (n + 1) * 2 = n * 2 + 1 + 1 by omega, List.replicate_succ, List.replicate_succ, List.replicate_succ, ← ih]
    simp [lnC]
theorem made_two (n : Nat) : (madeCells #[.int .i64 0, .int .i64 0] (n * 2)).toList = lnC (List.replicate n (0, 0)) := by
  rw [lnC_zero, List.eq_replicate_iff]
  refine ⟨by simp [madeCells], fun b hb => ?_⟩
  simp only [madeCells, Array.toList_map, List.mem_map] at hb
  obtain ⟨j, _, rfl⟩ := hb
  have h2 : j % 2 = 0 ∨ j % 2 = 1 := by omega
  have e : (#[Value.int .i64 0, Value.int .i64 0] : Array Value).size = 2 := rfl
  rw [e]
  rcases h2 with h2 | h2 <;> rw [h2] <;> rfl
/-- What is read of a descriptor's head. -/
def dsA (q : List Int) : Int × Nat × Int := rdNum 4 508 q 0 0 24
def dsB (q : List Int) : Int × Nat × Int := rdNum 8 508 q (dsA q).2.1 (dsA q).2.2 9223372036854775807
/-- Where the reader stands behind i lines, and its error. -/
def dsP (q : List Int) : Nat → Nat × Int
  | 0 => ((dsB q).2.1, (dsB q).2.2)
  | i + 1 => ((rdNum 4 508 q (rdNum 4 508 q (dsP q i).1 (dsP q i).2 4294967295).2.1 (rdNum 4 508 q (dsP q i).1 (dsP q i).2 4294967295).2.2 2).2.1, (rdNum 4 508 q (rdNum 4 508 q (dsP q i).1 (dsP q i).2 4294967295).2.1 (rdNum 4 508 q (dsP q i).1 (dsP q i).2 4294967295).2.2 2).2.2)
/-- The line i. -/
def dsL (q : List Int) (i : Nat) : Nat × Nat := ((rdNum 4 508 q (dsP q i).1 (dsP q i).2 4294967295).1.toNat, (rdNum 4 508 q (rdNum 4 508 q (dsP q i).1 (dsP q i).2 4294967295).2.1 (rdNum 4 508 q (dsP q i).1 (dsP q i).2 4294967295).2.2 2).1.toNat)
/-- The lines of a descriptor of that seq; none, if it is no such. -/
def linesR (bs : List Int) (seq : Int) : List (Nat × Nat) :=
  if begs bs [65, 78, 88, 68] = true ∧ (dsB ((bs.drop 4).take 508)).1 = seq ∧ (dsP ((bs.drop 4).take 508) (dsA ((bs.drop 4).take 508)).1.toNat).2 = 0 then (List.range (dsA ((bs.drop 4).take 508)).1.toNat).map (dsL ((bs.drop 4).take 508)) else []
theorem dsP_le (q : List Int) : ∀ i, (dsP q i).1 ≤ 508
  | 0 => rdNum_le (rdNum_le (by omega))
  | i + 1 => rdNum_le (rdNum_le (dsP_le q i))
set_option maxHeartbeats 4000000 in
theorem linesOf_any (g : Nat) (bs : List Int) (seq : Int) (er : Nat → Addr) (w : World) (hg : w.heap[g]? = some (bl bs)) (hl : bs.length = 512) (hby : ∀ x ∈ bs, 0 ≤ x ∧ x ≤ 255) (hE : Errs w er) :
    Calls Tryz.prog 238 #[hv g, .int .i64 seq] w fun e w' => ∃ a n c, e = .returned (.slice a n c) ∧ n = (linesR bs seq).length ∧ Lns w' (.slice a n c) (linesR bs seq) ∧ (∀ b, (Value.slice a n c).ownBlock = some b → w.heap.size ≤ b) ∧ Below w.heap.size w w' := by
  obtain ⟨i0, hi0, hz0, hz1, hz2⟩ := info_parts Tryz.infoLine
  have hL := Lies.cut (n := 508) hg hl 4 (by omega) 508 (by omega)
  have hq : ∀ x ∈ (bs.drop 4).take 508, 0 ≤ x ∧ x ≤ 255 := fun x hx => hby x (List.mem_of_mem_drop (List.mem_of_mem_take hx))
  have hN : Hid (begs bs [65, 78, 88, 68] = false ∨ (dsB ((bs.drop 4).take 508)).1 ≠ seq → linesR bs seq = []) := fun h => by
    unfold linesR
    rw [if_neg (fun q => h.elim (fun h => by rw [h] at q; cases q.1) (fun h => h q.2.1))]
  have hM : Hid (begs bs [65, 78, 88, 68] = true → (dsB ((bs.drop 4).take 508)).1 = seq → ((dsP ((bs.drop 4).take 508) (dsA ((bs.drop 4).take 508)).1.toNat).2 ≠ 0 → linesR bs seq = []) ∧ ((dsP ((bs.drop 4).take 508) (dsA ((bs.drop 4).take 508)).1.toNat).2 = 0 → linesR bs seq = (List.range (dsA ((bs.drop 4).take 508)).1.toNat).map (dsL ((bs.drop 4).take 508)))) := fun h1 h2 => by
    unfold linesR
    exact ⟨fun h => if_neg (fun q => h q.2.2), fun h => if_pos ⟨h1, h2, h⟩⟩
  go_enter Tryz.func238, Tryz.ntmps238
  go_wp2_with fail
  refine (newReader_any (some ⟨g, 4, none⟩) 508 508 _ w (by omega) hL).mono ?_
  rintro e w1 ⟨rb, rg, rfl, hR, hrb, hrg, b1⟩
  have E1 := hE.below b1 (Nat.le_refl _)
  generalize (bs.drop 4).take 508 = q at *
  go_wp2_with fail
  refine (u32_any rb rg 508 508 0 0 24 _ er w1 hR E1 (by omega) (by omega) hq (by omega)).mono ?_
  rintro e w2 ⟨rfl, W2⟩
  have b2 := W2.below b1 hrb b1.size
  have E2 := hE.below b2 (Nat.le_refl _)
  have le2 : (rdNum 4 508 q 0 0 24).2.1 ≤ 508 := rdNum_le (by omega)
  have bd2 := rdNum_bd 4 508 q 0 0 24 (by omega) (val_bd _ (fun x hx => hq x (List.mem_of_mem_drop (List.mem_of_mem_take hx)))).1
  have R2 := W2.1
  have HA : Hid (dsA q = rdNum 4 508 q 0 0 24) := rfl
  generalize rdNum 4 508 q 0 0 24 = A at *
  go_wp2_with fail
  refine (u64_any rb rg 508 508 A.2.1 A.2.2 9223372036854775807 _ er w2 R2 E2 le2 (by omega) hq (by omega)).mono ?_
  rintro e w3 ⟨rfl, W3⟩
  have b3 := W3.below b2 hrb b2.size
  have g3 := (b3.block g (heap_lt hg)).trans hg
  have HB : Hid (dsB q = rdNum 8 508 q A.2.1 A.2.2 9223372036854775807) := by
    show dsB q = _
    unfold dsB
    rw [HA.out]
  have R3 := W3.1
  have le3 : (rdNum 8 508 q A.2.1 A.2.2 9223372036854775807).2.1 ≤ 508 := rdNum_le le2
  generalize rdNum 8 508 q A.2.1 A.2.2 9223372036854775807 = B at *
  have m1 := begins_any g 512 512 bs [65, 78, 88, 68] ⟨#[65, 78, 88, 68]⟩ w3 (Lies.full g3 hl) (by omega) (by omega) hby (by decide) (by rfl)
  clear W2 W3 R2 E1 E2 hR
  obtain ⟨n, hn⟩ : ∃ n : Nat, A.1 = (n : Int) := ⟨A.1.toNat, by omega⟩
  by_cases hbg : begs bs [65, 78, 88, 68] = true
  · rw [hbg] at m1
    by_cases hsq : B.1 = seq
    · go_wp2_with fail
      refine m1.mono ?_
      rintro e wn ⟨rfl, hwn⟩
      subst wn
      have hmk := run_make (P := Tryz.prog) w3 248 250 i0 _ Tryz.underlying248 hi0 hz0 .i64 .i64 (n : Int) (n : Int) (by omega) (Int.le_refl _) (by rw [hz2]; omega) (by omega)
      rw [hz1, Int.toNat_natCast, show (Value.agg #[.int .i64 0, .int .i64 0]).cells = #[.int .i64 0, .int .i64 0] from rfl] at hmk
      have HW : Hid ((w3.alloc (.cells (madeCells #[.int .i64 0, .int .i64 0] (n * 2)) 250)).ownsRow w.heap.size 250 2 (.slice (some ⟨w3.heap.size, 0, none⟩) n n) n (lnC (List.replicate n (0, 0)))) := by
        refine ⟨by rw [lnC_len, List.length_replicate], Or.inr ⟨_, n, _, rfl, b3.size, (MapKept.heap_alloc w3 _).1, Nat.le_refl _, by unfold maxLen; omega, by simp [madeCells], ?_⟩⟩
        rw [made_two, List.take_of_length_le (by rw [lnC_len, List.length_replicate]; exact Nat.le_refl _)]
      have R4 := R3.alloc (.cells (madeCells #[.int .i64 0, .int .i64 0] (n * 2)) 250)
      have b4 := b3.alloc b3.size (.cells (madeCells #[.int .i64 0, .int .i64 0] (n * 2)) 250)
      have hrl := R3.lt
      have hgl2 := R3.glt
      obtain ⟨gl, hgl⟩ : ∃ gl, w3.heap.size = gl := ⟨_, rfl⟩
      obtain ⟨W4, hW4⟩ : ∃ W, w3.alloc (.cells (madeCells #[.int .i64 0, .int .i64 0] (n * 2)) 250) = W := ⟨_, rfl⟩
      have HO := HW.out
      rw [hW4] at R4 b4 HO
      rw [hgl] at HO
      have hbl := b3.size
      have hB0 : Rdr W4 rb rg 508 508 ((dsP q 0).1 : Nat) (dsP q 0).2 q := by
        unfold dsP
        rw [HB.out]
        exact R4
      clear HW R3 R4 b3 g3 m1 le3
      go_wp2_with fail
      try rw [hW4]
      try rw [hgl]
      clear hmk hW4
      go_loopw [31] (fun i wr => ∃ (t : Nat) (ls : List (Nat × Nat)), t ≤ n ∧ i = .int .i64 t ∧ ls.length = n ∧ (∀ x, x < t → ls[x]? = some (dsL q x)) ∧ wr.ownsRow w.heap.size 250 2 (.slice (some ⟨gl, 0, none⟩) n n) n (lnC ls) ∧ Rdr wr rb rg 508 508 ((dsP q t).1 : Nat) (dsP q t).2 q ∧ Below w.heap.size w wr) (fun i _ => n - (intOf i).toNat)
      case atStart => exact ⟨0, _, Nat.zero_le _, rfl, List.length_replicate, fun x hx => by omega, HO, hB0, b4⟩
      case round =>
        clear HO hB0 b4
        obtain ⟨t, ls, htn, rfl, hll, hval, hO, hRr, bR⟩ := hrel
        have Er := hE.below bR (Nat.le_refl _)
        by_cases hlt : t < n
        · have hti : (t : Int) < n := by omega
          have lep := dsP_le q t
          have HL : Hid (dsL q t = ((rdNum 4 508 q (dsP q t).1 (dsP q t).2 4294967295).1.toNat, (rdNum 4 508 q (rdNum 4 508 q (dsP q t).1 (dsP q t).2 4294967295).2.1 (rdNum 4 508 q (dsP q t).1 (dsP q t).2 4294967295).2.2 2).1.toNat)) := rfl
          have HP : Hid (dsP q (t + 1) = ((rdNum 4 508 q (rdNum 4 508 q (dsP q t).1 (dsP q t).2 4294967295).2.1 (rdNum 4 508 q (dsP q t).1 (dsP q t).2 4294967295).2.2 2).2.1, (rdNum 4 508 q (rdNum 4 508 q (dsP q t).1 (dsP q t).2 4294967295).2.1 (rdNum 4 508 q (dsP q t).1 (dsP q t).2 4294967295).2.2 2).2.2)) := rfl
          generalize (dsP q t).1 = p1 at *
          generalize (dsP q t).2 = p2 at *
          go_wp2_with fail
          refine (u32_any rb rg 508 508 p1 p2 4294967295 q er wr hRr Er lep (by omega) hq (by omega)).mono ?_
          rintro e w5 ⟨rfl, W5⟩
          have b5 := W5.below bR hrb bR.size
          have E5 := hE.below b5 (Nat.le_refl _)
          have le5 : (rdNum 4 508 q p1 p2 4294967295).2.1 ≤ 508 := rdNum_le lep
          have bd5 := rdNum_bd 4 508 q p1 p2 4294967295 (by omega) (val_bd _ (fun x hx => hq x (List.mem_of_mem_drop (List.mem_of_mem_take hx)))).1
          have O5 := hO.kept W5.2 (Or.inr (fun e => by have e : some gl = some rb := e; cases e; omega))
          have R5 := W5.1
          generalize rdNum 4 508 q p1 p2 4294967295 = A5 at *
          clear W5 hRr hO bR Er
          go_wp2_with fail
          refine (u32_any rb rg 508 508 A5.2.1 A5.2.2 2 q er w5 R5 E5 le5 (by omega) hq (by omega)).mono ?_
          rintro e w6 ⟨rfl, W6⟩
          have b6 := W6.below b5 hrb b5.size
          have bd6 := rdNum_bd 4 508 q A5.2.1 A5.2.2 2 (by omega) (val_bd _ (fun x hx => hq x (List.mem_of_mem_drop (List.mem_of_mem_take hx)))).1
          have O6 := O5.kept W6.2 (Or.inr (fun e => by have e : some gl = some rb := e; cases e; omega))
          have R6 := W6.1
          generalize rdNum 4 508 q A5.2.1 A5.2.2 2 = A6 at *
          clear W6 R5 O5 b5 E5
          obtain ⟨x5, hx5⟩ : ∃ x : Nat, A5.1 = (x : Int) := ⟨A5.1.toNat, by omega⟩
          obtain ⟨x6, hx6⟩ : ∃ x : Nat, A6.1 = (x : Int) := ⟨A6.1.toNat, by omega⟩
          rw [hx5, hx6] at HL
          rw [hx5, hx6]
          have f6 := O6.frozenAt
          have d0 : ∃ v, w6.cell? ⟨gl, t * 2, none⟩ = some v := ⟨_, (O6.cellAt (t * 2) (by omega)).trans (List.getElem?_eq_getElem (by rw [lnC_len]; omega))⟩
          have d1 : ∃ v, w6.cell? ⟨gl, t * 2 + 1, none⟩ = some v := ⟨_, (O6.cellAt (t * 2 + 1) (by omega)).trans (List.getElem?_eq_getElem (by rw [lnC_len]; omega))⟩
          obtain ⟨v0, d0⟩ := d0
          obtain ⟨v1, d1⟩ := d1
          go_wp2_with fail
          have k0 := grown_setCell w6 gl (t * 2) (.int .i64 (x5 : Nat))
          have k1 := grown_setCell (w6.setCell ⟨gl, t * 2, none⟩ (.int .i64 (x5 : Nat))) gl (t * 2 + 1) (.int .i64 (x6 : Nat))
          refine ⟨⟨t + 1, ls.set t (x5, x6), by omega, by simp, by rw [List.length_set]; exact hll, fun x hx => ?_, ?_, ?_, ?_⟩, by simp [intOf]; omega⟩
          · by_cases e : x = t
            · subst e
              rw [List.getElem?_set_self (by omega), HL.out]
              simp
            · rw [List.getElem?_set_ne (fun q => e q.symm)]
              exact hval x (by omega)
          · rw [lnC_set]
            exact ((O6.stored (t * 2) _).1.stored (t * 2 + 1) _).1
          · rw [HP.out]
            exact (R6.kept k0 (fun e => by cases e; omega) (fun e => by cases e; omega)).kept k1 (fun e => by cases e; omega) (fun e => by cases e; omega)
          · exact (b6.grown k0 b6.size (fun k e => by cases e; omega)).grown k1 (by simp [World.setCell]; exact b6.size) (fun k e => by cases e; omega)
        · have hti : ¬ (t : Int) < n := by omega
          obtain rfl : t = n := by omega
          go_wp2_with fail
          refine (err_any rb rg 508 508 _ _ q wr hRr).mono ?_
          rintro e w7 ⟨rfl, mm, rfl⟩
          have b7 : Below w.heap.size w (wr.drewN mm) := bR.trans ⟨rfl, rfl, rfl, Nat.le_refl _, fun _ _ => rfl⟩
          have O7 : (wr.drewN mm).ownsRow w.heap.size 250 2 (.slice (some ⟨gl, 0, none⟩) t t) t (lnC ls) := hO
          have hM2 := hM.out hbg (by rw [HB.out]; exact hsq)
          rw [HA.out, hn, Int.toNat_natCast] at hM2
          by_cases hc : (dsP q t).2 = 0
          · have HZ : Hid (linesR bs seq = (List.range t).map (dsL q)) := hM2.2 hc
            have hls : ls = (List.range t).map (dsL q) := by
              refine List.ext_getElem? (fun x => ?_)
              by_cases hx : x < t
              · rw [hval x hx]; simp [hx]
              · rw [List.getElem?_eq_none (by omega), List.getElem?_eq_none (by simp; omega)]
            rw [hc]
            clear hM2
            go_wp2
            go_ret
            rw [HZ.out, ← hls]
            exact ⟨_, _, _, rfl, hll.symm, ⟨by rw [hll]; exact own_zero O7⟩, fun b hb => by cases hb; show w.heap.size ≤ gl; omega, b7⟩
          · have HZ : Hid (linesR bs seq = []) := hM2.1 hc
            clear hM2
            go_wp2
            go_ret
            rw [HZ.out]
            exact ⟨_, _, _, rfl, rfl, ⟨⟨rfl, Or.inl ⟨rfl, rfl⟩⟩⟩, (fun b hb => by cases hb), b7⟩
    · have HZ : Hid (linesR bs seq = []) := hN.out (Or.inr (by rw [HB.out]; exact hsq))
      go_wp2_with fail
      refine m1.mono ?_
      rintro e wn ⟨rfl, hwn⟩
      subst wn
      go_wp2
      go_ret
      rw [HZ.out]
      exact ⟨_, _, _, rfl, rfl, ⟨⟨rfl, Or.inl ⟨rfl, rfl⟩⟩⟩, (fun b hb => by cases hb), b3⟩
  · have hbg' : begs bs [65, 78, 88, 68] = false := by simpa using hbg
    have HZ : Hid (linesR bs seq = []) := hN.out (Or.inl hbg')
    rw [hbg'] at m1
    go_wp2_with fail
    refine m1.mono ?_
    rintro e wn ⟨rfl, hwn⟩
    subst wn
    go_wp2
    go_ret
    rw [HZ.out]
    exact ⟨_, _, _, rfl, rfl, ⟨⟨rfl, Or.inl ⟨rfl, rfl⟩⟩⟩, (fun b hb => by cases hb), b3⟩
end Go.Proofs.YtlcjkbhcbiggcaaGreatDoor

/- A commit as it is read; a block of the log as it was: isCommit, shown by their contracts. -/
namespace Go.Proofs.YtlcjkbhcbiggcaaGreatDoor
open Go.RowKit Go.Maps
set_option maxRecDepth 100000

def isCom (bs : List Int) (seq : Int) : Bool := begs bs [65, 78, 88, 67] && decide ((rdNum 8 504 ((bs.drop 8).take 504) 0 0 9223372036854775807).1 = seq)
set_option maxHeartbeats 2000000 in
theorem isCommit_any (g : Nat) (bs : List Int) (seq : Int) (er : Nat → Addr) (w : World) (hg : w.heap[g]? = some (bl bs)) (hl : bs.length = 512) (hby : ∀ x ∈ bs, 0 ≤ x ∧ x ≤ 255) (hE : Errs w er) :
    Calls Tryz.prog 240 #[hv g, .int .i64 seq] w fun e w' => e = .returned (.bool (isCom bs seq)) ∧ Below w.heap.size w w' := by
  have hL := Lies.cut (n := 504) hg hl 8 (by omega) 504 (by omega)
  have hq : ∀ x ∈ (bs.drop 8).take 504, 0 ≤ x ∧ x ≤ 255 := fun x hx => hby x (List.mem_of_mem_drop (List.mem_of_mem_take hx))
  have m1 := begins_any g 512 512 bs [65, 78, 88, 67] ⟨#[65, 78, 88, 67]⟩ w (Lies.full hg hl) (by omega) (by omega) hby (by decide) (by rfl)
  cases hb : begs bs [65, 78, 88, 67] with
  | false =>
    have HR : Hid (isCom bs seq = false) := by show isCom bs seq = false; unfold isCom; rw [hb]; rfl
    rw [hb] at m1
    go_enter Tryz.func240, Tryz.ntmps240
    go_wp2_with fail
    refine m1.mono ?_
    rintro e wn ⟨rfl, hwn⟩
    subst wn
    go_wp2
    go_ret
    rw [HR.out]
    exact ⟨rfl, Below.refl _ _⟩
  | true =>
    have HR : Hid (isCom bs seq = decide ((rdNum 8 504 ((bs.drop 8).take 504) 0 0 9223372036854775807).1 = seq)) := by show isCom bs seq = _; unfold isCom; rw [hb]; rfl
    rw [hb] at m1
    go_enter Tryz.func240, Tryz.ntmps240
    go_wp2_with fail
    refine m1.mono ?_
    rintro e wn ⟨rfl, hwn⟩
    subst wn
    go_wp2_with fail
    refine (newReader_any (some ⟨g, 8, none⟩) 504 504 _ w (by omega) hL).mono ?_
    rintro e w1 ⟨rb, rg, rfl, hR, hrb, hrg, b1⟩
    have E1 := hE.below b1 (Nat.le_refl _)
    go_wp2_with fail
    refine (u64_any rb rg 504 504 0 0 9223372036854775807 _ er w1 hR E1 (by omega) (by omega) hq (by omega)).mono ?_
    rintro e w2 ⟨rfl, W2⟩
    have b2 := W2.below b1 hrb b1.size
    generalize rdNum 8 504 ((bs.drop 8).take 504) 0 0 9223372036854775807 = A at *
    by_cases hs : A.1 = seq
    · go_wp2
      go_ret
      rw [HR.out, hs]
      exact ⟨by simp, b2⟩
    · go_wp2
      go_ret
      rw [HR.out]
      exact ⟨by simp [hs], b2⟩
/-- A block of the log as it was; may it look so? -/
def shB (bs : List Int) (f : Nat) : List Int := if f = 1 then [65, 78, 88, 68] ++ bs.drop 4 else if f = 2 then [65, 78, 88, 67] ++ bs.drop 4 else bs
def shOk (bs : List Int) (f : Nat) : Bool := if f = 1 ∨ f = 2 then begs bs [0, 0, 0, 0] else true
theorem marked {w : World} {g : Nat} {bs : List Int} (a0 a1 a2 a3 : Int) (hl : bs.length = 512) (h : w.heap[g]? = some (bl bs)) : (w.setCells g 0 [.int .u8 a0, .int .u8 a1, .int .u8 a2, .int .u8 a3]).heap[g]? = some (bl ([a0, a1, a2, a3] ++ bs.drop 4)) ∧ Turns (fun i => i = g) w (w.setCells g 0 [.int .u8 a0, .int .u8 a1, .int .u8 a2, .int .u8 a3]) := by
  refine ⟨?_, (((Turns.cell w g 0 _).trans (Turns.cell _ g 1 _) (fun _ _ h => h)).trans (Turns.cell _ g 2 _) (fun _ _ h => h)).trans (Turns.cell _ g 3 _) (fun _ _ h => h)⟩
  rcases bs with _ | ⟨a, _ | ⟨b, _ | ⟨c, _ | ⟨d, r⟩⟩⟩⟩
  iterate 4 (simp at hl)
  have e1 := heap_setCell_same _ g 0 _ _ (.int .u8 a0) h
  have e2 := heap_setCell_same _ g 1 _ _ (.int .u8 a1) e1
  have e3 := heap_setCell_same _ g 2 _ _ (.int .u8 a2) e2
  have e4 := heap_setCell_same _ g 3 _ _ (.int .u8 a3) e3
  refine Eq.trans e4 ?_
  simp
set_option maxHeartbeats 2000000 in
theorem shown_any (g : Nat) (bs : List Int) (f : Nat) (w : World) (hg : w.heap[g]? = some (bl bs)) (hl : bs.length = 512) (hby : ∀ x ∈ bs, 0 ≤ x ∧ x ≤ 255) (hf : f ≤ 2) : Calls Tryz.prog 241 #[hv g, .int .i64 f] w fun e w' => ∃ g', e = .returned (.tuple #[hv g', .bool (shOk bs f)]) ∧ w.heap.size ≤ g' ∧ w'.heap[g']? = some (bl (shB bs f)) ∧ Below w.heap.size w w' := by
  have hL := Lies.full hg hl
  have hz : ∀ w : World, (Go.sizeOf 5).run Tryz.prog w = .ok 1 w := fun w => by kernel_rfl
  by_cases h1 : f = 1
  · subst h1
    go_enter Tryz.func241, Tryz.ntmps241
    go_wp2_with fail
    refine (jcopied_any _ _ _ _ _ (by omega) hL).mono ?_
    rintro e w1 ⟨g1, rfl, l1, b1, q1⟩
    have hcp : ∀ ty, (Builtin.copy_ #[39, 9] ty #[.slice (some ⟨g1, 0, none⟩) 512 512, .string ⟨#[65, 78, 88, 68]⟩]).run Tryz.prog w1 = .ok (.int .i64 4) (w1.setCells g1 0 [.int .u8 65, .int .u8 78, .int .u8 88, .int .u8 68]) := fun ty => run_copy_string w1 _ _ ty 5 g1 0 512 512 ⟨#[65, 78, 88, 68]⟩ Tryz.underlying39 hz (by decide) (fun j hj => by have hj : j < 4 := hj; simp [World.cell?, b1]; omega) (fun j hj => by simp [World.frozen?, b1])
    obtain ⟨hset, hT⟩ := marked (w := w1) 65 78 88 68 hl b1
    generalize w1.setCells g1 0 [.int .u8 65, .int .u8 78, .int .u8 88, .int .u8 68] = w2 at *
    have b2 : Below w.heap.size w w2 := q1.trans (hT.below (fun i e => by omega) q1.size)
    have g2 := (b2.block g (heap_lt hg)).trans hg
    have m1 := begins_any g 512 512 bs [0, 0, 0, 0] ⟨#[0, 0, 0, 0]⟩ w2 (Lies.full g2 hl) (by omega) (by omega) hby (by decide) (by rfl)
    go_wp2_with fail
    refine m1.mono ?_
    rintro e wn ⟨rfl, hwn⟩
    subst wn
    go_wp2
    refine bodyPost_ret (results_tmp2 rfl _ _ _) rfl ?_
    exact ⟨g1, rfl, l1, hset, b2⟩
  by_cases h2 : f = 2
  · subst h2
    go_enter Tryz.func241, Tryz.ntmps241
    go_wp2_with fail
    refine (jcopied_any _ _ _ _ _ (by omega) hL).mono ?_
    rintro e w1 ⟨g1, rfl, l1, b1, q1⟩
    have hcp : ∀ ty, (Builtin.copy_ #[39, 9] ty #[.slice (some ⟨g1, 0, none⟩) 512 512, .string ⟨#[65, 78, 88, 67]⟩]).run Tryz.prog w1 = .ok (.int .i64 4) (w1.setCells g1 0 [.int .u8 65, .int .u8 78, .int .u8 88, .int .u8 67]) := fun ty => run_copy_string w1 _ _ ty 5 g1 0 512 512 ⟨#[65, 78, 88, 67]⟩ Tryz.underlying39 hz (by decide) (fun j hj => by have hj : j < 4 := hj; simp [World.cell?, b1]; omega) (fun j hj => by simp [World.frozen?, b1])
    obtain ⟨hset, hT⟩ := marked (w := w1) 65 78 88 67 hl b1
    generalize w1.setCells g1 0 [.int .u8 65, .int .u8 78, .int .u8 88, .int .u8 67] = w2 at *
    have b2 : Below w.heap.size w w2 := q1.trans (hT.below (fun i e => by omega) q1.size)
    have g2 := (b2.block g (heap_lt hg)).trans hg
    have m1 := begins_any g 512 512 bs [0, 0, 0, 0] ⟨#[0, 0, 0, 0]⟩ w2 (Lies.full g2 hl) (by omega) (by omega) hby (by decide) (by rfl)
    go_wp2_with fail
    refine m1.mono ?_
    rintro e wn ⟨rfl, hwn⟩
    subst wn
    go_wp2
    refine bodyPost_ret (results_tmp2 rfl _ _ _) rfl ?_
    exact ⟨g1, rfl, l1, hset, b2⟩
  have h0 : f = 0 := by omega
  subst h0
  go_enter Tryz.func241, Tryz.ntmps241
  go_wp2_with fail
  refine (jcopied_any _ _ _ _ _ (by omega) hL).mono ?_
  rintro e w1 ⟨g1, rfl, l1, b1, q1⟩
  go_wp2
  refine bodyPost_ret (results_tmp2 rfl _ _ _) rfl ?_
  exact ⟨g1, rfl, l1, b1, q1⟩
end Go.Proofs.YtlcjkbhcbiggcaaGreatDoor
