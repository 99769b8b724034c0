/- A journal on a new device of forty blocks: Format, Open; a Begin beside an open one; State. -/
import Derived.Test.YtnmdnglbpkpfdaaGreatDoorPk11
namespace Go.Proofs.YtnmdnglbpkpfdaaGreatDoor
open Go.RowKit Go.Maps
set_option maxRecDepth 100000

/-- What a new device of forty blocks holds; behind Format. -/
def S40 : DevS := fresh (List.replicate (512 * 40) 0)
def F40 : DevS := fmtS S40 2 30
theorem S40_good : Good S40 40 := Good.fresh (by simp) (by omega) (by omega) (fun x hx => by have := List.eq_of_mem_replicate hx; omega)
theorem F40_good : Good F40 40 := S40_good.fmt (by omega) (by omega)
theorem S40_lasts (m : Nat) : Lasts S40 m := ⟨rfl, Or.inl rfl⟩
theorem Lasts.zero {S : DevS} (h1 : S.off = false) (h2 : S.fuse = 0) (m : Nat) : Lasts S m := ⟨h1, Or.inl h2⟩
/-- The power is on, and no fuse is laid. -/
structure Calm (S : DevS) : Prop where
  on : S.off = false
  fu : S.fuse = 0
theorem Calm.lasts {S : DevS} (h : Calm S) (m : Nat) : Lasts S m := ⟨h.on, Or.inl h.fu⟩
theorem Calm.burnt {S : DevS} (h : Calm S) : Calm (burnt S) := by
  have : Go.Proofs.YtnmdnglbpkpfdaaGreatDoor.burnt S = S := by unfold Go.Proofs.YtnmdnglbpkpfdaaGreatDoor.burnt; rw [if_pos h.fu]
  rw [this]; exact h
theorem Calm.wrote {S : DevS} (h : Calm S) (b : Nat) (d : List Int) : Calm (wrote S b d) := ⟨h.on, h.fu⟩
theorem Calm.flushed {S : DevS} (h : Calm S) : Calm (flushed S) := ⟨h.on, h.fu⟩
theorem Calm.zrs {S : DevS} (h : Calm S) (st : Nat) : ∀ p, Calm (zrs S st p)
  | 0 => h
  | p + 1 => (Calm.zrs h st p).burnt.wrote _ _
theorem Calm.fmt {S : DevS} (h : Calm S) (st sz : Nat) : Calm (fmtS S st sz) := (((h.zrs st _).burnt.flushed).burnt.wrote _ _).burnt.flushed
theorem F40_calm : Calm F40 := Calm.fmt ⟨rfl, rfl⟩ 2 30
theorem Calm.putL {S : DevS} (h : Calm S) (st sz place i : Nat) (bs : List Int) : Calm (putL S st sz place i bs) := h.burnt.wrote _ _
theorem Calm.hid {S : DevS} (h : Calm S) (st sz place : Nat) (seq : Int) (f : Nat → List Int) (m : List (Nat × Nat)) : ∀ i, Calm (hidS S st sz place seq f m i)
  | 0 => h.putL _ _ _ _ _
  | i + 1 => (Calm.hid h st sz place seq f m i).putL _ _ _ _ _
theorem Calm.com {S : DevS} (h : Calm S) (st sz place : Nat) (seq : Int) (f : Nat → List Int) (m : List (Nat × Nat)) : Calm (comS S st sz place seq f m) := (((h.hid st sz place seq f m _).burnt.flushed).putL _ _ _ _ _).burnt.flushed
theorem rdB_zeros (n x : Nat) (h : x < n) : rdB (fresh (List.replicate (512 * n) 0)) x = zB := by
  show (none : Option (List Int)).getD (((List.replicate (512 * n) (0 : Int)).drop (512 * x)).take 512) = zB
  rw [Option.getD_none, List.drop_replicate, List.take_replicate, Nat.min_eq_left (by omega)]
  rfl
theorem F40_out {x : Nat} (h : x < 40) (h2 : x < 2 ∨ 32 ≤ x) : rdB F40 x = zB := by
  unfold F40
  rw [rdB_fmt S40_good (by omega) (by omega), if_neg (by omega), if_neg (by omega)]
  exact rdB_zeros 40 x h
theorem Good.reads7 {S : DevS} {k : Nat} (h : Good S k) (b : Nat) (hb : b < k) : (rdB S b).length = 512 ∧ ∀ x ∈ rdB S b, 0 ≤ x ∧ x ≤ 255 := by
  unfold rdB
  cases hn : newest S.pend b with
  | none =>
    refine ⟨?_, fun x hx => h.by_ x ?_⟩
    · show ((S.last.drop (512 * b)).take 512).length = 512
      have := h.len
      simp
      omega
    · exact List.mem_of_mem_drop (List.mem_of_mem_take (show x ∈ (S.last.drop (512 * b)).take 512 from hx))
  | some d =>
    unfold newest at hn
    rw [Option.map_eq_some_iff] at hn
    obtain ⟨p, hp, rfl⟩ := hn
    have hm := List.mem_of_find?_eq_some hp
    exact (h.pend p (List.mem_reverse.1 hm)).2
theorem format40 {w : World} {d N : Nat} {F : Nat → Prop} (hD : Dev w d 0 S40 40 N F) (hN : N ≤ 1000000) :
    Calls Tryz.prog 47 #[.pointer (some ⟨d, 0, none⟩), .int .i64 2, .int .i64 30] w fun e w' => e = .returned (.int .i64 0) ∧ Dev w' d 0 F40 40 (N + 30) (grow F w w') ∧ Turns F w w' :=
  format_ok hD 2 30 (by omega) (by omega) (S40_lasts _) (by omega)
theorem open40 {w : World} {d N : Nat} {F : Nat → Prop} {er : Nat → Addr} (hD : Dev w d 0 F40 40 N F) (hEF : ∀ w', Turns F w w' → Errs w' er) (fa : Nat → List Int) :
    Calls Tryz.prog 48 #[.pointer (some ⟨d, 0, none⟩), .int .i64 2, .int .i64 30] w fun e w' => ∃ jb bm, e = .returned (.tuple #[.pointer (some ⟨jb, 0, none⟩), .int .i64 0, .int .i64 0]) ∧ w.heap.size ≤ jb ∧ w.heap.size ≤ bm ∧ (∃ G, Jn w' d F40 40 N G jb 2 30 1 0 29 bm 0 [] fa ∧ ∀ i, G i → F i ∨ w.heap.size ≤ i) ∧ Turns F w w' := by
  have hr2 : rdB F40 2 = jheadB 1 0 := by unfold F40; rw [rdB_fmt S40_good (by omega) (by omega), if_pos rfl]
  have hr3 : rdB F40 3 = zB := by unfold F40; rw [rdB_fmt S40_good (by omega) (by omega), if_neg (by omega), if_pos (by omega)]
  have hb := head_back 1 0 29 (by omega) (by omega) (by decide) (by decide)
  refine (open_empty hD 2 30 (by omega) (by omega) F40_calm.on hEF 1 0 (by rw [hr2]; exact ⟨hb.1, hb.2.1⟩) (by rw [hr2]; exact hb.2.2) (by omega) (by omega) (by rw [show 2 + 1 + 0 % (30 - 1) = 3 from rfl, hr3]; exact zB_begs) (fun b hb => F40_good.reads7 b hb)).mono ?_
  rintro e w' ⟨jb, bm, rfl, l1, l2, J', M', ⟨G, D', hG, g1, g2⟩, t⟩
  exact ⟨jb, bm, rfl, l1, l2, ⟨G, ⟨D', J', M', (fun p hp => by cases hp), g1, g2, (fun p hp => by cases hp), fun e => mp_cells M' J' e⟩, hG⟩, t⟩
theorem begin_busy {w : World} {d : Nat} {S : DevS} {k N : Nat} {G : Nat → Prop} (hD : Dev w d 0 S k N G) {jb st sz tb : Nat} {seq place free : Int} {bm : Nat} (hJ : Jb w jb d st sz seq place free bm (some tb)) (hjG : ¬ G jb) (ho : S.off = false) :
    Calls Tryz.prog 12 #[.pointer (some ⟨jb, 0, none⟩)] w fun e w' => e = .returned (.pointer none) ∧ Same0 w w' d S k N G := by
  obtain ⟨c0, c1, c2, c3, c4, c5, c6, c7, c8, fz⟩ := hJ.cells
  go_enter Tryz.func12, Tryz.ntmps12
  go_wp2_with fail
  refine (power_ok hD hJ ho).mono ?_
  rintro e w1 ⟨rfl, q1⟩
  have J1 : Jb w1 jb d st sz seq place free bm (some tb) := (q1.2.block jb (heap_lt hJ) hjG).trans hJ
  clear c0 c1 c2 c3 c4 c5 c6 c7 c8 fz
  have c7 : w1.cell? ⟨jb, 7, none⟩ = some (.pointer (some ⟨tb, 0, none⟩)) := J1.cells.c7
  have c8 := J1.cells.c8
  go_wp2_with fail
  go_ret
  exact ⟨rfl, q1⟩
end Go.Proofs.YtnmdnglbpkpfdaaGreatDoor

/- annexlaw7.head by its contract. -/
namespace Go.Proofs.YtnmdnglbpkpfdaaGreatDoor
open Go.RowKit Go.Maps
set_option maxRecDepth 100000

theorem same7 (ao bo : Option Addr) (c1 c2 : Nat) (xs : List Int) (w : World) (hA : Lies w ao 512 c1 xs) (hB : Lies w bo 512 c2 xs) :
    Calls Tryz.prog 34 #[.slice ao 512 c1, .slice bo 512 c2] w fun e w' => e = .returned (.bool true) ∧ Below w.heap.size w w' := by
  refine (same_any ao bo 512 512 c1 c2 xs xs w (by omega) hA hB).mono ?_
  rintro e w' ⟨rfl, mm, rfl⟩
  exact ⟨by simp, ⟨rfl, rfl, rfl, Nat.le_refl _, fun _ _ => rfl⟩⟩
set_option maxHeartbeats 4000000 in
theorem head7 (er : Nat → Addr) (w : World) (hE : Errs w er) :
    Calls Tryz.prog 9 #[] w fun e w' => e = .returned (.bool true) ∧ Below w.heap.size w w' := by
  go_enter Tryz.func9, Tryz.ntmps9
  go_wp2_with fail
  refine (new_good 40 w (by omega) (by omega)).mono ?_
  rintro e w1 ⟨db, rfl, D1, b1⟩
  replace D1 : Dev w1 db 0 S40 40 0 (grow (fun _ => False) w w1) := D1
  go_wp2_with fail
  refine (format40 D1 (by omega)).mono ?_
  rintro e w2 ⟨rfl, D2, t2⟩
  have f1 : ∀ i, grow (fun _ => False) w w1 i → w.heap.size ≤ i := fun i hi => hi.elim False.elim (fun r => r.1)
  have B2 : Below w.heap.size w w2 := b1.trans (t2.below f1 b1.size)
  have f2 : ∀ i, grow (grow (fun _ => False) w w1) w1 w2 i → w.heap.size ≤ i := fun i hi => hi.elim (f1 i) (fun r => Nat.le_trans b1.size r.1)
  generalize grow (grow (fun _ => False) w w1) w1 w2 = F2 at D2 f2
  clear D1 t2 f1
  go_wp2_with fail
  refine (open40 (er := er) D2 (fun w' t => hE.below (B2.trans (t.below f2 B2.size)) (Nat.le_refl _)) (fun _ => [])).mono ?_
  rintro e w3 ⟨jb, bm, rfl, lj, lb, ⟨G, J3, hG⟩, t3⟩
  have B3 := B2.trans (t3.below f2 B2.size)
  have f3 : ∀ i, G i → w.heap.size ≤ i := fun i hi => (hG i hi).elim (f2 i) (fun r => Nat.le_trans B2.size r)
  clear D2 t3 hG f2
  go_wp2_with (go_at_call 15; refine (num7 _ _).mono ?_; rintro e wn ⟨rfl, hwn⟩; subst wn)
  refine (Tx.begin J3 F40_calm.on (fun _ => [])).mono ?_
  rintro e w4 ⟨tb, wm, rfl, lt, lw, T4, t4⟩
  have B4 := B3.trans (t4.below (fun i r => r.elim (f3 i) (fun e => by have := B2.size; omega)) B3.size)
  clear J3 t4
  go_wp2_with fail
  refine (begin_busy T4.D T4.J T4.gj F40_calm.on).mono ?_
  rintro e w5 ⟨rfl, q5⟩
  have T5 := T4.same q5
  have B5 := B4.trans (q5.2.below f3 B4.size)
  clear T4 q5
  have hcc : ∀ w : World, _ := fun w => Go.Joins.run_convert_bytes_const_at (P := Tryz.prog) w 56 5 #[.int .u8 115, .int .u8 111] 2 2 w.heap.size (by simp) Tryz.underlying56 Tryz.underlying5
  have hb0 : ∀ w : World, Below w.heap.size w (w.alloc (.cells #[.int .u8 115, .int .u8 111] 5 (2, 3))) := fun w => (Below.refl _ w).alloc (Nat.le_refl _) _
  have hL0 : ∀ w : World, Lies (w.alloc (.cells #[.int .u8 115, .int .u8 111] 5 (2, 3))) (some ⟨w.heap.size, 0, none⟩) 2 2 [115, 111] := fun w => lies_mark w [115, 111] 2 rfl _ rfl (2, 3) w.heap.size rfl
  go_wp2_with fail
  refine (block7 _ 2 2 [115, 111] _ (by omega) (hL0 w5)).mono ?_
  rintro e w6 ⟨g6, c6, rfl, o6, b6⟩
  have b56 : Below w5.heap.size w5 w6 := (hb0 w5).trans (b6.mono (by simp))
  have T6 := T5.below b56
  have B6 := B5.trans (b56.mono B5.size)
  have hbl : (blkB [115, 111]).length = 512 := blkB_len _
  have hby : ∀ x ∈ blkB [115, 111], 0 ≤ x ∧ x ≤ 255 := blkB_by (by intro x hx; simp at hx; omega)
  have hGl := T5.D.lt
  have hg6 : ¬ G g6 := fun r => by have := hGl g6 r; have := (o6.lt g6 rfl).1; simp at this; omega
  obtain ⟨bb, hbb⟩ : ∃ bb, blkB [115, 111] = bb := ⟨_, rfl⟩
  have HBB : Hid (blkB [115, 111] = bb) := hbb
  rw [hbb] at hbl hby o6
  clear hbb
  clear T5 b6 b56
  have Lo6 : Lies w6 (some ⟨g6, 0, none⟩) 512 c6 bb := Lies.owned o6
  go_wp2_with fail
  refine (Tx.write T6 F40_calm.on (by omega) 35 (by omega) (by omega) _ c6 bb Lo6 hby (fun ad e => by cases e; exact hg6) (Or.inr (by decide)) (by omega)).mono ?_
  rintro e w7 ⟨g7, rfl, lg7, T7, t7⟩
  have B7 := B6.trans (t7.below (fun i r => r.elim (f3 i) (fun e => by have := B3.size; omega)) B6.size)
  have hse : seesF F40 (mput [] 35 g7) (updF (fun _ => []) 35 bb) [] (fun _ => []) 35 = bb := by simp [seesF, mput, lk, updF]
  have HSE : Hid (seesF F40 (mput [] 35 g7) (updF (fun _ => []) 35 bb) [] (fun _ => []) 35 = bb) := hse
  clear T6 t7 hse
  go_wp2_with fail
  refine (Tx.read T7 F40_calm.on (by omega) 35 (by omega) (by omega) (by rw [HSE.out]; exact hbl)).mono ?_
  rintro e w8 ⟨g8, rfl, lg8, h8, T8, t8⟩
  rw [HSE.out] at h8
  have B8 := B7.trans (t8.below f3 B7.size)
  have hGl8 := T8.D.lt
  have hg8 : ¬ G g8 := fun r => by have := T7.D.lt g8 r; omega
  clear T7 t8
  go_wp2_with fail
  refine (txCommit_ok T8 (Nat.le_refl 1) (show 1 ≤ 24 by omega) (fun p hp => by cases hp) (fun p hp => by simp [mput] at hp; subst hp; simp) (show ((1 : Nat) : Int) + 2 ≤ 29 by omega) (by omega) (by omega) (by omega) (by omega) (F40_calm.lasts _) (by omega) (by omega) (by omega) (by omega)).mono ?_
  rintro e w9 ⟨rfl, d9, t9, G9, J9, hG9⟩
  have n8 : ¬ (G g8 ∨ g8 = bm ∨ g8 = jb ∨ g8 = tb) := fun r => by
    rcases r with r | r | r | r
    · exact hg8 r
    · exact mp_no_bl T8.A (by rw [← r]; exact h8)
    · have := T8.J; unfold Jb at this; rw [← r, h8] at this; simp [bl] at this
    · have := T8.T; unfold Tb at this; rw [← r, h8] at this; simp [bl] at this
  have h9 := (t9.block g8 (heap_lt h8) n8).trans h8
  have hs3 := B3.size
  have B9 := B8.trans (t9.below (fun i r => by
    rcases r with r | r | r | r
    · exact f3 i r
    · have := B2.size; omega
    · have := B2.size; omega
    · omega) B8.size)
  clear T8 t9 h8 n8
  go_wp2_with fail
  refine (state_ok J9.J J9.A).mono ?_
  rintro e wA ⟨rfl, tA, rfl⟩
  have hlen : (mmerge [] (mput [] 35 g7)).length = 1 := rfl
  have hlen2 : (mput [] 35 g7).length = 1 := rfl
  have h9A : (w9.drewN tA).heap[g8]? = some (bl bb) := h9
  have BA : Below w.heap.size w (w9.drewN tA) := ⟨B9.os, B9.tape, B9.output, B9.size, B9.block⟩
  generalize w9.drewN tA = wA at *
  go_wp2_with fail
  refine (block7 _ 2 2 [115, 111] _ (by omega) (hL0 wA)).mono ?_
  rintro e wB ⟨gB, cB, rfl, oB, bB⟩
  rw [HBB.out] at oB
  have bAB : Below wA.heap.size wA wB := (hb0 wA).trans (bB.mono (by simp))
  have hB8 := (bAB.block g8 (heap_lt h9A)).trans h9A
  have BB := BA.trans (bAB.mono BA.size)
  clear bB bAB
  go_wp2_with fail
  refine (same7 (some ⟨g8, 0, none⟩) (some ⟨gB, 0, none⟩) 512 cB bb wB (Lies.full hB8 hbl) (Lies.owned oB)).mono ?_
  rintro e wC ⟨rfl, bC⟩
  have BC := BB.trans (bC.mono BB.size)
  go_wp2_with (go_at_call 15; refine (num7 _ _).mono ?_; rintro e wn ⟨rfl, hwn⟩; subst wn)
  go_ret
  exact ⟨rfl, BC⟩
end Go.Proofs.YtnmdnglbpkpfdaaGreatDoor

/- The statements' own lists beside a journal: what stays whatever the journal does. -/
namespace Go.Proofs.YtnmdnglbpkpfdaaGreatDoor
open Go.RowKit Go.Maps
set_option maxRecDepth 100000

/-- The types of the journal's own blocks. -/
abbrev jty : List Nat := [104, 127, 101]
/-- Blocks that are not the device's, and of no type of the journal's, are as they were. -/
structure Kp (G : Nat → Prop) (w w' : World) : Prop where
  size : w.heap.size ≤ w'.heap.size
  block : ∀ x cs t fz, ¬ G x → w.heap[x]? = some (.cells cs t fz) → t ∉ jty → w'.heap[x]? = some (.cells cs t fz)
theorem Kp.trans {G : Nat → Prop} {a b c : World} (h : Kp G a b) (k : Kp G b c) : Kp G a c := ⟨Nat.le_trans h.size k.size, fun x cs t fz g hx ht => k.block x cs t fz g (h.block x cs t fz g hx ht) ht⟩
theorem Kp.below {G : Nat → Prop} {w w' : World} (h : Below w.heap.size w w') : Kp G w w' := ⟨h.size, fun x _ _ _ _ hx _ => (h.block x (heap_lt hx)).trans hx⟩
theorem Kp.turns {G Y : Nat → Prop} {w w' : World} (t : Turns Y w w') (h : ∀ x cs t fz, ¬ G x → w.heap[x]? = some (.cells cs t fz) → t ∉ jty → ¬ Y x) : Kp G w w' := ⟨t.size, fun x cs ty fz g hx ht => (t.block x (heap_lt hx) (h x cs ty fz g hx ht)).trans hx⟩
theorem jty_tb {w : World} {tb jb wm : Nat} {sv : Value} {last : Int} (h : Tb w tb jb wm sv last) {x : Nat} {cs : Array Value} {t : Nat} {fz : Nat × Nat} (hx : w.heap[x]? = some (.cells cs t fz)) (ht : t ∉ jty) : x ≠ tb := by
  rintro rfl
  unfold Tb at h
  rw [h] at hx
  simp at hx
  exact ht (by simp [← hx.2.1])
theorem jty_jb {w : World} {jb d st sz : Nat} {seq place free : Int} {bm : Nat} {op : Option Nat} (h : Jb w jb d st sz seq place free bm op) {x : Nat} {cs : Array Value} {t : Nat} {fz : Nat × Nat} (hx : w.heap[x]? = some (.cells cs t fz)) (ht : t ∉ jty) : x ≠ jb := by
  rintro rfl
  unfold Jb at h
  rw [h] at hx
  simp at hx
  exact ht (by simp [← hx.2.1])
theorem jty_sv {w : World} {sv : Value} {n : Nat} {xs : List Value} (h : w.ownsRow 0 127 2 sv n xs) {x : Nat} {cs : Array Value} {t : Nat} {fz : Nat × Nat} (hx : w.heap[x]? = some (.cells cs t fz)) (ht : t ∉ jty) : sv.ownBlock ≠ some x :=
  own_typeJ h hx (fun e => ht (by simp [e]))
theorem Kp.same {G : Nat → Prop} {w w' : World} (t : Turns G w w') : Kp G w w' := Kp.turns t (fun _ _ _ _ g _ _ => g)
theorem Kp.row {G : Nat → Prop} {w w' : World} {base e s n : Nat} {v : Value} {xs : List Value} (k : Kp G w w') (h : w.ownsRow base e s v n xs) (he : e ∉ jty) (hg : ∀ b, v.ownBlock = some b → ¬ G b) : w'.ownsRow base e s v n xs := by
  refine ⟨h.1, ?_⟩
  rcases h.2 with h2 | ⟨g, cap, cur, hv, hb, hh, r⟩
  · exact Or.inl h2
  · exact Or.inr ⟨g, cap, cur, hv, hb, k.block g _ _ _ (hg g (by rw [hv]; rfl)) hh he, r⟩
/-- A list of 512 bytes that somebody holds. -/
structure It where
  g : Nat
  cap : Nat
  bs : List Int
def It.val (x : It) : Value := .slice (some ⟨x.g, 0, none⟩) 512 x.cap
/-- It lies there, not in the device. -/
structure ItOk (w : World) (G : Nat → Prop) (x : It) : Prop where
  own : B512 w 0 x.val x.bs
  ng : ¬ G x.g
  by_ : ∀ y ∈ x.bs, 0 ≤ y ∧ y ≤ 255
theorem ItOk.kp {G : Nat → Prop} {w w' : World} {x : It} (h : ItOk w G x) (k : Kp G w w') : ItOk w' G x := ⟨k.row h.own (by decide) (fun b hb => by cases hb; exact h.ng), h.ng, h.by_⟩
theorem ItOk.len {w : World} {G : Nat → Prop} {x : It} (h : ItOk w G x) : x.bs.length = 512 := by have := h.own.1; simpa using this
theorem ItOk.lies {w : World} {G : Nat → Prop} {x : It} (h : ItOk w G x) : Lies w (some ⟨x.g, 0, none⟩) 512 x.cap x.bs := Lies.owned h.own
/-- What turns one block of another type leaves it. -/
theorem own_turn1 {w w' : World} {base e s n g : Nat} {v : Value} {xs : List Value} {cs : Array Value} {t : Nat} {fz : Nat × Nat} (h : w.ownsRow base e s v n xs) (hg : w.heap[g]? = some (.cells cs t fz)) (ht : t ≠ e) (u : Turns (fun i => i = g) w w') : w'.ownsRow base e s v n xs :=
  own_turns h u (fun b hb q => own_typeJ h hg ht (by rw [hb, q]))
theorem ItOk.turn1 {G : Nat → Prop} {w w' : World} {x : It} {g : Nat} {cs : Array Value} {t : Nat} {fz : Nat × Nat} (h : ItOk w G x) (hg : w.heap[g]? = some (.cells cs t fz)) (ht : t ≠ 5) (u : Turns (fun i => i = g) w w') : ItOk w' G x := ⟨own_turn1 h.own hg ht u, h.ng, h.by_⟩
/-- A row of such lists. -/
structure Wt (w : World) (G : Nat → Prop) (v : Value) (xs : List It) : Prop where
  row : w.ownsRow 0 56 1 v xs.length (xs.map It.val)
  gr : ∀ b, v.ownBlock = some b → ¬ G b
  it : ∀ x ∈ xs, ItOk w G x
theorem Wt.kp {G : Nat → Prop} {w w' : World} {v : Value} {xs : List It} (h : Wt w G v xs) (k : Kp G w w') : Wt w' G v xs := ⟨k.row h.row (by decide) h.gr, h.gr, fun x hx => (h.it x hx).kp k⟩
theorem Wt.turn1 {G : Nat → Prop} {w w' : World} {v : Value} {xs : List It} {g : Nat} {cs : Array Value} {t : Nat} {fz : Nat × Nat} (h : Wt w G v xs) (hg : w.heap[g]? = some (.cells cs t fz)) (ht : t ≠ 5) (ht2 : t ≠ 56) (u : Turns (fun i => i = g) w w') : Wt w' G v xs := ⟨own_turn1 h.row hg ht2 u, h.gr, fun x hx => (h.it x hx).turn1 hg ht u⟩
/-- A row of numbers. -/
structure Ns (w : World) (G : Nat → Prop) (v : Value) (l : List Nat) : Prop where
  row : w.ownsRow 0 3 1 v l.length (l.map fun x => .int .i64 (x : Nat))
  gr : ∀ b, v.ownBlock = some b → ¬ G b
theorem Ns.kp {G : Nat → Prop} {w w' : World} {v : Value} {l : List Nat} (h : Ns w G v l) (k : Kp G w w') : Ns w' G v l := ⟨k.row h.row (by decide) h.gr, h.gr⟩
theorem Ns.turn1 {G : Nat → Prop} {w w' : World} {v : Value} {l : List Nat} {g : Nat} {cs : Array Value} {t : Nat} {fz : Nat × Nat} (h : Ns w G v l) (hg : w.heap[g]? = some (.cells cs t fz)) (ht : t ≠ 3) (u : Turns (fun i => i = g) w w') : Ns w' G v l := ⟨own_turn1 h.row hg ht u, h.gr⟩
/-- A town in memory. -/
structure Tn (w : World) (G : Nat → Prop) (tw db : Nat) (ov wv : Value) (outs : List Nat) (xs : List It) : Prop where
  box : w.heap[tw]? = some (.cells #[.pointer (some ⟨db, 0, none⟩), .int .i64 2, .int .i64 30, ov, wv] 42)
  o : Ns w G ov outs
  x : Wt w G wv xs
  gt : ¬ G tw
theorem Tn.kp {G : Nat → Prop} {w w' : World} {tw db : Nat} {ov wv : Value} {outs : List Nat} {xs : List It} (h : Tn w G tw db ov wv outs xs) (k : Kp G w w') : Tn w' G tw db ov wv outs xs := ⟨k.block _ _ _ _ h.gt h.box (by decide), h.o.kp k, h.x.kp k, h.gt⟩
end Go.Proofs.YtnmdnglbpkpfdaaGreatDoor
