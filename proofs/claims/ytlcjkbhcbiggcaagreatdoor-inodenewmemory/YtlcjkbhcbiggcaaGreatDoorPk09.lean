/- A record read. -/
import Derived.Test.YtlcjkbhcbiggcaaGreatDoorPk08
import Derived.Test.YtlcjkbhcbiggcaaGreatDoorPk07
import Derived.BigQuiet
import Derived.Test.YtlcjkbhcbiggcaaGreatDoorShelf
import Derived.Sort.OwnSortedInts
namespace Go.Proofs.YtlcjkbhcbiggcaaGreatDoor
open Go.RowKit Go.Maps
set_option maxRecDepth 100000

theorem arr_rest (w : World) (b o : Nat) : (Instr.arrayAt 247 (.slice (some ⟨b, o, none⟩) 68 68)).run Tryz.prog w = .ok (.pointer (some ⟨b, o, none⟩)) w := by
  simp [Instr.arrayAt, run_underlying Tryz.underlying247, go_sem]
theorem arr_rec (w : World) (b o : Nat) : (Instr.arrayAt 165 (.slice (some ⟨b, o, none⟩) 128 128)).run Tryz.prog w = .ok (.pointer (some ⟨b, o, none⟩)) w := by
  simp [Instr.arrayAt, run_underlying Tryz.underlying165, go_sem]
theorem eq_rest (w : World) : (Op.equalIn 10000 247 (.agg #[.int .u8 0, .int .u8 0, .int .u8 0, .int .u8 0, .int .u8 0, .int .u8 0, .int .u8 0, .int .u8 0, .int .u8 0, .int .u8 0, .int .u8 0, .int .u8 0, .int .u8 0, .int .u8 0, .int .u8 0, .int .u8 0, .int .u8 0, .int .u8 0, .int .u8 0, .int .u8 0, .int .u8 0, .int .u8 0, .int .u8 0, .int .u8 0, .int .u8 0, .int .u8 0, .int .u8 0, .int .u8 0, .int .u8 0, .int .u8 0, .int .u8 0, .int .u8 0, .int .u8 0, .int .u8 0, .int .u8 0, .int .u8 0, .int .u8 0, .int .u8 0, .int .u8 0, .int .u8 0, .int .u8 0, .int .u8 0, .int .u8 0, .int .u8 0, .int .u8 0, .int .u8 0, .int .u8 0, .int .u8 0, .int .u8 0, .int .u8 0, .int .u8 0, .int .u8 0, .int .u8 0, .int .u8 0, .int .u8 0, .int .u8 0, .int .u8 0, .int .u8 0, .int .u8 0, .int .u8 0, .int .u8 0, .int .u8 0, .int .u8 0, .int .u8 0, .int .u8 0, .int .u8 0, .int .u8 0, .int .u8 0]) (.agg Tryz.zeroCells247)).run Tryz.prog w = .ok true w := by
  kernel_rfl
theorem eq_ino0 (w : World) : (Op.equalIn 10000 38 (.agg (inA ino0)) (.agg #[.int .i64 0, .int .i64 0, .int .i64 0, .int .i64 0, .int .i64 0, .int .i64 0, .int .i64 0, .int .i64 0, .int .i64 0, .int .i64 0, .int .i64 0, .int .i64 0, .int .i64 0])).run Tryz.prog w = .ok true w := by
  kernel_rfl
attribute [local go_sem ↓ 100000] ly_store ly_load in_store in_load rc_store rc_load r6_load
attribute [local go_sem] arr_rest eq_rest InStore.newI LyStore.new LyStore.drew LyLoad.new LyLoad.drew
set_option maxHeartbeats 4000000 in
theorem rread_ok (l : Lay) (hd : Dat l) (r : Rec) (hr : RecOk r) (hk : r.kind = 0 → r = { rec0 with gen := r.gen }) (hu : r.kind ≠ 0 → 1 ≤ r.gen ∧ mayBI l (r.ino 0) = true) (w : World) :
    Calls Tryz.prog 145 #[.agg (rcA (recB r)), lyV l] w fun e w' => e = .returned (.tuple #[.int .i64 r.gen, inV (r.ino 0), .bool true]) ∧ Below w.heap.size w w' := by
  have hl := recB_len r
  have hy := recB_by r
  have HG := rec_gen r
  have HR := rec_rest r
  obtain ⟨W3, hW3⟩ : ∃ W, ((w.alloc (.cells (rcA (recB r)) 165)).alloc (.cells #[.int .i64 l.bo, .int .i64 l.jr, .int .i64 l.jl, .int .i64 l.le, .int .i64 l.ll, .int .i64 l.bi, .int .i64 l.bl, .int .i64 l.ta, .int .i64 l.tl, .int .i64 l.dt, .int .i64 l.dl, .int .i64 l.to, .int .i64 l.sh.cl, .int .i64 l.sh.wi, .int .i64 l.sh.pl, .int .i64 l.sh.ca, .int .i64 l.sh.ino, .int .i64 l.sh.qu, .int .i64 l.sh.da, .int .i64 l.sh.jo] 60)).alloc (.cells #[.int .i64 0, .int .i64 0, .int .i64 0, .int .i64 0, .int .i64 0, .int .i64 0, .int .i64 0, .int .i64 0, .int .i64 0, .int .i64 0, .int .i64 0, .int .i64 0, .int .i64 0] 38) = W := ⟨_, rfl⟩
  have s3 : W3.heap.size = w.heap.size + 3 := by rw [← hW3]; simp
  have b1 : Below w.heap.size w (w.alloc (.cells (rcA (recB r)) 165)) := (Below.refl _ w).alloc (Nat.le_refl _) _
  have R3 : RcBox W3 w.heap.size (recB r) := by
    rw [← hW3]
    exact (((Below.refl _ _).alloc (Nat.le_refl _) _).trans ((Below.refl _ _).alloc (by simp) _)).block _ (by simp) |>.trans (heap_alloc_last w _)
  have L3 : LyB W3 (w.heap.size + 1) l := by
    have := LyB.new (w.alloc (.cells (rcA (recB r)) 165)) l
    rw [← hW3]
    rw [show (w.alloc (.cells (rcA (recB r)) 165)).heap.size = w.heap.size + 1 by simp] at this
    exact this.below ((Below.refl _ _).alloc (Nat.le_refl _) _)
  have I3 : InBox W3 (w.heap.size + 2) ino0 := by
    have := heap_alloc_last ((w.alloc (.cells (rcA (recB r)) 165)).alloc (.cells #[.int .i64 l.bo, .int .i64 l.jr, .int .i64 l.jl, .int .i64 l.le, .int .i64 l.ll, .int .i64 l.bi, .int .i64 l.bl, .int .i64 l.ta, .int .i64 l.tl, .int .i64 l.dt, .int .i64 l.dl, .int .i64 l.to, .int .i64 l.sh.cl, .int .i64 l.sh.wi, .int .i64 l.sh.pl, .int .i64 l.sh.ca, .int .i64 l.sh.ino, .int .i64 l.sh.qu, .int .i64 l.sh.da, .int .i64 l.sh.jo] 60)) (.cells #[.int .i64 0, .int .i64 0, .int .i64 0, .int .i64 0, .int .i64 0, .int .i64 0, .int .i64 0, .int .i64 0, .int .i64 0, .int .i64 0, .int .i64 0, .int .i64 0, .int .i64 0] 38)
    rw [hW3, show ((w.alloc (.cells (rcA (recB r)) 165)).alloc (.cells #[.int .i64 l.bo, .int .i64 l.jr, .int .i64 l.jl, .int .i64 l.le, .int .i64 l.ll, .int .i64 l.bi, .int .i64 l.bl, .int .i64 l.ta, .int .i64 l.tl, .int .i64 l.dt, .int .i64 l.dl, .int .i64 l.to, .int .i64 l.sh.cl, .int .i64 l.sh.wi, .int .i64 l.sh.pl, .int .i64 l.sh.ca, .int .i64 l.sh.ino, .int .i64 l.sh.qu, .int .i64 l.sh.da, .int .i64 l.sh.jo] 60)).heap.size = w.heap.size + 2 by simp] at this
    exact this
  have b3 : Below w.heap.size w W3 := by
    rw [← hW3]
    exact ((b1.alloc (by simp) _).alloc (by simp; omega) _)
  clear b1
  have hri := fun b w' h => rinode_ok b r hr w' h
  obtain ⟨bs, hbs⟩ : ∃ bs, recB r = bs := ⟨_, rfl⟩
  rw [hbs] at hl hy HG HR R3 hW3 hri
  rw [hbs]
  clear hbs
  have HRI : Hid (∀ b w', RcBox w' b bs → Calls Tryz.prog 199 #[.pointer (some ⟨b, 0, none⟩)] w' fun e w'' => e = .returned (inV (r.ino 0)) ∧ Below w'.heap.size w' w'') := hri
  clear hri
  have g0 := hr.g0
  have g1 := hr.g1
  go_enter Tryz.func145, Tryz.ntmps145
  go_wp2_with fail
  try rw [hW3]
  clear hW3
  refine (pgen_any w.heap.size _).mono ?_
  rintro e wq ⟨rfl, hq⟩
  subst wq
  go_wp2_with fail
  refine (piece_ok R3 hy 0 8 (Or.inr rfl) (by omega) r.gen HG g0 (by omega) (by omega)).mono ?_
  rintro e w4 ⟨rfl, b4⟩
  have R4 := R3.below b4
  have L4 := L3.below b4
  have I4 := I3.below b4
  have b04 := b3.trans (b4.mono b3.size)
  have z4 := b4.size
  clear b4 b3 R3 L3 I3
  go_wp2_with fail
  refine (HRI.out w.heap.size w4 R4).mono ?_
  rintro e w5 ⟨rfl, b5⟩
  have R5 := R4.below b5
  have L5 := L4.below b5
  have I5 := I4.below b5
  have b05 := b04.trans (b5.mono b04.size)
  have z5 := b5.size
  clear b5 b04 R4 L4 I4
  go_wp2_with fail
  obtain ⟨W6, hW6⟩ : ∃ W, w5.alloc (.cells (inA (r.ino 0)) 38) = W := ⟨_, rfl⟩
  have b6 : Below w5.heap.size w5 W6 := by rw [← hW6]; exact (Below.refl _ w5).alloc (Nat.le_refl _) _
  have X6 : InBox W6 w5.heap.size (r.ino 0) := by rw [← hW6]; exact heap_alloc_last w5 _
  have R6 := R5.below b6
  have L6 := L5.below b6
  have I6 := I5.below b6
  have b06 := b05.trans (b6.mono b05.size)
  have z6 : W6.heap.size = w5.heap.size + 1 := by rw [← hW6]; simp
  rw [hW6]
  clear hW6 b6 b05 R5 L5 I5
  refine (prest_any w.heap.size _).mono ?_
  rintro e wq ⟨rfl, hq⟩
  subst wq
  have hr6 := R6Load.mid (R6.range 60 68) (by rw [HR]; rfl)
  rw [HR] at hr6
  have q1 := X6.cells.c1
  rw [Nat.zero_add] at q1
  have ne5 : w5.heap.size ≠ w.heap.size + 2 := by omega
  have hx7 : InBox (W6.drew.setRow (w.heap.size + 2) (inA (r.ino 0))) w5.heap.size (r.ino 0) := (setRow_other W6.drew (w.heap.size + 2) w5.heap.size _ ne5).trans X6
  have hl7 : LyB (W6.drew.setRow (w.heap.size + 2) (inA (r.ino 0))) (w.heap.size + 1) l := (setRow_other W6.drew (w.heap.size + 2) (w.heap.size + 1) _ (by omega)).trans L6
  by_cases k0 : r.kind = 0
  · have hino : r.ino 0 = ino0 := by rw [hk k0]; rfl
    have hEq : ∀ w', (Op.equalIn 10000 38 (.agg (inA (r.ino 0))) (.agg #[.int .i64 0, .int .i64 0, .int .i64 0, .int .i64 0, .int .i64 0, .int .i64 0, .int .i64 0, .int .i64 0, .int .i64 0, .int .i64 0, .int .i64 0, .int .i64 0, .int .i64 0])).run Tryz.prog w' = .ok true w' := by
      rw [hino]; exact eq_ino0
    have q1' : W6.cell? ⟨w5.heap.size, 1, none⟩ = some (.int .i64 0) := by rw [q1]; show some (Value.int .i64 r.kind) = _; rw [k0]
    have hst := InStore.row (w := W6.drew) (cs := inA (r.ino 0)) I6 rfl rfl (inA_one _)
    have hldd := InLoad.row (w := W6.drew) X6 rfl
    have hlds := InLoad.row hx7 rfl
    clear q1 hu hk hino k0
    go_wp2_with fail
    go_region
    go_wp2_with fail
    refine bodyPost_ret (resT rfl _ _ (w.heap.size + 2) 38 _ (0, 0) _ rfl (setRow_heap W6.drew _ _ _ _ _ I6) Tryz.underlying38 rfl in_size) rfl ?_
    exact ⟨rfl, below_setRow (Below.drew b06) (by omega) _⟩
  have h1 := (hu k0).1
  have HM : Hid (mayBI l (r.ino 0) = true) := (hu k0).2
  have q1' : W6.cell? ⟨w5.heap.size, 1, none⟩ = some (.int .i64 r.kind) := q1
  have hldd := InLoad.row (w := W6.drew) X6 rfl
  have hlyd := LyB.ld (w := W6.drew) L6
  clear q1 hk hu
  go_wp2_with fail
  go_region_law ((go_simp; go_at_call 143; refine (mayBeI_any l hd (r.ino 0) _).mono ?_; rintro e w7 ⟨rfl, b7⟩; rw [HM.out]; have X7 := InBox.below (w := W6.drew) X6 b7; have I7 := InBox.below (w := W6.drew) I6 b7; have x8 : InBox (w7.setRow (w.heap.size + 2) (inA (r.ino 0))) w5.heap.size (r.ino 0) := (setRow_other w7 (w.heap.size + 2) w5.heap.size _ ne5).trans X7; have hld7 := InLoad.row X7 rfl; have hst7 := InStore.row (cs := inA (r.ino 0)) I7 rfl rfl (inA_one _); have hld8 := InLoad.row x8 rfl; dsimp only))
  all_goals go_wp2_with fail
  all_goals refine bodyPost_ret (resT rfl _ _ (w.heap.size + 2) 38 _ (0, 0) _ rfl (setRow_heap w7 _ _ _ _ _ I7) Tryz.underlying38 rfl in_size) rfl ?_
  all_goals exact ⟨rfl, below_setRow ((Below.drew b06).trans (b7.mono (Below.drew b06).size)) (by omega) _⟩
end Go.Proofs.YtlcjkbhcbiggcaaGreatDoor

/- The record of an inode. -/
namespace Go.Proofs.YtlcjkbhcbiggcaaGreatDoor
open Go.RowKit Go.Maps
set_option maxRecDepth 100000

def recOf (g : Int) (x : Ino) : Rec := ⟨g, x.kind, x.size, x.change, x.dir, x.ind⟩
theorem zero_rec : Tryz.zeroCells165 = rcA (recB rec0) := by kernel_rfl
/-- While a record is made. -/
structure Rf (w0 w : World) (x : Ino) (bs : List Int) : Prop where
  X : InBox w w0.heap.size x
  Z : RcBox w (w0.heap.size + 1) (recB rec0)
  R : RcBox w (w0.heap.size + 2) bs
  B : Below w0.heap.size w0 w
theorem Rf.put {w0 w w' : World} {x : Ino} {bs bs' : List Int} (h : Rf w0 w x bs) (p : PutR w w' (w0.heap.size + 2) 165 bs') : Rf w0 w' x bs' :=
  ⟨(p.tr.block _ (heap_lt h.X) (by omega)).trans h.X, (p.tr.block _ (heap_lt h.Z) (by omega)).trans h.Z, p.row, h.B.trans (p.tr.below (fun i e => by omega) h.B.size)⟩
theorem Rf.drew {w0 w : World} {x : Ino} {bs : List Int} (h : Rf w0 w x bs) : Rf w0 w.drew x bs := ⟨h.X, h.Z, h.R, Below.drew h.B⟩
theorem Rf.new (w : World) (x : Ino) : Rf w (((w.alloc (.cells (inA x) 38)).alloc (.cells Tryz.zeroCells165 165)).alloc (.cells Tryz.zeroCells165 165)) x (recB rec0) := by
  have b1 : Below w.heap.size w (w.alloc (.cells (inA x) 38)) := (Below.refl _ w).alloc (Nat.le_refl _) _
  have z1 : (w.alloc (.cells (inA x) 38)).heap.size = w.heap.size + 1 := by simp
  obtain ⟨W1, hW1⟩ : ∃ W, w.alloc (.cells (inA x) 38) = W := ⟨_, rfl⟩
  have X1 : InBox W1 w.heap.size x := by rw [← hW1]; exact heap_alloc_last w _
  rw [hW1] at b1 z1 ⊢
  clear hW1
  obtain ⟨W2, hW2⟩ : ∃ W, W1.alloc (.cells Tryz.zeroCells165 165) = W := ⟨_, rfl⟩
  have b2 : Below W1.heap.size W1 W2 := by rw [← hW2]; exact (Below.refl _ W1).alloc (Nat.le_refl _) _
  have z2 : W2.heap.size = w.heap.size + 2 := by rw [← hW2]; simp [z1]
  have R2 : RcBox W2 (w.heap.size + 1) (recB rec0) := by
    rw [← hW2, ← z1]
    unfold RcBox
    rw [← zero_rec]
    exact heap_alloc_last W1 _
  rw [hW2]
  clear hW2
  have b3 : Below W2.heap.size W2 (W2.alloc (.cells Tryz.zeroCells165 165)) := (Below.refl _ W2).alloc (Nat.le_refl _) _
  refine ⟨(X1.below b2).below b3, R2.below b3, ?_, b1.trans ((b2.mono b1.size).trans (b3.mono (by omega)))⟩
  unfold RcBox
  rw [← zero_rec, ← z2]
  exact heap_alloc_last W2 _
attribute [local go_sem ↓ 100000] in_store in_load rc_store rc_load d8_load
attribute [local go_sem] InStore.newI
set_option maxHeartbeats 4000000 in
theorem recordOf_ok (g : Int) (x : Ino) (hr : RecOk (recOf g x)) (w : World) :
    Calls Tryz.prog 106 #[.int .i64 g, inV x] w fun e w' => e = .returned (.agg (rcA (recB (recOf g x)))) ∧ Below w.heap.size w w' := by
  have r0 := Rf.new w x
  obtain ⟨W0, hW0⟩ : ∃ W, ((w.alloc (.cells (inA x) 38)).alloc (.cells Tryz.zeroCells165 165)).alloc (.cells Tryz.zeroCells165 165) = W := ⟨_, rfl⟩
  rw [hW0] at r0
  obtain ⟨g0, g1, k0, k1, s0, s1, c0, c1, d0, i0, i1⟩ := hr
  replace d0 : ∀ i, i < 8 → 0 ≤ x.dir i ∧ x.dir i ≤ 8192 := d0
  have g0 : 0 ≤ g := g0
  have g1 : g ≤ 1099511627776 := g1
  have k0 : 0 ≤ x.kind := k0
  have k1 : x.kind ≤ 2 := k1
  have s0 : 0 ≤ x.size := s0
  have s1 : x.size ≤ 69632 := s1
  have c0 : 0 ≤ x.change := c0
  have c1 : x.change ≤ 4611686018427387904 := c1
  have i0 : 0 ≤ x.ind := i0
  have i1 : x.ind ≤ 8192 := i1
  go_enter Tryz.func106, Tryz.ntmps106
  go_wp2_with fail
  try rw [hW0]
  clear hW0
  refine (pgen_any (w.heap.size + 2) _).mono ?_
  rintro e wq ⟨rfl, hq⟩
  subst wq
  go_wp2_with fail
  refine (put8I_ok (w.heap.size + 2) 0 165 g _ _ r0.R (by rw [recB_len]; omega) (by omega) (by omega)).mono ?_
  rintro e w1 ⟨rfl, p1⟩
  rw [sp_gen] at p1
  have r1 := r0.put p1
  clear p1 r0
  have q1 : w1.cell? ⟨w.heap.size, 1, none⟩ = some (.int .i64 x.kind) := by have := r1.X.cells.c1; rwa [Nat.zero_add] at this
  go_wp2_with fail
  go_region_held3 (fun w' => w'.cell? ⟨w.heap.size, 1, none⟩ = some (.int .i64 x.kind))
    (first | exact q1 | exact y1)
    (first
      | (go_at_call 161; refine (pkind_any (w.heap.size + 2) _).mono ?_; rintro e wq ⟨rfl, hq⟩; subst wq)
      | (go_at_call 159; refine (put4I_ok (w.heap.size + 2) 8 165 x.kind _ _ r1.drew.R (by rw [recB_len]; omega) (by omega) (by omega)).mono ?_; rintro e w2 ⟨rfl, p2⟩; rw [sp_kind] at p2; have r2 := r1.drew.put p2; have y1 : w2.cell? ⟨w.heap.size, 1, none⟩ = some (.int .i64 x.kind) := by { have := r2.X.cells.c1; rwa [Nat.zero_add] at this }))
  clear p2 r1 q1 y1
  have q2 : w2.cell? ⟨w.heap.size, 2, none⟩ = some (.int .i64 x.size) := by have := r2.X.cells.c2; rwa [Nat.zero_add] at this
  go_wp2_with fail
  go_region_held3 (fun w' => w'.cell? ⟨w.heap.size, 2, none⟩ = some (.int .i64 x.size))
    (first | exact q2 | exact y2)
    (first
      | (go_at_call 162; refine (psize_any (w.heap.size + 2) _).mono ?_; rintro e wq ⟨rfl, hq⟩; subst wq)
      | (go_at_call 159; refine (put4I_ok (w.heap.size + 2) 12 165 x.size _ _ r2.drew.R (by rw [recB_len]; omega) (by omega) (by omega)).mono ?_; rintro e w3 ⟨rfl, p3⟩; rw [sp_size] at p3; have r3 := r2.drew.put p3; have y2 : w3.cell? ⟨w.heap.size, 2, none⟩ = some (.int .i64 x.size) := by { have := r3.X.cells.c2; rwa [Nat.zero_add] at this }))
  clear p3 r2 q2 y2
  have q3 : w3.cell? ⟨w.heap.size, 3, none⟩ = some (.int .i64 x.change) := by have := r3.X.cells.c3; rwa [Nat.zero_add] at this
  go_wp2_with fail
  go_region_held3 (fun w' => w'.cell? ⟨w.heap.size, 3, none⟩ = some (.int .i64 x.change))
    (first | exact q3 | exact y3)
    (first
      | (go_at_call 163; refine (pchange_any (w.heap.size + 2) _).mono ?_; rintro e wq ⟨rfl, hq⟩; subst wq)
      | (go_at_call 159; refine (put8I_ok (w.heap.size + 2) 16 165 x.change _ _ r3.drew.R (by rw [recB_len]; omega) (by omega) (by omega)).mono ?_; rintro e w4 ⟨rfl, p4⟩; rw [sp_change] at p4; have r4 := r3.drew.put p4; have y3 : w4.cell? ⟨w.heap.size, 3, none⟩ = some (.int .i64 x.change) := by { have := r4.X.cells.c3; rwa [Nat.zero_add] at this }))
  clear p4 r3 q3 y3
  obtain ⟨A, hA⟩ : ∃ A, ((List.range 8).map fun i => Value.int .i64 (x.dir i)).toArray = A := ⟨_, rfl⟩
  have HA : Hid (∀ i, i < 8 → A[i]? = some (.int .i64 (x.dir i))) := by
    show ∀ i, i < 8 → A[i]? = some (.int .i64 (x.dir i))
    rw [← hA]; exact dirs_at x
  have hd8 := D8Load.mid (w := w4) (b := w.heap.size) (k := 4) r4.X.cells.dirs (by simp)
  rw [hA] at hd8
  clear hA
  go_wp2_with fail
  go_loopw [25] (fun v wr => ∃ i : Nat, i ≤ 8 ∧ v = .int .i64 i ∧ Rf w wr x (recB ⟨g, x.kind, x.size, x.change, cutD x.dir i, 0⟩)) (fun v _ => 8 - (intOf v).toNat)
  case atStart => exact ⟨0, by omega, rfl, r4⟩
  case round =>
    obtain ⟨i, hi, rfl, r5⟩ := hrel
    clear r4 hd8
    by_cases hi8 : i = 8
    · subst hi8
      have q5 : wr.cell? ⟨w.heap.size, 12, none⟩ = some (.int .i64 x.ind) := by have := r5.X.cells.c12; rwa [Nat.zero_add] at this
      go_wp2_with fail
      go_region_held3 (fun w' => w'.cell? ⟨w.heap.size, 12, none⟩ = some (.int .i64 x.ind))
        (first | exact q5 | exact y5)
        (first
          | (go_at_call 165; refine (pind_any (w.heap.size + 2) _).mono ?_; rintro e wq ⟨rfl, hq⟩; subst wq)
          | (go_at_call 159; refine (put4I_ok (w.heap.size + 2) 56 165 x.ind _ _ r5.drew.R (by rw [recB_len]; omega) (by omega) (by omega)).mono ?_; rintro e w6 ⟨rfl, p6⟩; rw [sp_ind] at p6; have r6 := r5.drew.put p6; have y5 : w6.cell? ⟨w.heap.size, 12, none⟩ = some (.int .i64 x.ind) := by { have := r6.X.cells.c12; rwa [Nat.zero_add] at this }))
      have e6 : recB ⟨g, x.kind, x.size, x.change, cutD x.dir 8, x.ind⟩ = recB (recOf g x) := rfl
      rw [e6] at r6
      clear p6 r5 q5 y5 e6
      have hl := recB_len (recOf g x)
      obtain ⟨bs, hbs⟩ : ∃ bs, recB (recOf g x) = bs := ⟨_, rfl⟩
      rw [hbs] at hl r6
      have HBS : Hid (recB (recOf g x) = bs) := hbs
      clear hbs
      have hld := RcLoad.row r6.R (by simpa using hl)
      have hst := RcStore.row (cs := rcA bs) r6.Z (by simp [recB_len]) (by simpa using hl) (rcA_one bs)
      have hsz : (rcA bs).size = 128 := by simpa using hl
      go_wp2_with fail
      refine bodyPost_ret (res1 rfl _ _ (w.heap.size + 1) 165 _ (0, 0) _ rfl (setRow_heap _ _ _ _ _ _ r6.Z) Tryz.underlying165 rfl (by rw [hsz]; exact rc_size)) rfl ?_
      exact ⟨by rw [HBS.out], below_setRow r6.B (by omega) _⟩
    · have hlt : (i : Int) < 8 := by omega
      have hix := fun w' => ix_d8 w' A i (by omega) (x.dir i) (HA.out i (by omega))
      have hb := d0 i (by omega)
      go_wp2_with fail
      refine (pdir_any (w.heap.size + 2) i (by omega) _).mono ?_
      rintro e wq ⟨rfl, hq⟩
      subst wq
      go_wp2_with fail
      refine (put4I_ok (w.heap.size + 2) (24 + 4 * i) 165 (x.dir i) _ _ r5.R (by rw [recB_len]; omega) hb.1 (by omega)).mono ?_
      rintro e w6 ⟨rfl, p6⟩
      have e6 := sp_dir ⟨g, x.kind, x.size, x.change, x.dir, 0⟩ x.dir i (by omega)
      rw [e6] at p6
      have r6 := r5.put p6
      clear p6 r5 e6
      go_wp2_with fail
      exact ⟨⟨i + 1, by omega, rfl, r6⟩, by simp [intOf]; omega⟩
end Go.Proofs.YtlcjkbhcbiggcaaGreatDoor

/- A slot's place, id, whether it is free. -/
namespace Go.Proofs.YtlcjkbhcbiggcaaGreatDoor
open Go.RowKit Go.Maps
set_option maxRecDepth 100000

attribute [local go_sem ↓ 100000] sl_store sl_load
attribute [local go_sem] SlStore.newS
theorem isFree_any (s : Slt) (w : World) :
    Calls Tryz.prog 86 #[slV s] w fun e w' => e = .returned (.bool (s.x.kind == 0)) ∧ Below w.heap.size w w' := by
  have b1 : Below w.heap.size w (w.alloc (.cells (slA s) 142)) := (Below.refl _ w).alloc (Nat.le_refl _) _
  have S1 : SlBox (w.alloc (.cells (slA s) 142)) w.heap.size s := heap_alloc_last w _
  have c6 := S1.cells.c6
  go_enter Tryz.func86, Tryz.ntmps86
  go_wp2_with fail
  go_ret
  exact ⟨rfl, b1⟩
theorem sid_ok (s : Slt) (h0 : 0 ≤ s.gen) (h1 : s.gen ≤ 1099511627777) (h2 : 0 ≤ s.n) (h3 : s.n ≤ 256) (w : World) :
    Calls Tryz.prog 146 #[slV s] w fun e w' => e = .returned (.int .i64 (s.gen * 256 + s.n)) ∧ Below w.heap.size w w' := by
  have b1 : Below w.heap.size w (w.alloc (.cells (slA s) 142)) := (Below.refl _ w).alloc (Nat.le_refl _) _
  have S1 : SlBox (w.alloc (.cells (slA s) 142)) w.heap.size s := heap_alloc_last w _
  have c1 := S1.cells.c1
  have c4 := S1.cells.c4
  have e1 : IntKind.i64.wrap (s.gen * 256) = s.gen * 256 := by rw [Go.IntWalk.i64_in _ ⟨by omega, by omega⟩]
  have e2 : IntKind.i64.wrap (s.gen * 256 + s.n) = s.gen * 256 + s.n := by rw [Go.IntWalk.i64_in _ ⟨by omega, by omega⟩]
  go_enter Tryz.func146, Tryz.ntmps146
  go_wp2_with fail
  go_ret
  exact ⟨rfl, b1⟩
theorem mayBeTaken_any (s : Slt) (w : World) :
    Calls Tryz.prog 102 #[slV s] w fun e w' => e = .returned (.bool (s.x.kind == 0 && decide (s.gen < 1099511627776))) ∧ Below w.heap.size w w' := by
  obtain ⟨W1, hW1⟩ : ∃ W, w.alloc (.cells (slA s) 142) = W := ⟨_, rfl⟩
  have b1 : Below w.heap.size w W1 := by rw [← hW1]; exact (Below.refl _ w).alloc (Nat.le_refl _) _
  have S1 : SlBox W1 w.heap.size s := by rw [← hW1]; exact heap_alloc_last w _
  have hld := SlLoad.row S1 (slA_size s)
  go_enter Tryz.func102, Tryz.ntmps102
  go_wp2_with fail
  try rw [hW1]
  go_wp2_with fail
  refine (isFree_any s _).mono ?_
  rintro e w2 ⟨rfl, b2⟩
  have S2 := S1.below b2
  have c4 := S2.cells.c4
  have b02 := b1.trans (b2.mono b1.size)
  clear hld
  by_cases k : s.x.kind = 0
  · have k' : (s.x.kind == 0) = true := by simpa using k
    have HK : Hid ((s.x.kind == 0) = true) := k'
    rw [k']
    go_wp2_with fail
    go_ret
    exact ⟨by rw [HK.out]; rfl, b02⟩
  · have k' : (s.x.kind == 0) = false := by simpa using k
    have HK : Hid ((s.x.kind == 0) = false) := k'
    rw [k']
    go_wp2_with fail
    go_ret
    exact ⟨by rw [HK.out]; rfl, b02⟩
theorem place_ok (s : Slt) (n g : Nat) (hn : s.n = (n : Nat)) (hg : s.bk = some ⟨g, 0, none⟩) (hl : s.len = 512) (hc : s.cap = 512) (hm : n ≤ 1000) (w : World) :
    Calls Tryz.prog 144 #[slV s] w fun e w' => e = .returned (.slice (some ⟨g, n % 4 * 128, none⟩) 128 128) ∧ Below w.heap.size w w' := by
  obtain ⟨W1, hW1⟩ : ∃ W, w.alloc (.cells (slA s) 142) = W := ⟨_, rfl⟩
  have b1 : Below w.heap.size w W1 := by rw [← hW1]; exact (Below.refl _ w).alloc (Nat.le_refl _) _
  have S1 : SlBox W1 w.heap.size s := by rw [← hW1]; exact heap_alloc_last w _
  have c1 : W1.cell? ⟨w.heap.size, 1, none⟩ = some (.int .i64 (n : Nat)) := by rw [← hn]; exact S1.cells.c1
  have c3 : W1.cell? ⟨w.heap.size, 3, none⟩ = some (.slice (some ⟨g, 0, none⟩) 512 512) := by rw [← hg, ← hl]; have := S1.cells.c3; rwa [hc, ← hl] at this
  have H : n % 4 = 0 ∨ n % 4 = 1 ∨ n % 4 = 2 ∨ n % 4 = 3 := by omega
  have ht : Int.tmod (n : Int) 4 = ((n % 4 : Nat) : Int) := by
    rw [Int.tmod_eq_emod_of_nonneg (by omega)]
    omega
  obtain ⟨q, hq⟩ : ∃ q, n % 4 = q := ⟨_, rfl⟩
  have HQ : Hid (n % 4 = q) := hq
  rw [hq] at H ht
  clear hq hn hg hl hc S1
  rcases H with rfl | rfl | rfl | rfl
  all_goals
    go_enter Tryz.func144, Tryz.ntmps144
    go_wp2_with fail
    try rw [hW1]
    go_wp2_with fail
  all_goals
    go_ret
    exact ⟨by rw [HQ.out]; rfl, b1⟩
end Go.Proofs.YtlcjkbhcbiggcaaGreatDoor

/- Whether the power is on, asked by a journal; Begin by its contract. -/
namespace Go.Proofs.YtlcjkbhcbiggcaaGreatDoor
open Go.RowKit Go.Maps
set_option maxRecDepth 100000

theorem met_ok {w : World} {jb wb d : Nat} (hW : Wk w wb d .nilIface) : Calls Tryz.prog 107 #[.pointer (some ⟨jb, 0, none⟩), .pointer (some ⟨wb, 0, none⟩)] w fun e w' => e = .returned (.int .i64 0) ∧ Below w.heap.size w w' := by
  have c0 := hW.c0
  have c1 := hW.c1
  go_enter Tryz.func107, Tryz.ntmps107
  go_wp2_with (go_at_call 74; refine (codeOf_nil _).mono ?_; rintro e w1 ⟨rfl, b1⟩)
  go_ret
  exact ⟨rfl, b1⟩
set_option maxHeartbeats 1000000 in
theorem power_ok {w : World} {d : Nat} {S : DevS} {k N : Nat} {G : Nat → Prop} (hD : Dev w d 0 S k N G) {jb st sz : Nat} {seq place free : Int} {bm : Nat} {op : Option Nat} (hJ : Jb w jb d st sz seq place free bm op) (ho : S.off = false) :
    Calls Tryz.prog 51 #[.pointer (some ⟨jb, 0, none⟩)] w fun e w' => e = .returned (.int .i64 0) ∧ Same0 w w' d S k N G := by
  have c0 := hJ.cells.c0
  have he : begE S = 0 := by unfold begE; rw [if_neg (by simp [ho])]
  have hF := hD.lt
  go_enter Tryz.func51, Tryz.ntmps51
  go_wp2_with fail
  refine (begun_any hD).mono ?_
  rintro e w1 ⟨ev, rfl, hev, k1, q1⟩
  rw [he] at hev
  obtain ⟨_, rfl⟩ := hev.resolve_right (fun h => h.1 rfl)
  clear c0
  go_wp2_with fail
  refine (met_ok k1).mono ?_
  rintro e w2 ⟨rfl, b2⟩
  go_wp2
  go_ret
  exact ⟨rfl, q1.1.below b2, q1.2.trans (Below.turns b2 (fun _ => False)) (fun _ _ r => r.elim)⟩
/-- A transaction's own block. -/
def Tb (w : World) (tb jb wm : Nat) (sv : Value) (last : Int) : Prop := w.heap[tb]? = some (.cells #[.pointer (some ⟨jb, 0, none⟩), .map (some wm), sv, .int .i64 last] 99)
theorem Jb.opened {w : World} {jb d st sz : Nat} {seq place free : Int} {bm : Nat} {op : Option Nat} (h : Jb w jb d st sz seq place free bm op) (t : Option Nat) : Jb (w.setCell ⟨jb, 7, none⟩ (.pointer (t.map fun t => ⟨t, 0, none⟩))) jb d st sz seq place free bm t := heap_setCell_same _ _ _ _ _ _ h
set_option maxHeartbeats 1000000 in
theorem begin_ok {w : World} {d : Nat} {S : DevS} {k N : Nat} {G : Nat → Prop} (hD : Dev w d 0 S k N G) {jb st sz : Nat} {seq place free : Int} {bm : Nat} (hJ : Jb w jb d st sz seq place free bm none) (hjG : ¬ G jb) (ho : S.off = false) :
    Calls Tryz.prog 81 #[.pointer (some ⟨jb, 0, none⟩)] w fun e w' => ∃ tb wm, e = .returned (.pointer (some ⟨tb, 0, none⟩)) ∧ w.heap.size ≤ tb ∧ w.heap.size ≤ wm ∧ Jb w' jb d st sz seq place free bm (some tb) ∧ Tb w' tb jb wm (.slice none 0 0) 0 ∧ Mp w' wm 0 [] ∧ Dev w' d 0 S k N G ∧ Turns (fun i => G i ∨ i = jb) w w' := by
  obtain ⟨c0, c1, c2, c3, c4, c5, c6, c7, c8, fz⟩ := hJ.cells
  have hF := hD.lt
  go_enter Tryz.func81, Tryz.ntmps81
  go_wp2_with fail
  refine (power_ok hD hJ ho).mono ?_
  rintro e w1 ⟨rfl, q1⟩
  have J1 : Jb w1 jb d st sz seq place free bm none := (q1.2.block jb (heap_lt hJ) hjG).trans hJ
  clear c0 c1 c2 c3 c4 c5 c6 c7 c8 fz
  obtain ⟨c0, c1, c2, c3, c4, c5, c6, c7, c8, fz⟩ := J1.cells
  have f7 := fz 7
  have hmm := fun (w : World) => run_makeMap (P := Tryz.prog) 96 w
  obtain ⟨W, hW⟩ : ∃ W, (w1.alloc (.map #[] 0)).alloc (.cells #[.pointer (some ⟨jb, 0, none⟩), .map (some w1.heap.size), .slice none 0 0, .int .i64 0] 99) = W := ⟨_, rfl⟩
  have bW : Below w1.heap.size w1 W := by rw [← hW]; exact ((Below.refl _ w1).alloc (Nat.le_refl _) _).alloc (by simp) _
  have MW : Mp W w1.heap.size 0 [] := by
    rw [← hW]
    exact ⟨(World.ownsMap_made w1 Tryz.prog 3 RV).alloc _, List.Pairwise.nil⟩
  have TW : Tb W (w1.heap.size + 1) jb w1.heap.size (.slice none 0 0) 0 := by
    have := (MapKept.heap_alloc (w1.alloc (.map #[] 0)) (.cells #[.pointer (some ⟨jb, 0, none⟩), .map (some w1.heap.size), .slice none 0 0, .int .i64 0] 99)).1
    rw [show (w1.alloc (.map #[] 0)).heap.size = w1.heap.size + 1 by simp, hW] at this
    exact this
  have sW : W.heap.size = w1.heap.size + 2 := by rw [← hW]; simp
  have JW : Jb W jb d st sz seq place free bm none := (bW.block jb (heap_lt J1)).trans J1
  have w7 := JW.cells.c7
  have x7 := JW.cells.fz 7
  have JV := JW.opened (some (w1.heap.size + 1))
  have TV := Turns.cell W jb 7 (.pointer ((some (w1.heap.size + 1)).map fun t => ⟨t, 0, none⟩))
  obtain ⟨V, hV⟩ : ∃ V, W.setCell ⟨jb, 7, none⟩ (.pointer (some ⟨w1.heap.size + 1, 0, none⟩)) = V := ⟨_, rfl⟩
  have JV : Jb V jb d st sz seq place free bm (some (w1.heap.size + 1)) := by rw [← hV]; exact JV
  have TV : Turns (fun i => i = jb) W V := by rw [← hV]; exact TV
  have v7 := JV.cells.c7
  have hjl := heap_lt J1
  have hs1 := q1.2.size
  have D1 := q1.1.turns (Below.turns bW (fun _ => False)) (fun _ _ => id)
  have DV := D1.turns TV (fun i hi e => hjG (e ▸ hi))
  have tV : Turns (fun i => G i ∨ i = jb) w V := ((q1.2.mono (fun _ _ => Or.inl)).trans (Below.turns bW (fun _ => False)) (fun _ _ r => r.elim)).trans TV (fun i _ r => Or.inr r)
  have TT : Tb V (w1.heap.size + 1) jb w1.heap.size (.slice none 0 0) 0 := (TV.block _ (by omega) (by omega)).trans TW
  have MV : Mp V w1.heap.size 0 [] := MW.turns TV (by omega)
  clear bW MW TW JW D1 TV q1 J1
  go_wp2_with fail
  go_ret
  exact ⟨_, _, rfl, by omega, hs1, JV, TT, MV, DV, tV⟩
end Go.Proofs.YtlcjkbhcbiggcaaGreatDoor

/- (*Tx).Write by its contract, where it is taken. -/
namespace Go.Proofs.YtlcjkbhcbiggcaaGreatDoor
open Go.RowKit Go.Maps
set_option maxRecDepth 100000

structure TbC (w : World) (tb jb wm : Nat) (sv : Value) (last : Int) : Prop where
  c0 : w.cell? ⟨tb, 0, none⟩ = some (.pointer (some ⟨jb, 0, none⟩))
  c1 : w.cell? ⟨tb, 1, none⟩ = some (.map (some wm))
  c2 : w.cell? ⟨tb, 2, none⟩ = some sv
  c3 : w.cell? ⟨tb, 3, none⟩ = some (.int .i64 last)
  fz : ∀ j, w.frozen? ⟨tb, j, none⟩ = false
theorem Tb.cells {w : World} {tb jb wm : Nat} {sv : Value} {last : Int} (h : Tb w tb jb wm sv last) : TbC w tb jb wm sv last := by
  unfold Tb at h
  constructor
  all_goals first | (intro j; simp [World.frozen?, h]) | simp [World.cell?, h]
theorem int_key (b : Nat) (h : b < 4096) : keyOf Tryz.prog 3 (.int .i64 b) = some (.int .i64 b) := keyOf_int_mk Tryz.underlying3 (q := .i64) (WalkArith.wf_i64 ⟨by omega, by omega⟩)
/-- What a look at a map answers. -/
theorem Mp.look {w : World} {bm n : Nat} {m : List (Nat × Nat)} (h : Mp w bm n m) (b : Nat) (hb : b < 4096) : (Instr.lookup 96 (.map (some bm)) (.int .i64 b) true).run Tryz.prog w = .ok (.tuple #[((lk m b).map hv).getD (.slice none 0 0), .bool (lk m b).isSome]) w := by
  obtain ⟨v, ps, hrun, hv'⟩ := h.own.look_ok law3 Tryz.underlying96 (zeroB w) (zd := .held (.slice none 0 0)) (zp := []) rfl (int_key b hb)
  rw [hrun, mD_has_int]
  rw [mD_at] at hv'
  cases e : lk m b with
  | none => rw [e] at hv'; simp [RV] at hv'; rw [hv'.1]; rfl
  | some g => rw [e] at hv'; simp [RV] at hv'; rw [hv'.1]; rfl
/-- A store into a map, as one step of a region that draws its order. -/
theorem step_update_own {H : Type} {P : Program} {ops : Array Oper} {o : Oper} {a : Act} {w : World} {C : Act → World → Prop} {Q : Exit → Act → World → Prop} {E : Prop} (hgd : o.guard = none) (m x v : Operand) (t : TypeId) (hop : o.op = Op.mapUpdate t m x v)
    (k e : TypeId) (K : Keyed P k) (ht : P.underlying t = some (.map k e)) (R : Value → Option (DataW H × List MemPlace)) (b n : Nat) (D : DataW H)
    (hm : a.eval m = .map (some b)) (hown : w.ownsMap P k R b n D) (hn : n < maxLen) (key val : Value) (kl : Lit) (hx : a.eval x = key) (hv : a.eval v = val) (hkey : keyOf P k key = some kl)
    (d : DataW H) (ps : List MemPlace) (hval : R val = some (d, ps))
    (hK : ∀ w', w'.ownsMap P k R b (n + 1) (D.put kl d) → w.mapTurned w' b → C (a.put o.dst undef) w') :
    if Region.wanted o (yielded ops a.tmps) = true then Oper.wp P o a w C Q else E := by
  have hw : Region.wanted o (yielded ops a.tmps) = true := by simp [Region.wanted, hgd]
  rw [if_pos hw]
  obtain ⟨w', hrun, r1, r2⟩ := hown.store K ht hn hkey hval
  unfold Oper.wp
  simp [execOp, hop, hm, hx, hv, hrun, Result.andThen]
  exact hK w' r1 r2
set_option maxHeartbeats 2000000 in
theorem txWrite_ok {w : World} {d : Nat} {S : DevS} {k N n : Nat} {G : Nat → Prop} (hD : Dev w d 0 S k N G) {jb st sz tb wm : Nat} {seq place free last : Int} {bm : Nat} {sv : Value} {m : List (Nat × Nat)} (hJ : Jb w jb d st sz seq place free bm (some tb)) (hT : Tb w tb jb wm sv last) (hM : Mp w wm n m) (hjG : ¬ G jb) (htG : ¬ G tb) (hmG : ¬ G wm) (htm : tb ≠ wm) (ho : S.off = false) (hst : st + sz ≤ k)
    (b : Nat) (hb : b < k) (hout : b < st ∨ st + sz ≤ b) (ao : Option Addr) (c : Nat) (ds : List Int) (hL : Lies w ao 512 c ds) (haG : ∀ ad, ao = some ad → ¬ G ad.block) (hroom : (lk m b).isSome = true ∨ m.length < 24) (hn : n ≤ 1000000) :
    Calls Tryz.prog 94 #[.pointer (some ⟨tb, 0, none⟩), .int .i64 b, .slice ao 512 c] w fun e w' => ∃ g, e = .returned (.int .i64 0) ∧ w.heap.size ≤ g ∧ w'.heap[g]? = some (bl ds) ∧ Mp w' wm (n + 1) (mput m b g) ∧ Dev w' d 0 S k N G ∧ Turns (fun i => G i ∨ i = wm) w w' := by
  obtain ⟨c0, c1, c2, c3, c4, c5, c6, c7, c8, fz⟩ := hJ.cells
  obtain ⟨t0, t1, t2, t3, tz⟩ := hT.cells
  have hk := hD.good.top
  have hoB : outB k st sz b = true := by simp [outB]; omega
  go_enter Tryz.func94, Tryz.ntmps94
  go_wp2_with fail
  have m1 := outside_any hD st sz (by omega) (by omega) b
  rw [hoB] at m1
  refine m1.mono ?_
  rintro e w1 ⟨rfl, q1⟩
  have J1 : Jb w1 jb d st sz seq place free bm (some tb) := (q1.2.block jb (heap_lt hJ) hjG).trans hJ
  have T1 : Tb w1 tb jb wm sv last := (q1.2.block tb (heap_lt hT) htG).trans hT
  have M1 := hM.turns q1.2 hmG
  have L1 := hL.turns q1.2 haG
  clear c0 c1 c2 c3 c4 c5 c6 c7 c8 fz t0 t1 t2 t3 tz m1
  go_wp2_with fail
  refine (power_ok q1.1 J1 ho).mono ?_
  rintro e w2 ⟨rfl, q2⟩
  have T2 : Tb w2 tb jb wm sv last := (q2.2.block tb (heap_lt T1) htG).trans T1
  have M2 := M1.turns q2.2 hmG
  have L2 := L1.turns q2.2 haG
  obtain ⟨t0, t1, t2, t3, tz⟩ := T2.cells
  have hlo := M2.look b (by omega)
  have hown := M2.own
  have hsz : (Maps.size (mD m) : Int) = (m.length : Int) := by simp [mD, Maps.size_eq]
  have hln := fun ty => hown.len Tryz.underlying96 ty
  simp only [hsz] at hln
  cases hlk : lk m b with
  | some g0 =>
    rw [hlk] at hlo
    go_wp2_with fail
    go_region_held3 (fun w' => w'.cell? ⟨tb, 1, none⟩ = some (.map (some wm)))
      (first | exact t1 | exact t1' | exact t1'')
      (first
        | (go_at_call 152; refine (jcopied_any ao 512 c ds w2.drew (by omega) (L2.below (Below.drew (Below.refl _ w2)) (Nat.le_refl _))).mono ?_; rintro e w3 ⟨g, rfl, lg, bg, b3⟩; have b3 := Below.fromDrew b3; have lg : w2.heap.size ≤ g := lg; have T3 : Tb w3 tb jb wm sv last := (b3.block tb (heap_lt T2)).trans T2; have hm3 := (M2.turns (Below.turns b3 (fun _ => False)) id).own; have t1' := T3.cells.c1; obtain ⟨w4, hrun4, hown4, htr4⟩ := hm3.store (val := .slice (some ⟨g, 0, none⟩) 512 512) law3 Tryz.underlying96 (by unfold maxLen; omega) (int_key b (by omega)) (d := .held (hv g)) (ps := []) rfl; have t1'' : w4.cell? ⟨tb, 1, none⟩ = some (.map (some wm)) := htr4.grown.cell t1' (fun e => htm (Option.some.inj e))))
    have D3 := q2.1.below b3
    have s1 := q1.2.size
    have s2 := q2.2.size
    have tt : Turns (fun i => G i ∨ i = wm) w w3 := ((q1.2.trans q2.2 (fun _ _ h => h)).mono (fun _ _ => Or.inl)).trans (Below.turns b3 (fun _ => False)) (fun _ _ r => r.elim)
    have t4 : Turns (fun i => i = wm) w3 w4 := Turns.grown htr4.grown (fun x hx => (Option.some.inj hx).symm)
    have hgm : g ≠ wm := fun e => by have := M2.lt; omega
    have hM4 : Mp w4 wm (n + 1) (mput m b g) := ⟨by rw [← mD_put hM.ris b g (hown4.canon law3)]; exact hown4, mput_rising b g hM.ris⟩
    have hg4 := (t4.block g (heap_lt bg) hgm).trans bg
    have D4 := D3.turns t4 (fun i hi e => hmG (e ▸ hi))
    have tt4 := tt.trans t4 (fun i _ r => Or.inr r)
    clear hlo hown t0 t1 t2 t3 tz D3 tt T2 M2 T1 M1 L1 L2 J1 q1 q2 bg b3 hown4 htr4 t4 hm3 hrun4
    go_wp2
    go_ret
    exact ⟨g, rfl, by omega, hg4, hM4, D4, tt4⟩
  | none =>
    rw [hlk] at hlo
    have hm24 : m.length < 24 := hroom.resolve_left (by rw [hlk]; decide)
    have hmi : ¬ (m.length : Int) = 24 := by omega
    go_wp2_with fail
    go_region_held3 (fun w' => w'.cell? ⟨tb, 1, none⟩ = some (.map (some wm)))
      (first | exact t1 | exact t1' | exact t1'')
      (first
        | (go_at_call 152; refine (jcopied_any ao 512 c ds w2.drew (by omega) (L2.below (Below.drew (Below.refl _ w2)) (Nat.le_refl _))).mono ?_; rintro e w3 ⟨g, rfl, lg, bg, b3⟩; have b3 := Below.fromDrew b3; have lg : w2.heap.size ≤ g := lg; have T3 : Tb w3 tb jb wm sv last := (b3.block tb (heap_lt T2)).trans T2; have hm3 := (M2.turns (Below.turns b3 (fun _ => False)) id).own; have t1' := T3.cells.c1; obtain ⟨w4, hrun4, hown4, htr4⟩ := hm3.store (val := .slice (some ⟨g, 0, none⟩) 512 512) law3 Tryz.underlying96 (by unfold maxLen; omega) (int_key b (by omega)) (d := .held (hv g)) (ps := []) rfl; have t1'' : w4.cell? ⟨tb, 1, none⟩ = some (.map (some wm)) := htr4.grown.cell t1' (fun e => htm (Option.some.inj e))))
    have D3 := q2.1.below b3
    have s1 := q1.2.size
    have s2 := q2.2.size
    have tt : Turns (fun i => G i ∨ i = wm) w w3 := ((q1.2.trans q2.2 (fun _ _ h => h)).mono (fun _ _ => Or.inl)).trans (Below.turns b3 (fun _ => False)) (fun _ _ r => r.elim)
    have t4 : Turns (fun i => i = wm) w3 w4 := Turns.grown htr4.grown (fun x hx => (Option.some.inj hx).symm)
    have hgm : g ≠ wm := fun e => by have := M2.lt; omega
    have hM4 : Mp w4 wm (n + 1) (mput m b g) := ⟨by rw [← mD_put hM.ris b g (hown4.canon law3)]; exact hown4, mput_rising b g hM.ris⟩
    have hg4 := (t4.block g (heap_lt bg) hgm).trans bg
    have D4 := D3.turns t4 (fun i hi e => hmG (e ▸ hi))
    have tt4 := tt.trans t4 (fun i _ r => Or.inr r)
    clear hlo hown t0 t1 t2 t3 tz D3 tt T2 M2 T1 M1 L1 L2 J1 q1 q2 bg b3 hown4 htr4 t4 hm3 hrun4
    go_wp2
    go_ret
    exact ⟨g, rfl, by omega, hg4, hM4, D4, tt4⟩
end Go.Proofs.YtlcjkbhcbiggcaaGreatDoor

/- What a transaction sees of a block: newest, (*Tx).Read by their contracts. -/
namespace Go.Proofs.YtlcjkbhcbiggcaaGreatDoor
open Go.RowKit Go.Maps
set_option maxRecDepth 100000

/-- What a transaction sees: what it has written, what is not home, what the device tells. -/
def Sees (w : World) (S : DevS) (m a : List (Nat × Nat)) (b : Nat) (src : List Int) : Prop :=
  (∃ g, lk m b = some g ∧ w.heap[g]? = some (bl src)) ∨ (lk m b = none ∧ ((∃ g, lk a b = some g ∧ w.heap[g]? = some (bl src)) ∨ (lk a b = none ∧ src = rdB S b)))
theorem Sees.turns {F : Nat → Prop} {w w' : World} {S : DevS} {m a : List (Nat × Nat)} {b : Nat} {src : List Int} (h : Sees w S m a b src) (t : Turns F w w') (hm : ∀ g, lk m b = some g → ¬ F g) (ha : ∀ g, lk a b = some g → ¬ F g) : Sees w' S m a b src := by
  rcases h with ⟨g, h1, h2⟩ | ⟨h1, ⟨g, h2, h3⟩ | h2⟩
  · exact Or.inl ⟨g, h1, (t.block g (heap_lt h2) (hm g h1)).trans h2⟩
  · exact Or.inr ⟨h1, Or.inl ⟨g, h2, (t.block g (heap_lt h3) (ha g h2)).trans h3⟩⟩
  · exact Or.inr ⟨h1, Or.inr h2⟩
set_option maxHeartbeats 2000000 in
theorem newest_ok {w : World} {d : Nat} {S : DevS} {k N n n2 : Nat} {G : Nat → Prop} (hD : Dev w d 0 S k N G) {jb st sz tb wm wb : Nat} {seq place free last : Int} {bm : Nat} {sv : Value} {m a : List (Nat × Nat)} (hW : Wk w wb d .nilIface) (hwG : ¬ G wb) (hJ : Jb w jb d st sz seq place free bm (some tb)) (hT : Tb w tb jb wm sv last) (hM : Mp w wm n m) (hA : Mp w bm n2 a) (ho : S.off = false) (b : Nat) (hb : b < k) (src : List Int) (hs : Sees w S m a b src) (hl : src.length = 512) :
    Calls Tryz.prog 111 #[.pointer (some ⟨tb, 0, none⟩), .int .i64 b, .pointer (some ⟨wb, 0, none⟩)] w fun e w' => ∃ g, e = .returned (hv g) ∧ w.heap.size ≤ g ∧ w'.heap[g]? = some (bl src) ∧ Wk w' wb d .nilIface ∧ Dev w' d 0 S k N G ∧ Turns (fun i => G i ∨ i = wb) w w' := by
  obtain ⟨c0, c1, c2, c3, c4, c5, c6, c7, c8, fz⟩ := hJ.cells
  obtain ⟨t0, t1, t2, t3, tz⟩ := hT.cells
  have hk := hD.good.top
  have lm := hM.look b (by omega)
  have la := hA.look b (by omega)
  rcases hs with ⟨g0, h1, h2⟩ | ⟨h1, ⟨g0, h2, h3⟩ | ⟨h2, rfl⟩⟩
  · rw [h1] at lm
    have hL := Lies.full h2 hl
    clear la
    go_enter Tryz.func111, Tryz.ntmps111
    go_wp2_with fail
    refine (jcopied_any _ _ _ _ _ (by omega) hL).mono ?_
    rintro e w1 ⟨g1, rfl, l1, b1, q1⟩
    go_wp2
    go_ret
    exact ⟨g1, rfl, l1, b1, hW.turns (Below.turns q1 (fun _ => False)) id, hD.below q1, Below.turns q1 _⟩
  · rw [h1] at lm
    rw [h2] at la
    have hL := Lies.full h3 hl
    go_enter Tryz.func111, Tryz.ntmps111
    go_wp2_with fail
    refine (jcopied_any _ _ _ _ _ (by omega) hL).mono ?_
    rintro e w1 ⟨g1, rfl, l1, b1, q1⟩
    go_wp2
    go_ret
    exact ⟨g1, rfl, l1, b1, hW.turns (Below.turns q1 (fun _ => False)) id, hD.below q1, Below.turns q1 _⟩
  · rw [h1] at lm
    rw [h2] at la
    go_enter Tryz.func111, Tryz.ntmps111
    go_wp2_with fail
    refine (wkread_ok hD hW hwG ho b hb).mono ?_
    rintro e w1 ⟨g1, rfl, l1, b1, k1, d1, t1⟩
    go_wp2
    go_ret
    exact ⟨g1, rfl, l1, b1, k1, d1, t1⟩
set_option maxHeartbeats 2000000 in
theorem txRead_ok {w : World} {d : Nat} {S : DevS} {k N n n2 : Nat} {G : Nat → Prop} (hD : Dev w d 0 S k N G) {jb st sz tb wm : Nat} {seq place free last : Int} {bm : Nat} {sv : Value} {m a : List (Nat × Nat)} (hJ : Jb w jb d st sz seq place free bm (some tb)) (hT : Tb w tb jb wm sv last) (hM : Mp w wm n m) (hA : Mp w bm n2 a) (hjG : ¬ G jb) (htG : ¬ G tb) (hmG : ¬ G wm) (haG : ¬ G bm) (b : Nat) (hmd : ∀ g, lk m b = some g → ¬ G g) (had : ∀ g, lk a b = some g → ¬ G g) (ho : S.off = false) (hst : st + sz ≤ k) (hb : b < k) (hout : b < st ∨ st + sz ≤ b) (src : List Int) (hs : Sees w S m a b src) (hl : src.length = 512) :
    Calls Tryz.prog 60 #[.pointer (some ⟨tb, 0, none⟩), .int .i64 (b : Nat)] w fun e w' => ∃ g, e = .returned (.tuple #[hv g, .int .i64 0]) ∧ w.heap.size ≤ g ∧ w'.heap[g]? = some (bl src) ∧ Dev w' d 0 S k N G ∧ Turns G w w' := by
  obtain ⟨c0, c1, c2, c3, c4, c5, c6, c7, c8, fz⟩ := hJ.cells
  obtain ⟨t0, t1, t2, t3, tz⟩ := hT.cells
  have hk := hD.good.top
  have hF := hD.lt
  have hoB : outB k st sz b = true := by simp [outB]; omega
  have he : begE S = 0 := by unfold begE; rw [if_neg (by simp [ho])]
  have m1 := outside_any hD st sz (by omega) (by omega) b
  rw [hoB] at m1
  go_enter Tryz.func60, Tryz.ntmps60
  go_wp2_with fail
  refine m1.mono ?_
  rintro e w1 ⟨rfl, q1⟩
  have J1 : Jb w1 jb d st sz seq place free bm (some tb) := (q1.2.block jb (heap_lt hJ) hjG).trans hJ
  have T1 : Tb w1 tb jb wm sv last := (q1.2.block tb (heap_lt hT) htG).trans hT
  have M1 := hM.turns q1.2 hmG
  have A1 := hA.turns q1.2 haG
  have S1 := hs.turns q1.2 hmd had
  have s1 := q1.2.size
  clear c0 c1 c2 c3 c4 c5 c6 c7 c8 fz t0 t1 t2 t3 tz m1
  have c0 := J1.cells.c0
  go_wp2_with fail
  refine (begun_any q1.1).mono ?_
  rintro e w2 ⟨ev, rfl, hev, k2, q2⟩
  rw [he] at hev
  obtain ⟨_, rfl⟩ := hev.resolve_right (fun h => h.1 rfl)
  have J2 : Jb w2 jb d st sz seq place free bm (some tb) := (q2.2.block jb (heap_lt J1) hjG).trans J1
  have T2 : Tb w2 tb jb wm sv last := (q2.2.block tb (heap_lt T1) htG).trans T1
  have M2 := M1.turns q2.2 hmG
  have A2 := A1.turns q2.2 haG
  have S2 := S1.turns q2.2 hmd had
  have s2 := q2.2.size
  have hwG : ¬ G w1.heap.size := fun h => by have := q1.1.lt _ h; omega
  clear c0
  go_wp2_with fail
  refine (newest_ok q2.1 k2 hwG J2 T2 M2 A2 ho b hb src S2 hl).mono ?_
  rintro e w3 ⟨g3, rfl, l3, b3, k3, d3, t3⟩
  go_wp2_with fail
  refine (met_ok k3).mono ?_
  rintro e w4 ⟨rfl, b4⟩
  have hg4 := (b4.block g3 (heap_lt b3)).trans b3
  have d4 := d3.below b4
  have tt : Turns G w w4 := ((q1.2.trans q2.2 (fun _ _ h => h)).trans (t3.mono (G := fun i => G i ∨ i = w1.heap.size) (fun _ _ h => h)) (fun i hi r => r.elim id (fun r => by omega))).trans (Below.turns b4 (fun _ => False)) (fun _ _ r => r.elim)
  clear k3 b4 d3 t3 J2 T2 M2 A2 S2 J1 T1 M1 A1 S1 q1 q2 k2 b3
  go_wp2
  refine bodyPost_ret (results_tmp2 rfl _ _ _) rfl ?_
  exact ⟨g3, rfl, by omega, hg4, d4, tt⟩
end Go.Proofs.YtlcjkbhcbiggcaaGreatDoor

/- A transaction that has ended: close, Drop, Commit of nothing, Read by their contracts. -/
namespace Go.Proofs.YtlcjkbhcbiggcaaGreatDoor
open Go.RowKit Go.Maps
set_option maxRecDepth 100000

/-- A transaction that is not open any more. -/
def Td (w : World) (tb : Nat) : Prop := w.heap[tb]? = some (.cells #[.pointer none, .map none, .slice none 0 0, .int .i64 0] 99)
set_option maxHeartbeats 1000000 in
theorem close_ok {w : World} {tb jb wm d st sz : Nat} {sv : Value} {last seq place free : Int} {bm : Nat} (hT : Tb w tb jb wm sv last) (hJ : Jb w jb d st sz seq place free bm (some tb)) (hne : tb ≠ jb) :
    Calls Tryz.prog 147 #[.pointer (some ⟨tb, 0, none⟩)] w fun e w' => e = .returned (.tuple #[]) ∧ Td w' tb ∧ Jb w' jb d st sz seq place free bm none ∧ Turns (fun i => i = tb ∨ i = jb) w w' := by
  have t0 := hT.cells.c0
  have c7 := hJ.cells.c7
  have f7 := hJ.cells.fz 7
  have JV := hJ.opened none
  have TV := Turns.cell w jb 7 (.pointer ((none : Option Nat).map fun t => (⟨t, 0, none⟩ : Addr)))
  obtain ⟨V, hV⟩ : ∃ V, w.setCell ⟨jb, 7, none⟩ (.pointer none) = V := ⟨_, rfl⟩
  have JV : Jb V jb d st sz seq place free bm none := by rw [← hV]; exact JV
  have TV : Turns (fun i => i = jb) w V := by rw [← hV]; exact TV
  have T2 : Tb V tb jb wm sv last := (TV.block tb (heap_lt hT) hne).trans hT
  obtain ⟨v0, v1, v2, v3, vz⟩ := T2.cells
  have z0 := vz 0
  have z1 := vz 1
  have z2 := vz 2
  have z3 := vz 3
  go_enter Tryz.func147, Tryz.ntmps147
  go_wp2_with fail
  first | go_end0 | refine bodyPost_ret (results_none rfl _ _ _) rfl ?_
  have e1 := heap_setCell_same _ tb 0 _ _ (.pointer none) T2
  have e2 := heap_setCell_same _ tb 1 _ _ (.map none) e1
  have e3 := heap_setCell_same _ tb 2 _ _ (.slice none 0 0) e2
  have e4 := heap_setCell_same _ tb 3 _ _ (.int .i64 0) e3
  have TT := (((Turns.cell V tb 0 (.pointer none)).trans (Turns.cell _ tb 1 (.map none)) (fun _ _ h => h)).trans (Turns.cell _ tb 2 (.slice none 0 0)) (fun _ _ h => h)).trans (Turns.cell _ tb 3 (.int .i64 0)) (fun _ _ h => h)
  exact ⟨rfl, e4, (TT.block jb (heap_lt JV) (fun e => hne e.symm)).trans JV, (TV.mono (fun _ _ => Or.inr)).trans TT (fun _ _ => Or.inl)⟩
theorem drop_ok {w : World} {tb jb wm d st sz : Nat} {sv : Value} {last seq place free : Int} {bm : Nat} (hT : Tb w tb jb wm sv last) (hJ : Jb w jb d st sz seq place free bm (some tb)) (hne : tb ≠ jb) :
    Calls Tryz.prog 87 #[.pointer (some ⟨tb, 0, none⟩)] w fun e w' => e = .returned (.tuple #[]) ∧ Td w' tb ∧ Jb w' jb d st sz seq place free bm none ∧ Turns (fun i => i = tb ∨ i = jb) w w' := by
  have t0 := hT.cells.c0
  go_enter Tryz.func87, Tryz.ntmps87
  go_wp2_with fail
  refine (close_ok hT hJ hne).mono ?_
  rintro e w1 ⟨rfl, h1, h2, h3⟩
  go_wp2
  first | go_end0 | refine bodyPost_ret (results_none rfl _ _ _) rfl ?_
  exact ⟨rfl, h1, h2, h3⟩
set_option maxHeartbeats 1000000 in
theorem commit_none {w : World} {d : Nat} {S : DevS} {k N n : Nat} {G : Nat → Prop} (hD : Dev w d 0 S k N G) {tb jb wm st sz : Nat} {sv : Value} {last seq place free : Int} {bm : Nat} (hT : Tb w tb jb wm sv last) (hJ : Jb w jb d st sz seq place free bm (some tb)) (hM : Mp w wm n []) (hne : tb ≠ jb) (htm : tb ≠ wm) (hjm : jb ≠ wm) (hjG : ¬ G jb) (htG : ¬ G tb) (hmG : ¬ G wm) (ho : S.off = false) :
    Calls Tryz.prog 90 #[.pointer (some ⟨tb, 0, none⟩)] w fun e w' => e = .returned (.int .i64 0) ∧ Td w' tb ∧ Jb w' jb d st sz seq place free bm none ∧ Dev w' d 0 S k N G ∧ Turns (fun i => G i ∨ i = tb ∨ i = jb) w w' := by
  have t0 := hT.cells.c0
  have t1 := hT.cells.c1
  go_enter Tryz.func90, Tryz.ntmps90
  go_wp2_with fail
  go_quiet (fail)
  go_wp2_with fail
  refine (close_ok (w := w.drewN _) hT hJ hne).mono ?_
  rintro e w1 ⟨rfl, T1, J1, u1⟩
  have u1 : Turns (fun i => i = tb ∨ i = jb) w w1 := (Turns.drewN _ w _).trans u1 (fun _ _ h => h)
  have D1 := hD.turns u1 (fun i hi h => h.elim (fun e => htG (e ▸ hi)) (fun e => hjG (e ▸ hi)))
  have M1 := hM.turns u1 (fun h => h.elim (fun e => htm e.symm) (fun e => hjm e.symm))
  clear t0 t1
  go_wp2_with fail
  refine (power_ok D1 J1 ho).mono ?_
  rintro e w2 ⟨rfl, q2⟩
  have M2 := M1.turns q2.2 hmG
  have T2 : Td w2 tb := (q2.2.block tb (heap_lt T1) htG).trans T1
  have J2 : Jb w2 jb d st sz seq place free bm none := (q2.2.block jb (heap_lt J1) hjG).trans J1
  have hown := M2.own
  have hsz : (Maps.size (mD []) : Int) = 0 := by simp [mD, Maps.size_eq]
  have hln := fun ty => hown.len Tryz.underlying96 ty
  simp only [hsz] at hln
  have tt : Turns (fun i => G i ∨ i = tb ∨ i = jb) w w2 := (u1.mono (fun _ _ h => Or.inr h)).trans q2.2 (fun _ _ h => Or.inl h)
  have D2 := q2.1
  clear D1 M1 T1 J1 u1 q2 hown hsz
  go_wp2_with fail
  go_ret
  exact ⟨rfl, T2, J2, D2, tt⟩
theorem txRead_end {w : World} {tb : Nat} (hT : Td w tb) (b : Int) :
    Calls Tryz.prog 60 #[.pointer (some ⟨tb, 0, none⟩), .int .i64 b] w fun e w' => e = .returned (.tuple #[.slice none 0 0, .int .i64 76]) ∧ w' = w := by
  have t0 : w.cell? ⟨tb, 0, none⟩ = some (.pointer none) := by unfold Td at hT; simp [World.cell?, hT]
  go_enter Tryz.func60, Tryz.ntmps60
  go_wp2
  refine bodyPost_ret (results_tmp2 rfl _ _ _) rfl ?_
  exact ⟨rfl, rfl⟩
end Go.Proofs.YtlcjkbhcbiggcaaGreatDoor

/- The blocks of a map, rising: rising by its contract. (The library's sort by its own.) -/
namespace Go.Proofs.YtlcjkbhcbiggcaaGreatDoor
open Go.RowKit Go.Maps Go.Sort
set_option maxRecDepth 100000

/-- What has been gathered of a map's keys. -/
structure Coll (D0 : DataW Value) (left : Lit → Bool) (ss : List Int) : Prop where
  nd : ss.Nodup
  iff : ∀ x : Int, x ∈ ss ↔ (has D0 (.int .i64 x) && !left (.int .i64 x)) = true
theorem Coll.start (D0 : DataW Value) : Coll D0 (has D0) [] := ⟨List.nodup_nil, fun x => by cases has D0 (.int .i64 x) <;> simp⟩
theorem Coll.step {D0 : DataW Value} {left : Lit → Bool} {ss : List Int} (h : Coll D0 left ss) {x : Int} (hl : left (.int .i64 x) = true) (hh : has D0 (.int .i64 x) = true) : Coll D0 (fun z => left z && !z.sameKey (.int .i64 x)) (ss ++ [x]) := by
  have hx : x ∉ ss := fun q => by have := (h.iff x).1 q; rw [hl] at this; simp at this
  refine ⟨?_, fun y => ?_⟩
  · rw [List.nodup_append]
    exact ⟨h.nd, by simp, fun a ha b hb e => by simp at hb; subst hb; subst e; exact hx ha⟩
  · rw [List.mem_append, List.mem_singleton, h.iff]
    by_cases e : y = x
    · subst e
      simp [hh, Lit.sameKey]
    · have : (Lit.int .i64 y).sameKey (.int .i64 x) = false := by simp [Lit.sameKey, e]
      simp [this, e]
theorem Coll.done {m : List (Nat × Nat)} {left : Lit → Bool} {ss : List Int} (hr : Rising m) (h : Coll (mD m) left ss) (hl : ∀ k, left k = false) : ss.mergeSort (fun x y => decide (x ≤ y)) = m.map (fun p => (p.1 : Int)) := by
  have hp : ss.Perm (m.map (fun p => (p.1 : Int))) := by
    refine (List.perm_ext_iff_of_nodup h.nd ?_).2 (fun x => ?_)
    · rw [List.nodup_iff_pairwise_ne, List.pairwise_map]
      exact hr.imp (fun {p q} hpq e => by omega)
    · rw [h.iff, hl, mD_has]
      simp only [Bool.not_false, Bool.and_true, List.any_eq_true, List.mem_map]
      constructor
      · rintro ⟨p, hp, hs⟩
        refine ⟨p, hp, ?_⟩
        simpa [Lit.sameKey] using hs
      · rintro ⟨p, hp, rfl⟩
        exact ⟨p, hp, by simp [Lit.sameKey]⟩
  have hs1 : (ss.mergeSort (fun x y => decide (x ≤ y))).Pairwise (fun a b => decide (a ≤ b) = true) := List.pairwise_mergeSort (fun a b c h1 h2 => by simp at *; omega) (fun a b => by simp; omega) ss
  have hs2 : (m.map (fun p => (p.1 : Int))).Pairwise (fun a b => decide (a ≤ b) = true) := by
    rw [List.pairwise_map]
    exact hr.imp (fun {p q} hpq => by simp; omega)
  exact ((List.mergeSort_perm ss _).trans hp).eq_of_pairwise (fun a b _ _ h1 h2 => by simp at h1 h2; omega) hs1 hs2

theorem Tryz.info3 : (Tryz.prog.info? 3).map (fun i => (i.zero, i.size, i.bytes)) = some (some (.int .i64 0), 1, 8) := by kernel_rfl
theorem iter_ne {w : World} {bm r n : Nat} {m : List (Nat × Nat)} {left : Lit → Bool} {cnt : Nat} (h : w.ranges Tryz.prog 3 RV bm r n (mD m) left cnt) {base e k : Nat} {v : Value} {xs : List Value} (ho : w.ownsRow base e 1 v k xs) : v.ownBlock ≠ some r := fun q => by
  rcases ho.2 with ⟨r1, _⟩ | ⟨g, cap, cur, r1, _, hh, _⟩
  · rw [r1] at q; cases q
  · rw [r1] at q; cases q
    obtain ⟨es, clock, since, seen, c0, _, _, _, _, hit, _⟩ := h
    rw [hh] at hit
    cases hit
set_option maxHeartbeats 400000 in
theorem sort_h {w wr : World} {g cap base : Nat} {cur : Array Value} {ss ts : List Int} {L : Nat} (hB : Below base w wr) (hbase : base ≤ g) (hb : wr.heap[g]? = some (.cells cur 3 (0, 0))) (h1 : ss.length ≤ cap) (h2 : cap ≤ maxLen) (h3 : cur.size = cap * 1) (h4 : cur.toList.take (ss.length * 1) = ss.map (Value.int .i64)) (hss : ss.mergeSort (fun x y => decide (x ≤ y)) = ts) (hlen : ss.length = L) (hl : ss.length ≤ 100000) (hsz : base ≤ wr.heap.size) :
    Calls Tryz.prog 112 #[.slice (some ⟨g, 0, none⟩) ss.length cap] wr fun e w' => e = .returned (.tuple #[]) ∧ w'.ownsRow base 3 1 (.slice (some ⟨g, 0, none⟩) L cap) L (ts.map (Value.int .i64)) ∧ Below base w w' := by
  have hH : Holds (Value.int .i64) wr g 0 ss.toArray := holds_of_blockI hb (by simpa using h4)
  refine (Tryz.slices_Sort_int g 0 cap ss wr hH (heap_lt hb) (by omega)).mono ?_
  rintro e w' ⟨rfl, nn, os, rfl⟩
  subst hlen
  subst hss
  refine ⟨rfl, ?_, ?_⟩
  · exact ownsRow_sortedI (by simp) hbase hb h1 h2 h3
  · exact hB.grown (grownBy_sortedI _) hsz (fun j hj => by cases hj; exact hbase)
set_option maxHeartbeats 1000000 in
theorem rising_any {w : World} {bm n : Nat} {m : List (Nat × Nat)} (h : Mp w bm n m) (hn : m.length ≤ 100000) :
    Calls Tryz.prog 61 #[.map (some bm)] w fun e w' => ∃ g c, e = .returned (.slice (some ⟨g, 0, none⟩) m.length c) ∧ w'.ownsRow w.heap.size 3 1 (.slice (some ⟨g, 0, none⟩) m.length c) m.length (m.map fun p => .int .i64 p.1) ∧ Below w.heap.size w w' := by
  obtain ⟨i0, hi, hz0, hz1, hz2⟩ := info_parts Tryz.info3
  have hown := h.own
  have hsz : Maps.size (mD m) = m.length := by simp [mD, Maps.size_eq]
  have hbl := hown.lt
  have hln : (Maps.size (mD m) : Int) = (m.length : Int) := by rw [hsz]
  go_enter Tryz.func61, Tryz.ntmps61
  go_wp2_with (first
    | (at_len; refine wpList_len_own _ rfl _ 96 rfl 3 39 Tryz.underlying96 _ bm n _ rfl hown ?_)
    | (at_make; refine wpList_make_own _ rfl _ _ 28 rfl w.heap.size 3 i0 (.int .i64 0) 1 Tryz.underlying28 hi hz0 hz1 _ _ _ m.length rfl rfl hln (by rw [hz2]; omega) (by unfold maxLen; omega) (Nat.le_refl _) ?_; intro w1 hrow1 hg1)
    | (at_range; refine wpList_range_own _ rfl _ 96 rfl 3 39 law3 Tryz.underlying96 _ bm n _ rfl (hown.kept hg1 (by simp)) ?_; intro w0 hrg0 hg0 hs0))
  have hb1 : Below w.heap.size w w1 := (Below.refl _ _).grown hg1 (Nat.le_refl _) (fun j hj => by cases hj)
  have hb0 : Below w.heap.size w w0 := hb1.grown hg0 hg1.size (fun j hj => by cases hj)
  go_frame
  go_loopw [3] (fun v wr => ∃ (left : Lit → Bool) (cnt : Nat) (ss : List Int), wr.ranges Tryz.prog 3 RV bm w1.heap.size n (mD m) left cnt ∧ ss.length + cnt ≤ m.length ∧ wr.ownsRow w.heap.size 3 1 v ss.length (ss.map (Value.int .i64)) ∧ v ≠ .slice none 0 0 ∧ Coll (mD m) left ss ∧ Below w.heap.size w wr) (fun _ wr => wr.rangeLeft bm w1.heap.size)
  case atStart =>
    exact ⟨_, _, [], hrg0, by rw [hsz]; simp, hrow1.kept hg0 (Or.inr (by simp [Value.ownBlock])), by simp, Coll.start _, hb0⟩
  case round =>
    obtain ⟨left, cnt, ss, hrg, hcs, hrow, hnn, hC, hB⟩ := hrel
    go_wp2_with (at_next; refine wpList_next_ranges _ rfl _ rfl 3 law3 RV (Value.int .i64) id (fun key kl hk => by obtain ⟨x, hx, _⟩ := Maps.keyOf_int_inv Tryz.underlying3 hk; exact ⟨x, hx⟩) (fun v _ _ => ⟨v, rfl⟩) bm w1.heap.size n _ _ _ rfl hrg ?_ ?_)
    · intro hc0 hl0
      rcases hrow.2 with ⟨hnil, _⟩ | ⟨g, cap, cur, rfl, hbase, hb, h1, h2, h3, h4⟩
      · exact absurd hnil hnn
      have hss := hC.done h.ris hl0
      have hlen : ss.length = m.length := by
        have := congrArg List.length hss
        simpa using this
      have hc := sort_h hB hbase hb h1 h2 h3 h4 hss hlen (by omega) hB.size
      rw [hlen] at hc
      have HC : Hid (Calls Tryz.prog 112 #[.slice (some ⟨g, 0, none⟩) m.length cap] wr fun e w' => e = .returned (.tuple #[]) ∧ w'.ownsRow w.heap.size 3 1 (.slice (some ⟨g, 0, none⟩) m.length cap) m.length ((m.map (fun p => (p.1 : Int))).map (Value.int .i64)) ∧ Below w.heap.size w w') := hc
      clear hc hss hb h1 h2 h3 h4 hC hrg hrow hown hl0 h hrg0 hrow1 hg0 hs0
      go_wp2_with fail
      refine Calls.mono (R := fun e w' => e = .returned (.tuple #[]) ∧ w'.ownsRow w.heap.size 3 1 (.slice (some ⟨g, 0, none⟩) m.length cap) m.length ((m.map (fun p => (p.1 : Int))).map (Value.int .i64)) ∧ Below w.heap.size w w') HC.out ?_
      rintro e w' ⟨rfl, hS, hG⟩
      clear HC
      go_wp2
      go_ret
      exact ⟨g, cap, by first | rfl | rw [hlen], by simpa [List.map_map, Function.comp_def] using hS, hG⟩
    · intro x c kl yd yp w2 cnt2 hkey hlk hv hyp hat hrg2 hlt hg2 hs2 hen
      obtain ⟨x', ex, rfl, _⟩ := Maps.keyOf_int_inv Tryz.underlying3 hkey
      obtain rfl : x = x' := by cases ex; rfl
      have hrow2 := hrow.kept hg2 (Or.inr (iter_ne hrg hrow))
      have hhas : has (mD m) (.int .i64 x) = true := has_true_of_atKey hat
      have hsB := hB.size
      have hsg := hg2.size
      clear hs2 hv hyp hat
      obtain ⟨av, cv, rfl⟩ := row_slice hrow2
      go_wp2_with (at_builtin; refine wpList_append_own_at _ rfl _ _ 28 rfl w.heap.size 3 i0 (.int .i64 0) 1 8 Tryz.underlying28 hi hz0 hz1 hz2 rfl (by decide) _ _ _ rfl (hrow2.alloc _) ⟨w2.heap.size, 0, none⟩ 1 1 [.int .i64 x] rfl rfl (cell_one_new _ _ _) (by intro u hu; simp at hu; subst hu; rfl) (by unfold maxLen; omega) (by omega) (by simp; omega) ?_; intro v3 w3 hv3 hg3 hnil3 hat3; go_frame)
      have hrg3 := (hrg2.alloc (.cells #[.int .i64 x] 3)).kept hg3 (fun q => by have := (hrow2.lt bm q.symm).1; omega) (fun q => iter_ne hrg2 hrow2 q.symm)
      have hB3 : Below w.heap.size w w3 := ((hB.grown hg2 hsB (fun j hj => by cases hj; exact hg1.size)).alloc (by omega) _).grown hg3 (by simp; omega) (fun j hj => (hrow2.lt j hj).1)
      go_roundw
      case rel => exact ⟨_, cnt2, ss ++ [x], hrg3, by simp; omega, by simpa using hv3, (fun q => by have := (hnil3.1 q).2; omega), hC.step hlk hhas, hB3⟩
      case measure => rw [hrg3.left_eq, hrg.left_eq]; exact hlt
end Go.Proofs.YtlcjkbhcbiggcaaGreatDoor

/- Blocks, Seq by their contracts. -/
namespace Go.Proofs.YtlcjkbhcbiggcaaGreatDoor
open Go.RowKit Go.Maps
set_option maxRecDepth 100000

theorem blocks_ok {w : World} {tb jb wm n : Nat} {sv : Value} {last : Int} {m : List (Nat × Nat)} (hT : Tb w tb jb wm sv last) (hM : Mp w wm n m) (hn : m.length ≤ 100000) :
    Calls Tryz.prog 28 #[.pointer (some ⟨tb, 0, none⟩)] w fun e w' => ∃ g c, e = .returned (.slice (some ⟨g, 0, none⟩) m.length c) ∧ w'.ownsRow w.heap.size 3 1 (.slice (some ⟨g, 0, none⟩) m.length c) m.length (m.map fun p => .int .i64 p.1) ∧ Below w.heap.size w w' := by
  have t1 := hT.cells.c1
  go_enter Tryz.func28, Tryz.ntmps28
  go_wp2_with fail
  refine (rising_any hM hn).mono ?_
  rintro e w1 ⟨g, c, rfl, ho, b1⟩
  go_wp2
  go_ret
  exact ⟨g, c, rfl, ho, b1⟩

theorem seq_ok {w : World} {tb jb wm d st sz : Nat} {sv : Value} {last seq place free : Int} {bm : Nat} {op : Option Nat} (hT : Tb w tb jb wm sv last) (hJ : Jb w jb d st sz seq place free bm op) :
    Calls Tryz.prog 59 #[.pointer (some ⟨tb, 0, none⟩)] w fun e w' => e = .returned (.int .i64 seq) ∧ w' = w := by
  have t0 := hT.cells.c0
  have c3 := hJ.cells.c3
  go_enter Tryz.func59, Tryz.ntmps59
  go_wp2
  go_ret
  exact ⟨rfl, rfl⟩
end Go.Proofs.YtlcjkbhcbiggcaaGreatDoor
