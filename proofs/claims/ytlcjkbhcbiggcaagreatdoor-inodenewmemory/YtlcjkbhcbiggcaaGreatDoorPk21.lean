/- A slot taken. -/
import Derived.Test.YtlcjkbhcbiggcaaGreatDoorPk20
namespace Go.Proofs.YtlcjkbhcbiggcaaGreatDoor
open Go.RowKit Go.Maps
set_option maxRecDepth 100000

/-- A new inode. -/
def inoN (g : Int) (n : Nat) (k : Int) (seq : Nat) : Ino := ⟨g * 256 + (n : Int), k, 0, (seq : Nat), fun _ => 0, 0⟩
theorem recOk_new {g k : Int} {n seq : Nat} (h0 : 0 ≤ g) (h1 : g ≤ 1099511627776) (k1 : k = 1 ∨ k = 2) (hs : (seq : Int) ≤ 4611686018427387904) : RecOk (recOf g (inoN g n k seq)) :=
  ⟨h0, h1, (by show 0 ≤ k; omega), (by show k ≤ 2; omega), Int.le_refl 0, (by decide : (0 : Int) ≤ 69632), (by show 0 ≤ (seq : Int); omega), hs, fun _ _ => ⟨Int.le_refl 0, (by decide : (0 : Int) ≤ 8192)⟩, Int.le_refl 0, (by decide : (0 : Int) ≤ 8192)⟩
attribute [local go_sem ↓ 100000] sl_store sl_load in_store in_load sl_ex in_ex
attribute [local go_sem] SlStore.newS InStore.newI InStore.new13
set_option maxHeartbeats 4000000 in
theorem take_ok {w w1 : World} {c : Kc} {i m n g ta N : Nat} {F : Nat → Prop} {v : Nat → List Int} {ks : List Nat} {l : Lay} (h : Tv w1 c i F v ks m) (t01 : Turns F w w1) (hF : ∀ i, F i → i < w.heap.size) (hl : Geo l c ta N) (hn : n < N) (s : Slt) (hs : s.tx = some ⟨c.tb, 0, none⟩ ∧ s.n = (n : Nat) ∧ s.at_ = (ta : Int) + (n : Int) / 4 ∧ s.bk = some ⟨g, 0, none⟩ ∧ s.len = 512 ∧ s.cap = 512) (hgw : w.heap.size ≤ g) (hg : w1.heap[g]? = some (bl (v (ta + n / 4)))) (g0 : 0 ≤ s.gen) (g1 : s.gen < 1099511627776) (k : Int) (hk : k = 1 ∨ k = 2) (hsq : (c.seq : Int) ≤ 4611686018427387904) (hroom : ta + n / 4 ∈ ks ∨ ks.length < 24) (hm : m ≤ 1000000) :
    Calls Tryz.prog 103 #[slV s, .int .i64 k] w1 fun e w' => e = .returned (.tuple #[inV (inoN (s.gen + 1) n k c.seq), .int .i64 0]) ∧ WrB w w' w1.heap.size c i F v ks m ta n (recOf (s.gen + 1) (inoN (s.gen + 1) n k c.seq)) ∧ Turns (fun j => F j ∨ j = g) w1 w' := by
  have hN := hl.n
  obtain ⟨W2, hW2⟩ : ∃ W, (w1.alloc (.cells (slA s) 142)).alloc (.cells #[.int .i64 0, .int .i64 0, .int .i64 0, .int .i64 0, .int .i64 0, .int .i64 0, .int .i64 0, .int .i64 0, .int .i64 0, .int .i64 0, .int .i64 0, .int .i64 0, .int .i64 0] 38) = W := ⟨_, rfl⟩
  have s2 : W2.heap.size = w1.heap.size + 2 := by rw [← hW2]; simp
  have b2 : Below w1.heap.size w1 W2 := by rw [← hW2]; exact ((Below.refl _ w1).alloc (Nat.le_refl _) _).alloc (by simp) _
  have S2 : SlBox W2 w1.heap.size s := by
    rw [← hW2]
    exact ((Below.refl _ _).alloc (Nat.le_refl _) _).block _ (by simp) |>.trans (heap_alloc_last w1 _)
  have I2 : InBox W2 (w1.heap.size + 1) ino0 := by
    have := heap_alloc_last (w1.alloc (.cells (slA s) 142)) (.cells #[.int .i64 0, .int .i64 0, .int .i64 0, .int .i64 0, .int .i64 0, .int .i64 0, .int .i64 0, .int .i64 0, .int .i64 0, .int .i64 0, .int .i64 0, .int .i64 0, .int .i64 0] 38)
    rw [hW2, show (w1.alloc (.cells (slA s) 142)).heap.size = w1.heap.size + 1 by simp] at this
    exact this
  have k4 := S2.cells.c4
  have f4 := S2.cells.fz 4
  have hw4 : IntKind.i64.wrap (s.gen + 1) = s.gen + 1 := by rw [Go.IntWalk.i64_in _ ⟨by omega, by omega⟩]
  have hgl := heap_lt hg
  go_enter Tryz.func103, Tryz.ntmps103
  go_wp2_with fail
  try rw [hW2]
  go_wp2_with fail
  obtain ⟨W3, hW3⟩ : ∃ W, W2.setCell ⟨w1.heap.size, 4, none⟩ (.int .i64 (s.gen + 1)) = W := ⟨_, rfl⟩
  have t3 : Turns (fun i => i = w1.heap.size) W2 W3 := by rw [← hW3]; exact Turns.cell W2 w1.heap.size 4 _
  have S3 : SlBox W3 w1.heap.size { s with gen := s.gen + 1 } := by rw [← hW3]; exact sl_set_gen S2 _
  have I3 : InBox W3 (w1.heap.size + 1) ino0 := (t3.block _ (heap_lt I2) (by omega)).trans I2
  have g3 := (t3.block g (by omega) (by omega)).trans ((b2.block g hgl).trans hg)
  have nF : ∀ j, w.heap.size ≤ j → ¬ F j := fun j hj q => by have := hF j q; omega
  have T3 := (h.below b2).keep t3 (fun j hj e => nF j (by have := t01.size; omega) hj)
  have t03 : Turns F w W3 := (t01.trans (Below.turns b2 F) (fun _ _ h => h)).trans t3 (fun j hj e => by have := t01.size; omega)
  have z3 : W3.heap.size = w1.heap.size + 2 := by rw [← hW3]; simp [s2]
  have d3 : Below w1.heap.size w1 W3 := b2.trans (t3.below (fun i e => by omega) b2.size)
  rw [hW3]
  clear hW3 t3 b2 S2 I2 k4 f4 hg
  obtain ⟨s1, hs1⟩ : ∃ s1, ({ s with gen := s.gen + 1 } : Slt) = s1 := ⟨_, rfl⟩
  have hs' : s1.tx = some ⟨c.tb, 0, none⟩ ∧ s1.n = (n : Nat) ∧ s1.at_ = (ta : Int) + (n : Int) / 4 ∧ s1.bk = some ⟨g, 0, none⟩ ∧ s1.len = 512 ∧ s1.cap = 512 := by rw [← hs1]; exact hs
  have HS : Hid (s1.tx = some ⟨c.tb, 0, none⟩ ∧ s1.n = (n : Nat) ∧ s1.at_ = (ta : Int) + (n : Int) / 4 ∧ s1.bk = some ⟨g, 0, none⟩ ∧ s1.len = 512 ∧ s1.cap = 512) := hs'
  have HG : Hid (s1.gen = s.gen + 1) := by show s1.gen = _; rw [← hs1]
  have PI := fun w' => sid_ok s1 (by rw [HG.out]; omega) (by rw [HG.out]; omega) (by rw [hs'.2.1]; omega) (by rw [hs'.2.1]; omega) w'
  rw [HG.out, hs'.2.1] at PI
  have HPI : Hid (∀ w', Calls Tryz.prog 146 #[slV s1] w' fun e w'' => e = .returned (.int .i64 ((s.gen + 1) * 256 + (n : Int))) ∧ Below w'.heap.size w' w'') := PI
  rw [hs1] at S3
  clear hs1 hs hs' PI
  have e1 := SlLoad.row (w := W3.drew) S3 (slA_size _)
  have k0 : W3.cell? ⟨w1.heap.size, 0, none⟩ = some (.pointer (some ⟨c.tb, 0, none⟩)) := by rw [← HS.out.1]; exact S3.cells.c0
  have bA : Below W3.heap.size W3 (W3.drew.alloc (.cells #[.int .i64 0, .int .i64 0, .int .i64 0, .int .i64 0, .int .i64 0, .int .i64 0, .int .i64 0, .int .i64 0, .int .i64 0, .int .i64 0, .int .i64 0, .int .i64 0, .int .i64 0] 38)) := (Below.drew (Below.refl _ W3)).alloc (Nat.le_refl _) _
  obtain ⟨WA, hWA⟩ : ∃ W, W3.drew.alloc (.cells #[.int .i64 0, .int .i64 0, .int .i64 0, .int .i64 0, .int .i64 0, .int .i64 0, .int .i64 0, .int .i64 0, .int .i64 0, .int .i64 0, .int .i64 0, .int .i64 0, .int .i64 0] 38) = W := ⟨_, rfl⟩
  rw [hWA] at bA
  have SA := S3.below bA
  have TA := T3.below bA
  have XA : InBox WA (w1.heap.size + 2) ino0 := by rw [← hWA, ← z3]; exact heap_alloc_last W3.drew _
  have e2 := SlLoad.row SA (slA_size _)
  have k0A : WA.cell? ⟨w1.heap.size, 0, none⟩ = some (.pointer (some ⟨c.tb, 0, none⟩)) := by rw [← HS.out.1]; exact SA.cells.c0
  go_region_law (first
    | (go_simp; go_at_call 146; refine (HPI.out _).mono ?_; rintro e w4 ⟨rfl, b4⟩; have b04 : Below W3.heap.size W3 w4 := (by first | exact (Below.drew (Below.refl _ W3)).trans b4 | exact bA.trans (b4.mono bA.size)); (first | (have X4 := XA.below b4; have hst4 := InStore.row (cs := #[.int .i64 ((s.gen + 1) * 256 + (n : Int)), .int .i64 k, .int .i64 0, .int .i64 (c.seq : Nat), .int .i64 0, .int .i64 0, .int .i64 0, .int .i64 0, .int .i64 0, .int .i64 0, .int .i64 0, .int .i64 0, .int .i64 0]) X4 rfl rfl (by simp [Value.oneCell'])) | skip); have S4 := S3.below b04; have T4 := T3.below b04; have j0 : w4.cell? ⟨w1.heap.size, 0, none⟩ = some (.pointer (some ⟨c.tb, 0, none⟩)) := (by rw [← HS.out.1]; exact S4.cells.c0); have j0A : (w4.alloc (.cells #[.int .i64 0, .int .i64 0, .int .i64 0, .int .i64 0, .int .i64 0, .int .i64 0, .int .i64 0, .int .i64 0, .int .i64 0, .int .i64 0, .int .i64 0, .int .i64 0, .int .i64 0] 38)).cell? ⟨w1.heap.size, 0, none⟩ = some (.pointer (some ⟨c.tb, 0, none⟩)) := (by rw [← HS.out.1]; exact (S4.below ((Below.refl _ w4).alloc (Nat.le_refl _) _)).cells.c0); dsimp only)
    | (go_simp; go_at_call 59; refine (Tv.seq (by first | exact T4 | exact T4.below ((Below.refl _ w4).alloc (Nat.le_refl _) _))).mono ?_; rintro e wq ⟨rfl, hq⟩; subst wq; dsimp only))
  all_goals
    have I4 := I3.below b04
    have g4 := (b04.block g (heap_lt g3)).trans g3
    have t04 : Turns F w w4 := t03.trans (Below.turns b04 F) (fun _ _ h => h)
    have z4 := b04.size
    have d4 : Below w1.heap.size w1 w4 := d3.trans (b04.mono (by omega))
    have z1 := t01.size
    obtain ⟨x, hx⟩ : ∃ x, inoN (s.gen + 1) n k c.seq = x := ⟨_, rfl⟩
    have HX : Hid (inoN (s.gen + 1) n k c.seq = x) := hx
    (first
      | (have X5 := setRow_heap _ _ _ #[.int .i64 ((s.gen + 1) * 256 + (n : Int)), .int .i64 k, .int .i64 0, .int .i64 (c.seq : Nat), .int .i64 0, .int .i64 0, .int .i64 0, .int .i64 0, .int .i64 0, .int .i64 0, .int .i64 0, .int .i64 0, .int .i64 0] _ _ X4
         have u5 := Turns.row1 w4 (w1.heap.size + 2) #[.int .i64 ((s.gen + 1) * 256 + (n : Int)), .int .i64 k, .int .i64 0, .int .i64 (c.seq : Nat), .int .i64 0, .int .i64 0, .int .i64 0, .int .i64 0, .int .i64 0, .int .i64 0, .int .i64 0, .int .i64 0, .int .i64 0]
         obtain ⟨W5, hW5⟩ : ∃ W, w4.setRow (w1.heap.size + 2) #[.int .i64 ((s.gen + 1) * 256 + (n : Int)), .int .i64 k, .int .i64 0, .int .i64 (c.seq : Nat), .int .i64 0, .int .i64 0, .int .i64 0, .int .i64 0, .int .i64 0, .int .i64 0, .int .i64 0, .int .i64 0, .int .i64 0] = W := ⟨_, rfl⟩
         rw [hW5] at X5 u5 ⊢
         obtain ⟨xb, hxb⟩ : ∃ xb, w1.heap.size + 2 = xb := ⟨_, rfl⟩
         rw [hxb] at X5 u5 ⊢)
      | (have X5 := heap_alloc_last w4 (.cells #[.int .i64 ((s.gen + 1) * 256 + (n : Int)), .int .i64 k, .int .i64 0, .int .i64 (c.seq : Nat), .int .i64 0, .int .i64 0, .int .i64 0, .int .i64 0, .int .i64 0, .int .i64 0, .int .i64 0, .int .i64 0, .int .i64 0] 38)
         have u5 := Turns.alloc (fun i => i = w4.heap.size) w4 (.cells #[.int .i64 ((s.gen + 1) * 256 + (n : Int)), .int .i64 k, .int .i64 0, .int .i64 (c.seq : Nat), .int .i64 0, .int .i64 0, .int .i64 0, .int .i64 0, .int .i64 0, .int .i64 0, .int .i64 0, .int .i64 0, .int .i64 0] 38)
         obtain ⟨W5, hW5⟩ : ∃ W, w4.alloc (.cells #[.int .i64 ((s.gen + 1) * 256 + (n : Int)), .int .i64 k, .int .i64 0, .int .i64 (c.seq : Nat), .int .i64 0, .int .i64 0, .int .i64 0, .int .i64 0, .int .i64 0, .int .i64 0, .int .i64 0, .int .i64 0, .int .i64 0] 38) = W := ⟨_, rfl⟩
         rw [hW5] at X5 u5 ⊢
         obtain ⟨xb, hxb⟩ : ∃ xb, w4.heap.size = xb := ⟨_, rfl⟩
         rw [hxb] at X5 u5 ⊢))
    replace X5 : InBox W5 xb x := by rw [← hx]; exact X5
    have hxl : w1.heap.size + 2 ≤ xb := by omega
    have S5 : SlBox W5 w1.heap.size s1 := (u5.block _ (heap_lt S4) (by omega)).trans S4
    have I5 : InBox W5 (w1.heap.size + 1) ino0 := (u5.block _ (heap_lt I4) (by omega)).trans I4
    have g5 := (u5.block g (heap_lt g4) (by omega)).trans g4
    have T5 := T4.keep u5 (fun j hj e => nF j (by omega) hj)
    have t05 : Turns F w W5 := t04.trans u5 (fun j hj e => by omega)
    have d5 : Below w1.heap.size w1 W5 := d4.trans (u5.below (fun i e => by omega) d4.size)
    clear e1 e2 k0 k0A j0 j0A hW5 hxb hx S4 I4 T4 t04 SA TA XA
    have hrec : RecOk (recOf (s.gen + 1) x) := by rw [← HX.out]; exact recOk_new (by omega) (by omega) hk hsq
    have PO := recordOf_ok (s.gen + 1) x hrec
    have k4 : W5.cell? ⟨w1.heap.size, 4, none⟩ = some (.int .i64 (s.gen + 1)) := by rw [← HG.out]; exact S5.cells.c4
    have x5 := SlEx.row S5 (slA_size _)
    have x5d := SlEx.row (w := W5.drew) S5 (slA_size _)
    have i5 := InEx.row X5 (inA_size _)
    have i5d := InEx.row (w := W5.drew) X5 (inA_size _)
    have gx : g < w1.heap.size := hgl
    have x1 := heap_lt X5
    go_wp2_with fail
    go_region_held3 (fun w' => (SlEx (.pointer (some ⟨w1.heap.size, 0, none⟩))).run Tryz.prog w' = .ok (.value (slV s1)) w' ∧ w'.cell? ⟨w1.heap.size, 4, none⟩ = some (.int .i64 (s.gen + 1)) ∧ (InEx (.pointer (some ⟨xb, 0, none⟩))).run Tryz.prog w' = .ok (.value (inV x)) w')
      (first | exact ⟨x5, k4, i5⟩ | exact ⟨x5d, k4, i5d⟩ | exact ⟨x6, k7, i6⟩ | exact ⟨x7, k8, i7⟩)
      (first
        | (go_at_call 106; refine (PO _).mono ?_; rintro e w6 ⟨rfl, b6⟩; have S6 := SlBox.below (w := W5.drew) S5 b6; have X6 := InBox.below (w := W5.drew) X5 b6; have I6 := InBox.below (w := W5.drew) I5 b6; have x6 := SlEx.row S6 (slA_size _); have i6 := InEx.row X6 (inA_size _); have k7 : w6.cell? ⟨w1.heap.size, 4, none⟩ = some (.int .i64 (s.gen + 1)) := (by rw [← HG.out]; exact S6.cells.c4); have g6 := (b6.block g (heap_lt g5)).trans g5; have T6 := (Tv.below T5 (Below.drew (Below.refl _ W5))).below b6; have t06 : Turns F w w6 := (t05.trans (Below.turns (Below.drew (Below.refl _ W5)) F) (fun _ _ h => h)).trans (Below.turns b6 F) (fun _ _ h => h))
        | (go_at_call 105; refine (swrite_at T6 t06 hF hl hn s1 HS.out hgw g6 (recOf (s.gen + 1) x) hroom hm).mono ?_; rintro e w7 ⟨rfl, R7, u7⟩; have S7 : SlBox w7 w1.heap.size s1 := (u7.block _ (heap_lt S6) (fun q => q.elim (nF _ (by omega)) (fun q => by omega))).trans S6; have X7 : InBox w7 xb x := (u7.block _ (heap_lt X6) (fun q => q.elim (nF _ (by omega)) (fun q => by omega))).trans X6; have I7 : InBox w7 (w1.heap.size + 1) ino0 := (u7.block _ (heap_lt I6) (fun q => q.elim (nF _ (by omega)) (fun q => by omega))).trans I6; have x7 := SlEx.row S7 (slA_size _); have i7 := InEx.row X7 (inA_size _); have k8 : w7.cell? ⟨w1.heap.size, 4, none⟩ = some (.int .i64 (s.gen + 1)) := (by rw [← HG.out]; exact S7.cells.c4)))
    have U7 := u7
    clear x5 x5d i5 i5d x7 i7 k8 S6 S7 X6 I6 u7 T6
    have e7 := InLoad.row X7 (inA_size _)
    have e8 := InStore.row (cs := inA x) I7 rfl (inA_size _) (inA_one _)
    have tb := Turns.row1 w7 (w1.heap.size + 1) (inA x)
    go_wp2_with fail
    refine bodyPost_ret (res2 rfl _ _ (w1.heap.size + 1) 38 _ (0, 0) _ rfl (setRow_heap _ _ _ _ _ _ I7) Tryz.underlying38 rfl in_size) rfl ?_
    have d6 : Below w1.heap.size w1 w6 := (Below.drew d5).trans (b6.mono (Below.drew d5).size)
    refine ⟨by rw [HX.out]; rfl, ?_, ((Below.turns d6 _).trans U7 (fun _ _ q => q)).trans tb (fun j hj e => by omega)⟩
    rw [HX.out]
    exact (R7.row tb hF (by omega) (by have := b6.size; have := heap_lt I5; show w1.heap.size + 1 < w6.heap.size; have : W5.heap.size ≤ w6.heap.size := b6.size; omega)).mono d6.size
end Go.Proofs.YtlcjkbhcbiggcaaGreatDoor
