/- A slot read. -/
import Derived.Test.YtlcjkbhcbiggcaaGreatDoorPk19
namespace Go.Proofs.YtlcjkbhcbiggcaaGreatDoor
open Go.RowKit Go.Maps
set_option maxRecDepth 100000

/-- A record that may stand in a table. -/
structure Rit (l : Lay) (r : Rec) : Prop where
  ok : RecOk r
  fr : r.kind = 0 → r = { rec0 with gen := r.gen }
  us : r.kind ≠ 0 → 1 ≤ r.gen ∧ mayBI l (r.ino 0) = true
def Rec.id (r : Rec) (n : Nat) : Int := if r.kind = 0 then 0 else r.gen * 256 + n
def sltOf (tb n : Nat) (a : Int) (g : Nat) (r : Rec) : Slt := ⟨some ⟨tb, 0, none⟩, (n : Nat), a, some ⟨g, 0, none⟩, 512, 512, r.gen, r.ino (r.id n)⟩
/-- A layout's table, as the slots' numbers want it. -/
structure Geo (l : Lay) (c : Kc) (ta N : Nat) : Prop where
  dat : Dat l
  tab : l.ta = (ta : Nat)
  ino : l.sh.ino = (N : Nat)
  n : N ≤ 256
  top : ta ≤ 4096
  out : ∀ n, n < N → c.out (ta + n / 4)
theorem range_bl {w : World} {b : Nat} {bs : List Int} (h : w.heap[b]? = some (bl bs)) (o n : Nat) (_ho : o + n ≤ 100000) : w.rangeAt b o (((bs.drop o).take n).map (Value.int .u8)) := fun j v hv => by
  unfold World.cell?
  rw [h]
  show (rcA bs)[o + j]? = some v
  have hj : j < n := by
    have := (List.getElem?_eq_some_iff.1 hv).1
    rw [List.length_map, List.length_take] at this
    omega
  rw [← hv]
  simp [List.getElem?_drop, hj]
theorem sl_there {w : World} {b : Nat} {s : Slt} (h : SlBox w b s) : w.there b 5 13 := fun j hj => by
  refine ⟨?_, h.cells.fz _⟩
  have := h.cells.inr j ((inA s.x)[j]'(by rw [inA_size]; omega)) (by simp)
  rw [this]
  rfl
theorem sl_set_bk {w : World} {b : Nat} {s : Slt} (h : SlBox w b s) (bk : Option Addr) (len cap : Nat) : SlBox (w.setCell ⟨b, 3, none⟩ (.slice bk len cap)) b { s with bk := bk, len := len, cap := cap } := by
  unfold SlBox at h ⊢
  rw [heap_setCell_same _ _ _ _ _ _ h]
  rfl
/-- A row with some cells laid over it. -/
def setA (C : Array Value) : Nat → List Value → Array Value
  | _, [] => C
  | o, v :: vs => setA (C.setIfInBounds o v) (o + 1) vs
theorem heap_setCells {b t : Nat} : ∀ (vs : List Value) (o : Nat) (w : World) (C : Array Value), w.heap[b]? = some (.cells C t (0, 0)) → (w.setCells b o vs).heap[b]? = some (.cells (setA C o vs) t (0, 0))
  | [], _, _, _, h => h
  | _ :: vs, o, _, _, h => heap_setCells vs (o + 1) _ _ (heap_setCell_same _ _ _ _ _ _ h)
theorem setA_in (s : Slt) (x : Ino) : setA (slA s) 5 (inA x).toList = slA { s with x := x } := by
  simp [setA, slA, inA]
theorem turns_setCells (b : Nat) : ∀ (vs : List Value) (o : Nat) (w : World), Turns (fun i => i = b) w (w.setCells b o vs)
  | [], _, w => Turns.refl _ w
  | v :: vs, o, w => (Turns.cell w b o v).trans (turns_setCells b vs (o + 1) _) (fun _ _ h => h)
theorem sl_set_in {w : World} {b : Nat} {s : Slt} (h : SlBox w b s) (x : Ino) : SlBox (w.setCells b 5 (inA x).toList) b { s with x := x } := by
  unfold SlBox at h ⊢
  rw [heap_setCells _ _ _ _ h, setA_in]
theorem sl_set_gen {w : World} {b : Nat} {s : Slt} (h : SlBox w b s) (g : Int) : SlBox (w.setCell ⟨b, 4, none⟩ (.int .i64 g)) b { s with gen := g } := by
  unfold SlBox at h ⊢
  rw [heap_setCell_same _ _ _ _ _ _ h]
  rfl
theorem sl_set_id {w : World} {b : Nat} {s : Slt} (h : SlBox w b s) (g : Int) : SlBox (w.setCell ⟨b, 5, none⟩ (.int .i64 g)) b { s with x := { s.x with id := g } } := by
  unfold SlBox at h ⊢
  rw [heap_setCell_same _ _ _ _ _ _ h]
  rfl
attribute [local go_sem ↓ 100000] sl_store sl_load ly_store ly_load in_store in_load rc_load
attribute [local go_sem] SlStore.newS SlStore.new18 LyStore.new LyStore.drew LyLoad.new LyLoad.drew arr_rec
set_option maxHeartbeats 4000000 in
theorem slotAt_ok {w : World} {c : Kc} {i m n ta N : Nat} {F : Nat → Prop} {v : Nat → List Int} {ks : List Nat} {l : Lay} {r : Rec} (h : Tv w c i F v ks m) (hl : Geo l c ta N) (hn : n < N) (hr : ((v (ta + n / 4)).drop (n % 4 * 128)).take 128 = recB r) (hR : Rit l r) :
    Calls Tryz.prog 85 #[.pointer (some ⟨c.tb, 0, none⟩), lyV l, .int .i64 (n : Nat)] w fun e w' => ∃ g, e = .returned (.tuple #[slV (sltOf c.tb n ((ta : Int) + (n : Int) / 4) g r), .int .i64 0]) ∧ w.heap.size ≤ g ∧ w'.heap[g]? = some (bl (v (ta + n / 4))) ∧ Tv w' c i F v ks m ∧ Turns F w w' := by
  have hn256 := hl.n
  have htop := hl.top
  have hta := hl.tab
  obtain ⟨W2, hW2⟩ : ∃ W, (w.alloc (.cells #[.int .i64 l.bo, .int .i64 l.jr, .int .i64 l.jl, .int .i64 l.le, .int .i64 l.ll, .int .i64 l.bi, .int .i64 l.bl, .int .i64 l.ta, .int .i64 l.tl, .int .i64 l.dt, .int .i64 l.dl, .int .i64 l.to, .int .i64 l.sh.cl, .int .i64 l.sh.wi, .int .i64 l.sh.pl, .int .i64 l.sh.ca, .int .i64 l.sh.ino, .int .i64 l.sh.qu, .int .i64 l.sh.da, .int .i64 l.sh.jo] 60)).alloc (.cells #[.pointer none, .int .i64 0, .int .i64 0, .slice none 0 0, .int .i64 0, .int .i64 0, .int .i64 0, .int .i64 0, .int .i64 0, .int .i64 0, .int .i64 0, .int .i64 0, .int .i64 0, .int .i64 0, .int .i64 0, .int .i64 0, .int .i64 0, .int .i64 0] 142) = W := ⟨_, rfl⟩
  have s2 : W2.heap.size = w.heap.size + 2 := by rw [← hW2]; simp
  have b2 : Below w.heap.size w W2 := by rw [← hW2]; exact ((Below.refl _ w).alloc (Nat.le_refl _) _).alloc (by simp) _
  have L2 : LyB W2 w.heap.size l := by
    rw [← hW2]
    exact (LyB.new w l).below ((Below.refl _ _).alloc (Nat.le_refl _) _)
  have R2 : SlBox W2 (w.heap.size + 1) slt0 := by
    have := heap_alloc_last (w.alloc (.cells #[.int .i64 l.bo, .int .i64 l.jr, .int .i64 l.jl, .int .i64 l.le, .int .i64 l.ll, .int .i64 l.bi, .int .i64 l.bl, .int .i64 l.ta, .int .i64 l.tl, .int .i64 l.dt, .int .i64 l.dl, .int .i64 l.to, .int .i64 l.sh.cl, .int .i64 l.sh.wi, .int .i64 l.sh.pl, .int .i64 l.sh.ca, .int .i64 l.sh.ino, .int .i64 l.sh.qu, .int .i64 l.sh.da, .int .i64 l.sh.jo] 60)) (.cells #[.pointer none, .int .i64 0, .int .i64 0, .slice none 0 0, .int .i64 0, .int .i64 0, .int .i64 0, .int .i64 0, .int .i64 0, .int .i64 0, .int .i64 0, .int .i64 0, .int .i64 0, .int .i64 0, .int .i64 0, .int .i64 0, .int .i64 0, .int .i64 0] 142)
    rw [hW2, show (w.alloc (.cells #[.int .i64 l.bo, .int .i64 l.jr, .int .i64 l.jl, .int .i64 l.le, .int .i64 l.ll, .int .i64 l.bi, .int .i64 l.bl, .int .i64 l.ta, .int .i64 l.tl, .int .i64 l.dt, .int .i64 l.dl, .int .i64 l.to, .int .i64 l.sh.cl, .int .i64 l.sh.wi, .int .i64 l.sh.pl, .int .i64 l.sh.ca, .int .i64 l.sh.ino, .int .i64 l.sh.qu, .int .i64 l.sh.da, .int .i64 l.sh.jo] 60)).heap.size = w.heap.size + 1 by simp] at this
    exact this
  have c7 : W2.cell? ⟨w.heap.size, 7, none⟩ = some (.int .i64 (ta : Nat)) := by rw [← hta]; exact L2.ta
  have hdv : Int.tdiv (n : Int) 4 = ((n / 4 : Nat) : Int) := by
    rw [Int.tdiv_eq_ediv_of_nonneg (by omega)]
    omega
  have hat : (ta : Int) + (n : Int) / 4 = ((ta + n / 4 : Nat) : Int) := by omega
  have HAT : Hid ((ta : Int) + (n : Int) / 4 = ((ta + n / 4 : Nat) : Int)) := hat
  clear hta hat
  obtain ⟨W3, hW3⟩ : ∃ W, W2.alloc (.cells (slA ⟨some ⟨c.tb, 0, none⟩, (n : Nat), (ta : Int) + (n : Int) / 4, none, 0, 0, 0, ino0⟩) 142) = W := ⟨_, rfl⟩
  have b3 : Below W2.heap.size W2 W3 := by rw [← hW3]; exact (Below.refl _ W2).alloc (Nat.le_refl _) _
  have s3 : W3.heap.size = w.heap.size + 3 := by rw [← hW3]; simp [s2]
  have S3 : SlBox W3 (w.heap.size + 2) ⟨some ⟨c.tb, 0, none⟩, (n : Nat), (ta : Int) + (n : Int) / 4, none, 0, 0, 0, ino0⟩ := by rw [← hW3, ← s2]; exact heap_alloc_last W2 _
  have L3 := L2.below b3
  have R3 := R2.below b3
  have b03 := b2.trans (b3.mono b2.size)
  have T3 := h.below b03
  have HW3 : Hid (W2.alloc (.cells (slA ⟨some ⟨c.tb, 0, none⟩, (n : Nat), (ta : Int) + (n : Int) / 4, none, 0, 0, 0, ino0⟩) 142) = W3) := hW3
  have k2 := S3.cells.c2
  have k3 := S3.cells.c3
  have hst := fun o a next Q => SlStore.new18 (some ⟨c.tb, 0, none⟩) (n : Nat) ((ta : Int) + (n : Int) / 4) none 0 0 0 0 0 0 0 0 0 0 0 0 0 0 0 0 o a W2 next Q
  rw [s2] at hst
  unfold slA at hW3
  dsimp only [ino0] at hW3
  rw [hW3] at hst
  clear hW3 HW3 b2 b3 L2 R2
  go_enter Tryz.func85, Tryz.ntmps85
  go_wp2_with fail
  try rw [hW2]
  go_wp2_with fail
  rw [HAT.out]
  have hout := hl.out n hn
  refine (T3.read (ta + n / 4) hout).mono ?_
  rintro e w4 ⟨g, rfl, hgw, hg, T4, t4⟩
  have nF : ∀ j, w.heap.size ≤ j → ¬ F j := fun j hj q => by have := h.lt j q; omega
  have S4 : SlBox w4 (w.heap.size + 2) ⟨some ⟨c.tb, 0, none⟩, (n : Nat), (ta : Int) + (n : Int) / 4, none, 0, 0, 0, ino0⟩ := (t4.block _ (heap_lt S3) (nF _ (by omega))).trans S3
  have L4 : LyB w4 w.heap.size l := (t4.block _ (heap_lt L3) (nF _ (by omega))).trans L3
  have R4 : SlBox w4 (w.heap.size + 1) slt0 := (t4.block _ (heap_lt R3) (nF _ (by omega))).trans R3
  have t04 : Turns F w w4 := (Below.turns b03 F).trans t4 (fun _ _ h => h)
  have z4 := t4.size
  have k3 := S4.cells.c3
  have f3 := S4.cells.fz 3
  clear hst k2 t4 S3 L3 R3 T3 b03
  go_wp2_with fail
  obtain ⟨W5, hW5⟩ : ∃ W, w4.setCell ⟨w.heap.size + 2, 3, none⟩ (.slice (some ⟨g, 0, none⟩) 512 512) = W := ⟨_, rfl⟩
  have S5 : SlBox W5 (w.heap.size + 2) ⟨some ⟨c.tb, 0, none⟩, (n : Nat), (ta : Int) + (n : Int) / 4, some ⟨g, 0, none⟩, 512, 512, 0, ino0⟩ := by rw [← hW5]; exact sl_set_bk S4 _ _ _
  have t5 : Turns (fun i => i = w.heap.size + 2) w4 W5 := by rw [← hW5]; exact Turns.cell w4 (w.heap.size + 2) 3 _
  have ng2 : g ≠ w.heap.size + 2 := by omega
  have g5 := (t5.block g (heap_lt hg) ng2).trans hg
  have L5 : LyB W5 w.heap.size l := (t5.block _ (heap_lt L4) (by omega)).trans L4
  have R5 : SlBox W5 (w.heap.size + 1) slt0 := (t5.block _ (heap_lt R4) (by omega)).trans R4
  have T5 := T4.keep t5 (fun j hj e => nF j (by omega) hj)
  have t05 : Turns F w W5 := t04.trans t5 (fun j hj e => by omega)
  have hlen := (h.len _ hout).1
  obtain ⟨bs, hbs⟩ : ∃ bs, v (ta + n / 4) = bs := ⟨_, rfl⟩
  rw [hbs] at g5 hlen hr
  have HBS : Hid (v (ta + n / 4) = bs) := hbs
  rw [hW5]
  clear hbs hW5 t5 t04 T4 R4 L4 S4 k3 f3 hg
  have e1 := SlLoad.row (w := W5.drew) S5 (slA_size _)
  have e2 := LyB.ld (w := W5.drew) L5
  have P1 := place_ok ⟨some ⟨c.tb, 0, none⟩, (n : Nat), (ta : Int) + (n : Int) / 4, some ⟨g, 0, none⟩, 512, 512, 0, ino0⟩ n g rfl rfl rfl rfl (by omega)
  have PR := rread_ok l hl.dat r hR.ok hR.fr hR.us
  have hrl := recB_len r
  obtain ⟨rb, hrb⟩ : ∃ rb, recB r = rb := ⟨_, rfl⟩
  rw [hrb] at hr PR hrl
  clear hrb
  go_region_law (first
    | (go_simp; go_at_call 144; refine (P1 _).mono ?_; rintro e w6 ⟨rfl, b6⟩; have S6 := SlBox.below (w := W5.drew) S5 b6; have L6 := LyB.below (w := W5.drew) L5 b6; have g6 := (b6.block g (heap_lt g5)).trans g5; have e3 := L6.ld; have e4 := RcLoad.mid (range_bl g6 (n % 4 * 128) 128 (by omega)) (by rw [hr]; simpa using hrl); rw [hr] at e4; dsimp only)
    | (go_simp; go_at_call 145; refine (PR _).mono ?_; rintro e w7 ⟨rfl, b7⟩; have S7 := S6.below b7; have k4 := S7.cells.c4; have f4 := S7.cells.fz 4; have S8 := sl_set_gen S7 r.gen; have e5 := InStore.mid (cs := inA (r.ino 0)) (sl_there S8) rfl (inA_one _); dsimp only))
  all_goals
    have S9 := sl_set_in S8 (r.ino 0)
    obtain ⟨W9, hW9⟩ : ∃ W, (w7.setCell ⟨w.heap.size + 2, 4, none⟩ (.int .i64 r.gen)).setCells (w.heap.size + 2) 5 (inA (r.ino 0)).toList = W := ⟨_, rfl⟩
    have t59 : Turns (fun i => i = w.heap.size + 2) W5 W9 := by
      rw [← hW9]
      exact ((Below.turns (Below.drew (Below.refl _ W5)) _).trans ((Below.turns b6 _).trans (Below.turns b7 _) (fun _ _ h => h)) (fun _ _ h => h)).trans ((Turns.cell w7 (w.heap.size + 2) 4 _).trans (turns_setCells _ _ _ _) (fun _ _ h => h)) (fun _ _ h => h)
    rw [hW9] at S9
    clear e1 e2 e3 e4 e5 S8 S7 S6 k4 f4 b6 b7 L6 g6
    have R9 : SlBox W9 (w.heap.size + 1) slt0 := (t59.block _ (heap_lt R5) (by omega)).trans R5
    have g9 := (t59.block g (heap_lt g5) ng2).trans g5
    have T9 := T5.keep t59 (fun j hj e => nF j (by omega) hj)
    have t9 : Turns F w W9 := t05.trans t59 (fun j hj e => by omega)
    clear t59 T5 t05 g5 R5 L5 S5
    have e6 := SlLoad.row S9 (slA_size _)
    go_wp2_with fail
    try rw [hW9]
    go_wp2_with fail
    refine (isFree_any ⟨some ⟨c.tb, 0, none⟩, (n : Nat), (ta : Int) + (n : Int) / 4, some ⟨g, 0, none⟩, 512, 512, r.gen, r.ino 0⟩ _).mono ?_
    rintro e wa ⟨rfl, ba⟩
    have Sa := S9.below ba
    have Ra := R9.below ba
    have ga := (ba.block g (heap_lt g9)).trans g9
    have Ta := T9.below ba
    have ta9 : Turns F w wa := t9.trans (Below.turns ba F) (fun _ _ h => h)
    clear e6 S9 R9 g9 T9 t9
    by_cases k0 : r.kind = 0
    · have hb : ((r.ino 0).kind == 0) = true := by show (r.kind == 0) = true; simpa using k0
      rw [hb]
      have e7 := SlLoad.row Sa (slA_size _)
      have e8 := SlStore.row (cs := slA ⟨some ⟨c.tb, 0, none⟩, (n : Nat), (ta : Int) + (n : Int) / 4, some ⟨g, 0, none⟩, 512, 512, r.gen, r.ino 0⟩) Ra (slA_size _) (slA_size _) (slA_one _)
      have HI : Hid (r.id n = 0) := by show r.id n = 0; unfold Rec.id; rw [if_pos k0]
      have tb := Turns.row1 wa (w.heap.size + 1) (slA ⟨some ⟨c.tb, 0, none⟩, (n : Nat), (ta : Int) + (n : Int) / 4, some ⟨g, 0, none⟩, 512, 512, r.gen, r.ino 0⟩)
      clear k0 hb
      go_wp2_with fail
      refine bodyPost_ret (res2 rfl _ _ (w.heap.size + 1) 142 _ (0, 0) _ rfl (setRow_heap _ _ _ _ _ _ Ra) Tryz.underlying142 rfl sl_size) rfl ?_
      exact ⟨g, by unfold sltOf; rw [HI.out]; rfl, by omega, (tb.block g (heap_lt ga) (by omega)).trans (by rw [HBS.out]; exact ga), Ta.keep tb (fun j hj e => nF j (by omega) hj), ta9.trans tb (fun j hj e => by omega)⟩
    · have hb : ((r.ino 0).kind == 0) = false := by show (r.kind == 0) = false; simpa using k0
      rw [hb]
      have e7 := SlLoad.row Sa (slA_size _)
      have HI : Hid (r.id n = r.gen * 256 + n) := by show r.id n = r.gen * 256 + n; unfold Rec.id; rw [if_neg k0]
      have q0 := hR.ok.g0
      have q1 := hR.ok.g1
      clear k0 hb
      go_wp2_with fail
      refine (sid_ok ⟨some ⟨c.tb, 0, none⟩, (n : Nat), (ta : Int) + (n : Int) / 4, some ⟨g, 0, none⟩, 512, 512, r.gen, r.ino 0⟩ q0 (by show r.gen ≤ 1099511627777; omega) (by show (0 : Int) ≤ (n : Int); omega) (by show (n : Int) ≤ 256; omega) _).mono ?_
      rintro e wb ⟨rfl, bb⟩
      have Sb := Sa.below bb
      have Rb := Ra.below bb
      have gb := (bb.block g (heap_lt ga)).trans ga
      have Tb := Ta.below bb
      have tb9 : Turns F w wb := ta9.trans (Below.turns bb F) (fun _ _ h => h)
      have k5 := Sb.cells.c5
      have f5 := Sb.cells.fz 5
      have Sc := sl_set_id Sb (r.gen * 256 + n)
      have tc := Turns.cell wb (w.heap.size + 2) 5 (.int .i64 (r.gen * 256 + (n : Int)))
      have Rc : SlBox (wb.setCell ⟨w.heap.size + 2, 5, none⟩ (.int .i64 (r.gen * 256 + (n : Int)))) (w.heap.size + 1) slt0 := (tc.block _ (heap_lt Rb) (by omega)).trans Rb
      have e8 := SlLoad.row Sc (slA_size _)
      have e9 := SlStore.row (cs := slA ⟨some ⟨c.tb, 0, none⟩, (n : Nat), (ta : Int) + (n : Int) / 4, some ⟨g, 0, none⟩, 512, 512, r.gen, { r.ino 0 with id := r.gen * 256 + n }⟩) Rc (slA_size _) (slA_size _) (slA_one _)
      have td := Turns.row1 (wb.setCell ⟨w.heap.size + 2, 5, none⟩ (.int .i64 (r.gen * 256 + (n : Int)))) (w.heap.size + 1) (slA ⟨some ⟨c.tb, 0, none⟩, (n : Nat), (ta : Int) + (n : Int) / 4, some ⟨g, 0, none⟩, 512, 512, r.gen, { r.ino 0 with id := r.gen * 256 + n }⟩)
      clear e7 Sa Ra ga Ta ta9
      go_wp2_with fail
      refine bodyPost_ret (res2 rfl _ _ (w.heap.size + 1) 142 _ (0, 0) _ rfl (setRow_heap _ _ _ _ _ _ Rc) Tryz.underlying142 rfl sl_size) rfl ?_
      exact ⟨g, by unfold sltOf; rw [HI.out]; rfl, by omega, (td.block g (by have := heap_lt gb; have := tc.size; omega) (by omega)).trans ((tc.block g (heap_lt gb) ng2).trans (by rw [HBS.out]; exact gb)), (Tb.keep tc (fun j hj e => nF j (by omega) hj)).keep td (fun j hj e => nF j (by omega) hj), (tb9.trans tc (fun j hj e => by omega)).trans td (fun j hj e => by omega)⟩
end Go.Proofs.YtlcjkbhcbiggcaaGreatDoor

/- The slot of an id. -/
namespace Go.Proofs.YtlcjkbhcbiggcaaGreatDoor
open Go.RowKit Go.Maps
set_option maxRecDepth 100000

/-- A table as it is seen. -/
structure Tab (l : Lay) (ta N : Nat) (v : Nat → List Int) (T : Nat → Rec) : Prop where
  rc : ∀ n, n < N → ((v (ta + n / 4)).drop (n % 4 * 128)).take 128 = recB (T n)
  ok : ∀ n, n < N → Rit l (T n)
/-- Two boxes: a layout, and an empty slot for the answer. -/
structure LS (w w' : World) (l : Lay) : Prop where
  L : LyB w' w.heap.size l
  S : SlBox w' (w.heap.size + 1) slt0
  B : Below w.heap.size w w'
  z : w'.heap.size = w.heap.size + 2
theorem LS.new (w : World) (l : Lay) : LS w ((w.alloc (.cells #[.int .i64 l.bo, .int .i64 l.jr, .int .i64 l.jl, .int .i64 l.le, .int .i64 l.ll, .int .i64 l.bi, .int .i64 l.bl, .int .i64 l.ta, .int .i64 l.tl, .int .i64 l.dt, .int .i64 l.dl, .int .i64 l.to, .int .i64 l.sh.cl, .int .i64 l.sh.wi, .int .i64 l.sh.pl, .int .i64 l.sh.ca, .int .i64 l.sh.ino, .int .i64 l.sh.qu, .int .i64 l.sh.da, .int .i64 l.sh.jo] 60)).alloc (.cells #[.pointer none, .int .i64 0, .int .i64 0, .slice none 0 0, .int .i64 0, .int .i64 0, .int .i64 0, .int .i64 0, .int .i64 0, .int .i64 0, .int .i64 0, .int .i64 0, .int .i64 0, .int .i64 0, .int .i64 0, .int .i64 0, .int .i64 0, .int .i64 0] 142)) l := by
  refine ⟨(LyB.new w l).below ((Below.refl _ _).alloc (Nat.le_refl _) _), ?_, ((Below.refl _ w).alloc (Nat.le_refl _) _).alloc (by simp) _, by simp⟩
  have := heap_alloc_last (w.alloc (.cells #[.int .i64 l.bo, .int .i64 l.jr, .int .i64 l.jl, .int .i64 l.le, .int .i64 l.ll, .int .i64 l.bi, .int .i64 l.bl, .int .i64 l.ta, .int .i64 l.tl, .int .i64 l.dt, .int .i64 l.dl, .int .i64 l.to, .int .i64 l.sh.cl, .int .i64 l.sh.wi, .int .i64 l.sh.pl, .int .i64 l.sh.ca, .int .i64 l.sh.ino, .int .i64 l.sh.qu, .int .i64 l.sh.da, .int .i64 l.sh.jo] 60)) (.cells #[.pointer none, .int .i64 0, .int .i64 0, .slice none 0 0, .int .i64 0, .int .i64 0, .int .i64 0, .int .i64 0, .int .i64 0, .int .i64 0, .int .i64 0, .int .i64 0, .int .i64 0, .int .i64 0, .int .i64 0, .int .i64 0, .int .i64 0, .int .i64 0] 142)
  rw [show (w.alloc (.cells #[.int .i64 l.bo, .int .i64 l.jr, .int .i64 l.jl, .int .i64 l.le, .int .i64 l.ll, .int .i64 l.bi, .int .i64 l.bl, .int .i64 l.ta, .int .i64 l.tl, .int .i64 l.dt, .int .i64 l.dl, .int .i64 l.to, .int .i64 l.sh.cl, .int .i64 l.sh.wi, .int .i64 l.sh.pl, .int .i64 l.sh.ca, .int .i64 l.sh.ino, .int .i64 l.sh.qu, .int .i64 l.sh.da, .int .i64 l.sh.jo] 60)).heap.size = w.heap.size + 1 by simp] at this
  exact this
attribute [local go_sem ↓ 100000] sl_store sl_load ly_store ly_load
attribute [local go_sem] SlStore.newS LyStore.new LyStore.drew LyLoad.new LyLoad.drew
set_option maxHeartbeats 4000000 in
theorem slotOf_low {w : World} {c : Kc} {ta N : Nat} {l : Lay} (hl : Geo l c ta N) (id : Int) (hid : id < 256 ∨ (256 ≤ id ∧ (N : Int) ≤ id % 256)) (p : Option Addr) :
    Calls Tryz.prog 104 #[.pointer p, lyV l, .int .i64 id] w fun e w' => e = .returned (.tuple #[slV slt0, .int .i64 91]) ∧ Below w.heap.size w w' := by
  have A := LS.new w l
  obtain ⟨W2, hW2⟩ : ∃ W, (w.alloc (.cells #[.int .i64 l.bo, .int .i64 l.jr, .int .i64 l.jl, .int .i64 l.le, .int .i64 l.ll, .int .i64 l.bi, .int .i64 l.bl, .int .i64 l.ta, .int .i64 l.tl, .int .i64 l.dt, .int .i64 l.dl, .int .i64 l.to, .int .i64 l.sh.cl, .int .i64 l.sh.wi, .int .i64 l.sh.pl, .int .i64 l.sh.ca, .int .i64 l.sh.ino, .int .i64 l.sh.qu, .int .i64 l.sh.da, .int .i64 l.sh.jo] 60)).alloc (.cells #[.pointer none, .int .i64 0, .int .i64 0, .slice none 0 0, .int .i64 0, .int .i64 0, .int .i64 0, .int .i64 0, .int .i64 0, .int .i64 0, .int .i64 0, .int .i64 0, .int .i64 0, .int .i64 0, .int .i64 0, .int .i64 0, .int .i64 0, .int .i64 0] 142) = W := ⟨_, rfl⟩
  rw [hW2] at A
  have c16 : W2.cell? ⟨w.heap.size, 16, none⟩ = some (.int .i64 (N : Nat)) := by rw [← hl.ino]; exact A.L.ino
  have e1 := SlStore.row (cs := #[.pointer none, .int .i64 0, .int .i64 0, .slice none 0 0, .int .i64 0, .int .i64 0, .int .i64 0, .int .i64 0, .int .i64 0, .int .i64 0, .int .i64 0, .int .i64 0, .int .i64 0, .int .i64 0, .int .i64 0, .int .i64 0, .int .i64 0, .int .i64 0]) A.S rfl rfl (by simp [Value.oneCell'])
  rcases hid with hid | ⟨h1, h2⟩
  · go_enter Tryz.func104, Tryz.ntmps104
    go_wp2_with fail
    try rw [hW2]
    go_wp2_with fail
    refine bodyPost_ret (res2 rfl _ _ (w.heap.size + 1) 142 _ (0, 0) _ rfl (setRow_heap _ _ _ _ _ _ A.S) Tryz.underlying142 rfl sl_size) rfl ?_
    exact ⟨rfl, below_setRow A.B (by omega) _⟩
  · have ht : Int.tmod id 256 = id % 256 := Int.tmod_eq_emod_of_nonneg (by omega)
    obtain ⟨q, hq⟩ : ∃ q, id % 256 = q := ⟨_, rfl⟩
    rw [hq] at ht h2
    have h3 : ¬ id < 256 := by omega
    clear hq
    go_enter Tryz.func104, Tryz.ntmps104
    go_wp2_with fail
    try rw [hW2]
    go_wp2_with fail
    refine bodyPost_ret (res2 rfl _ _ (w.heap.size + 1) 142 _ (0, 0) _ rfl (setRow_heap _ _ _ _ _ _ A.S) Tryz.underlying142 rfl sl_size) rfl ?_
    exact ⟨rfl, below_setRow A.B (by omega) _⟩
set_option maxHeartbeats 4000000 in
/-- The slot in which an id's inode could stand. -/
theorem slotOf_at {w : World} {c : Kc} {i m n ta N : Nat} {F : Nat → Prop} {v : Nat → List Int} {ks : List Nat} {l : Lay} {T : Nat → Rec} (h : Tv w c i F v ks m) (hl : Geo l c ta N) (ht : Tab l ta N v T) (id : Int) (h256 : 256 ≤ id) (hn : n < N) (hid : id % 256 = (n : Nat)) :
    Calls Tryz.prog 104 #[.pointer (some ⟨c.tb, 0, none⟩), lyV l, .int .i64 id] w fun e w' => Tv w' c i F v ks m ∧ Turns F w w' ∧ (((T n).id n ≠ id ∧ e = .returned (.tuple #[slV slt0, .int .i64 91])) ∨ ((T n).id n = id ∧ ∃ g, e = .returned (.tuple #[slV (sltOf c.tb n ((ta : Int) + (n : Int) / 4) g (T n)), .int .i64 0]) ∧ w.heap.size ≤ g ∧ w'.heap[g]? = some (bl (v (ta + n / 4))))) := by
  have A := LS.new w l
  obtain ⟨W2, hW2⟩ : ∃ W, (w.alloc (.cells #[.int .i64 l.bo, .int .i64 l.jr, .int .i64 l.jl, .int .i64 l.le, .int .i64 l.ll, .int .i64 l.bi, .int .i64 l.bl, .int .i64 l.ta, .int .i64 l.tl, .int .i64 l.dt, .int .i64 l.dl, .int .i64 l.to, .int .i64 l.sh.cl, .int .i64 l.sh.wi, .int .i64 l.sh.pl, .int .i64 l.sh.ca, .int .i64 l.sh.ino, .int .i64 l.sh.qu, .int .i64 l.sh.da, .int .i64 l.sh.jo] 60)).alloc (.cells #[.pointer none, .int .i64 0, .int .i64 0, .slice none 0 0, .int .i64 0, .int .i64 0, .int .i64 0, .int .i64 0, .int .i64 0, .int .i64 0, .int .i64 0, .int .i64 0, .int .i64 0, .int .i64 0, .int .i64 0, .int .i64 0, .int .i64 0, .int .i64 0] 142) = W := ⟨_, rfl⟩
  rw [hW2] at A
  have c16 : W2.cell? ⟨w.heap.size, 16, none⟩ = some (.int .i64 (N : Nat)) := by rw [← hl.ino]; exact A.L.ino
  have hmod : Int.tmod id 256 = (n : Nat) := by rw [Int.tmod_eq_emod_of_nonneg (by omega)]; exact hid
  have h3 : ¬ id < 256 := by omega
  have e1 := A.L.ld
  have T2 := h.below A.B
  clear hid h256
  go_enter Tryz.func104, Tryz.ntmps104
  go_wp2_with fail
  try rw [hW2]
  go_wp2_with fail
  refine (slotAt_ok T2 hl hn (ht.rc n hn) (ht.ok n hn)).mono ?_
  rintro e w3 ⟨g, rfl, hgw, hg, T3, t3⟩
  have nF : ∀ j, w.heap.size ≤ j → ¬ F j := fun j hj q => by have := h.lt j q; omega
  have S3 : SlBox w3 (w.heap.size + 1) slt0 := (t3.block _ (heap_lt A.S) (nF _ (by omega))).trans A.S
  have t03 : Turns F w w3 := (Below.turns A.B F).trans t3 (fun _ _ h => h)
  have z2 := A.z
  clear e1 c16 A t3 T2
  obtain ⟨s, hs⟩ : ∃ s, sltOf c.tb n ((ta : Int) + (n : Int) / 4) g (T n) = s := ⟨_, rfl⟩
  have HS : Hid (sltOf c.tb n ((ta : Int) + (n : Int) / 4) g (T n) = s) := hs
  have hsx : s.x.id = (T n).id n := by rw [← hs]; rfl
  rw [hs]
  clear hs
  obtain ⟨W4, hW4⟩ : ∃ W, w3.alloc (.cells (slA s) 142) = W := ⟨_, rfl⟩
  have b4 : Below w3.heap.size w3 W4 := by rw [← hW4]; exact (Below.refl _ w3).alloc (Nat.le_refl _) _
  have S4 : SlBox W4 w3.heap.size s := by rw [← hW4]; exact heap_alloc_last w3 _
  have R4 := S3.below b4
  have g4 := (b4.block g (heap_lt hg)).trans hg
  have T4 := T3.below b4
  have t04 : Turns F w W4 := t03.trans (Below.turns b4 F) (fun _ _ h => h)
  have k5 := S4.cells.c5
  rw [hsx] at k5
  have z3 := t03.size
  have zz := heap_lt S3
  clear T3 t03 hg S3 hsx
  by_cases q : (T n).id n = id
  · have q' : ((T n).id n != id) = false := by simpa using q
    have e2 := SlLoad.row S4 (slA_size _)
    have e3 := SlStore.row (cs := slA s) R4 rfl (slA_size _) (slA_one _)
    have tb := Turns.row1 W4 (w.heap.size + 1) (slA s)
    have HQ : Hid ((T n).id n = id) := q
    clear q
    go_wp2_with fail
    try rw [hW4]
    go_wp2_with fail
    refine bodyPost_ret (res2 rfl _ _ (w.heap.size + 1) 142 _ (0, 0) _ rfl (setRow_heap _ _ _ _ _ _ R4) Tryz.underlying142 rfl sl_size) rfl ?_
    exact ⟨T4.keep tb (fun j hj e => nF j (by omega) hj), t04.trans tb (fun j hj e => by omega), Or.inr ⟨HQ.out, g, by rw [HS.out]; rfl, by omega, (tb.block g (heap_lt g4) (by omega)).trans g4⟩⟩
  · have q' : ((T n).id n != id) = true := by simpa using q
    have e3 := SlStore.row (cs := #[.pointer none, .int .i64 0, .int .i64 0, .slice none 0 0, .int .i64 0, .int .i64 0, .int .i64 0, .int .i64 0, .int .i64 0, .int .i64 0, .int .i64 0, .int .i64 0, .int .i64 0, .int .i64 0, .int .i64 0, .int .i64 0, .int .i64 0, .int .i64 0]) R4 rfl rfl (by simp [Value.oneCell'])
    have tb := Turns.row1 W4 (w.heap.size + 1) #[.pointer none, .int .i64 0, .int .i64 0, .slice none 0 0, .int .i64 0, .int .i64 0, .int .i64 0, .int .i64 0, .int .i64 0, .int .i64 0, .int .i64 0, .int .i64 0, .int .i64 0, .int .i64 0, .int .i64 0, .int .i64 0, .int .i64 0, .int .i64 0]
    have HQ : Hid (¬ (T n).id n = id) := q
    clear q
    go_wp2_with fail
    try rw [hW4]
    go_wp2_with fail
    refine bodyPost_ret (res2 rfl _ _ (w.heap.size + 1) 142 _ (0, 0) _ rfl (setRow_heap _ _ _ _ _ _ R4) Tryz.underlying142 rfl sl_size) rfl ?_
    exact ⟨T4.keep tb (fun j hj e => nF j (by omega) hj), t04.trans tb (fun j hj e => by omega), Or.inl ⟨HQ.out, rfl⟩⟩
end Go.Proofs.YtlcjkbhcbiggcaaGreatDoor

/- Get, Free. -/
namespace Go.Proofs.YtlcjkbhcbiggcaaGreatDoor
open Go.RowKit Go.Maps
set_option maxRecDepth 100000

/-- The inode of an id stands in slot n. -/
structure Has (T : Nat → Rec) (N : Nat) (id : Int) (n : Nat) : Prop where
  lt : n < N
  us : (T n).kind ≠ 0
  id : (T n).gen * 256 + n = id
/-- What slotOf answers. -/
def SoR (w w' : World) (c : Kc) (i : Nat) (F : Nat → Prop) (v : Nat → List Int) (ks : List Nat) (m ta N : Nat) (T : Nat → Rec) (id : Int) (e : Ending) : Prop :=
  Tv w' c i F v ks m ∧ Turns F w w' ∧ (((∀ n, ¬ Has T N id n) ∧ e = .returned (.tuple #[slV slt0, .int .i64 91])) ∨ ∃ n g, Has T N id n ∧ e = .returned (.tuple #[slV (sltOf c.tb n ((ta : Int) + (n : Int) / 4) g (T n)), .int .i64 0]) ∧ w.heap.size ≤ g ∧ w'.heap[g]? = some (bl (v (ta + n / 4))))
theorem Has.big {l : Lay} {ta N : Nat} {v : Nat → List Int} {T : Nat → Rec} {id : Int} {n : Nat} (h : Has T N id n) (ht : Tab l ta N v T) (hN : N ≤ 256) : 256 ≤ id ∧ id % 256 = (n : Nat) := by
  have h1 := ((ht.ok n h.lt).us h.us).1
  have h2 := h.id
  have h3 := h.lt
  omega
theorem slotOf_any {w : World} {c : Kc} {i m ta N : Nat} {F : Nat → Prop} {v : Nat → List Int} {ks : List Nat} {l : Lay} {T : Nat → Rec} (h : Tv w c i F v ks m) (hl : Geo l c ta N) (ht : Tab l ta N v T) (id : Int) :
    Calls Tryz.prog 104 #[.pointer (some ⟨c.tb, 0, none⟩), lyV l, .int .i64 id] w fun e w' => SoR w w' c i F v ks m ta N T id e := by
  have hN := hl.n
  by_cases h0 : id < 256 ∨ (256 ≤ id ∧ (N : Int) ≤ id % 256)
  · refine (slotOf_low hl id h0 _).mono ?_
    rintro e w' ⟨rfl, b⟩
    refine ⟨h.below b, Below.turns b F, Or.inl ⟨fun n q => ?_, rfl⟩⟩
    obtain ⟨q1, q2⟩ := q.big ht hN
    have := q.lt
    omega
  · obtain ⟨n, hn⟩ : ∃ n : Nat, id % 256 = (n : Nat) := ⟨(id % 256).toNat, by omega⟩
    have hlt : n < N := by omega
    refine (slotOf_at h hl ht id (by omega) hlt hn).mono ?_
    rintro e w' ⟨T', t', q⟩
    refine ⟨T', t', ?_⟩
    rcases q with ⟨q, rfl⟩ | ⟨q, g, rfl, q2, q3⟩
    · refine Or.inl ⟨fun k hk => ?_, rfl⟩
      obtain ⟨_, q2⟩ := hk.big ht hN
      obtain rfl : k = n := by omega
      apply q
      unfold Rec.id
      rw [if_neg hk.us]
      exact hk.id
    · refine Or.inr ⟨n, g, ⟨hlt, fun k0 => ?_, ?_⟩, rfl, q2, q3⟩
      · unfold Rec.id at q
        rw [if_pos k0] at q
        omega
      · unfold Rec.id at q
        split at q
        · omega
        · exact q
/-- Two boxes: a layout, and an empty inode for the answer. -/
structure LI (w w' : World) (l : Lay) : Prop where
  L : LyB w' w.heap.size l
  S : InBox w' (w.heap.size + 1) ino0
  B : Below w.heap.size w w'
  z : w'.heap.size = w.heap.size + 2
theorem LI.new (w : World) (l : Lay) : LI w ((w.alloc (.cells #[.int .i64 l.bo, .int .i64 l.jr, .int .i64 l.jl, .int .i64 l.le, .int .i64 l.ll, .int .i64 l.bi, .int .i64 l.bl, .int .i64 l.ta, .int .i64 l.tl, .int .i64 l.dt, .int .i64 l.dl, .int .i64 l.to, .int .i64 l.sh.cl, .int .i64 l.sh.wi, .int .i64 l.sh.pl, .int .i64 l.sh.ca, .int .i64 l.sh.ino, .int .i64 l.sh.qu, .int .i64 l.sh.da, .int .i64 l.sh.jo] 60)).alloc (.cells #[.int .i64 0, .int .i64 0, .int .i64 0, .int .i64 0, .int .i64 0, .int .i64 0, .int .i64 0, .int .i64 0, .int .i64 0, .int .i64 0, .int .i64 0, .int .i64 0, .int .i64 0] 38)) l := by
  refine ⟨(LyB.new w l).below ((Below.refl _ _).alloc (Nat.le_refl _) _), ?_, ((Below.refl _ w).alloc (Nat.le_refl _) _).alloc (by simp) _, by simp⟩
  have := heap_alloc_last (w.alloc (.cells #[.int .i64 l.bo, .int .i64 l.jr, .int .i64 l.jl, .int .i64 l.le, .int .i64 l.ll, .int .i64 l.bi, .int .i64 l.bl, .int .i64 l.ta, .int .i64 l.tl, .int .i64 l.dt, .int .i64 l.dl, .int .i64 l.to, .int .i64 l.sh.cl, .int .i64 l.sh.wi, .int .i64 l.sh.pl, .int .i64 l.sh.ca, .int .i64 l.sh.ino, .int .i64 l.sh.qu, .int .i64 l.sh.da, .int .i64 l.sh.jo] 60)) (.cells #[.int .i64 0, .int .i64 0, .int .i64 0, .int .i64 0, .int .i64 0, .int .i64 0, .int .i64 0, .int .i64 0, .int .i64 0, .int .i64 0, .int .i64 0, .int .i64 0, .int .i64 0] 38)
  rw [show (w.alloc (.cells #[.int .i64 l.bo, .int .i64 l.jr, .int .i64 l.jl, .int .i64 l.le, .int .i64 l.ll, .int .i64 l.bi, .int .i64 l.bl, .int .i64 l.ta, .int .i64 l.tl, .int .i64 l.dt, .int .i64 l.dl, .int .i64 l.to, .int .i64 l.sh.cl, .int .i64 l.sh.wi, .int .i64 l.sh.pl, .int .i64 l.sh.ca, .int .i64 l.sh.ino, .int .i64 l.sh.qu, .int .i64 l.sh.da, .int .i64 l.sh.jo] 60)).heap.size = w.heap.size + 1 by simp] at this
  exact this
attribute [local go_sem ↓ 100000] sl_store sl_load ly_store ly_load in_store in_load
attribute [local go_sem] SlStore.newS LyStore.new LyStore.drew LyLoad.new LyLoad.drew
/-- What Get answers. -/
def GtR (w w' : World) (c : Kc) (i : Nat) (F : Nat → Prop) (v : Nat → List Int) (ks : List Nat) (m N : Nat) (T : Nat → Rec) (id : Int) (e : Ending) : Prop :=
  Tv w' c i F v ks m ∧ Turns F w w' ∧ (((∀ n, ¬ Has T N id n) ∧ e = .returned (.tuple #[inV ino0, .int .i64 91])) ∨ ∃ n, Has T N id n ∧ e = .returned (.tuple #[inV ((T n).ino id), .int .i64 0]))
set_option maxHeartbeats 4000000 in
theorem get_any {w : World} {c : Kc} {i m ta N : Nat} {F : Nat → Prop} {v : Nat → List Int} {ks : List Nat} {l : Lay} {T : Nat → Rec} (h : Tv w c i F v ks m) (hl : Geo l c ta N) (ht : Tab l ta N v T) (id : Int) :
    Calls Tryz.prog 50 #[.pointer (some ⟨c.tb, 0, none⟩), lyV l, .int .i64 id] w fun e w' => GtR w w' c i F v ks m N T id e := by
  have A := LI.new w l
  obtain ⟨W2, hW2⟩ : ∃ W, (w.alloc (.cells #[.int .i64 l.bo, .int .i64 l.jr, .int .i64 l.jl, .int .i64 l.le, .int .i64 l.ll, .int .i64 l.bi, .int .i64 l.bl, .int .i64 l.ta, .int .i64 l.tl, .int .i64 l.dt, .int .i64 l.dl, .int .i64 l.to, .int .i64 l.sh.cl, .int .i64 l.sh.wi, .int .i64 l.sh.pl, .int .i64 l.sh.ca, .int .i64 l.sh.ino, .int .i64 l.sh.qu, .int .i64 l.sh.da, .int .i64 l.sh.jo] 60)).alloc (.cells #[.int .i64 0, .int .i64 0, .int .i64 0, .int .i64 0, .int .i64 0, .int .i64 0, .int .i64 0, .int .i64 0, .int .i64 0, .int .i64 0, .int .i64 0, .int .i64 0, .int .i64 0] 38) = W := ⟨_, rfl⟩
  rw [hW2] at A
  have e1 := A.L.ld
  have T2 := h.below A.B
  go_enter Tryz.func50, Tryz.ntmps50
  go_wp2_with fail
  try rw [hW2]
  go_wp2_with fail
  refine (slotOf_any T2 hl ht id).mono ?_
  rintro e w3 ⟨T3, t3, q⟩
  have nF : ∀ j, w.heap.size ≤ j → ¬ F j := fun j hj q => by have := h.lt j q; omega
  have I3 : InBox w3 (w.heap.size + 1) ino0 := (t3.block _ (heap_lt A.S) (nF _ (by omega))).trans A.S
  have t03 : Turns F w w3 := (Below.turns A.B F).trans t3 (fun _ _ h => h)
  clear e1 A t3 T2 hW2
  obtain ⟨s, v0, x, rfl, hsx, HR⟩ : ∃ s v0 x, e = .returned (.tuple #[slV s, .int .i64 v0]) ∧ s.x = x ∧ Hid (((∀ n, ¬ Has T N id n) ∧ x = ino0 ∧ v0 = 91) ∨ ∃ n, Has T N id n ∧ x = (T n).ino id ∧ v0 = 0) := by
    rcases q with ⟨q, rfl⟩ | ⟨n, g, q, rfl, _, _⟩
    · exact ⟨slt0, 91, ino0, rfl, rfl, Or.inl ⟨q, rfl, rfl⟩⟩
    · refine ⟨_, 0, (T n).ino id, rfl, ?_, Or.inr ⟨n, q, rfl, rfl⟩⟩
      show (T n).ino ((T n).id n) = (T n).ino id
      unfold Rec.id
      rw [if_neg q.us, q.id]
  clear q
  obtain ⟨W4, hW4⟩ : ∃ W, w3.alloc (.cells (slA s) 142) = W := ⟨_, rfl⟩
  have b4 : Below w3.heap.size w3 W4 := by rw [← hW4]; exact (Below.refl _ w3).alloc (Nat.le_refl _) _
  have S4 : SlBox W4 w3.heap.size s := by rw [← hW4]; exact heap_alloc_last w3 _
  have I4 := I3.below b4
  have T4 := T3.below b4
  have t04 : Turns F w W4 := t03.trans (Below.turns b4 F) (fun _ _ h => h)
  have zz := heap_lt I3
  have r5 := S4.cells.inr
  rw [hsx] at r5
  have e2 := InLoad.mid r5 rfl
  have e3 := InStore.row (cs := inA x) I4 rfl (inA_size _) (inA_one _)
  have tb := Turns.row1 W4 (w.heap.size + 1) (inA x)
  clear T3 t03 I3 hsx r5
  go_wp2_with fail
  try rw [hW4]
  go_wp2_with fail
  refine bodyPost_ret (res2 rfl _ _ (w.heap.size + 1) 38 _ (0, 0) _ rfl (setRow_heap _ _ _ _ _ _ I4) Tryz.underlying38 rfl in_size) rfl ?_
  refine ⟨T4.keep tb (fun j hj e => nF j (by omega) hj), t04.trans tb (fun j hj e => by omega), ?_⟩
  rcases HR.out with ⟨q, rfl, rfl⟩ | ⟨n, q, rfl, rfl⟩
  · exact Or.inl ⟨q, rfl⟩
  · exact Or.inr ⟨n, q, rfl⟩
/-- What a call leaves that has written slot n; what is new of the transaction's own lies from B on. -/
structure WrB (w w' : World) (B : Nat) (c : Kc) (i : Nat) (F : Nat → Prop) (v : Nat → List Int) (ks : List Nat) (m ta n : Nat) (r : Rec) : Prop where
  ex : ∃ F', Tv w' c i F' (updF v (ta + n / 4) (splice (v (ta + n / 4)) (n % 4 * 128) (recB r))) (kput ks (ta + n / 4)) (m + 1) ∧ (∀ i, F' i → F i ∨ B ≤ i) ∧ ∀ i, F i → F' i
  tr : Turns F w w'
abbrev WrR (w w' : World) (c : Kc) (i : Nat) (F : Nat → Prop) (v : Nat → List Int) (ks : List Nat) (m ta n : Nat) (r : Rec) : Prop := WrB w w' w.heap.size c i F v ks m ta n r
theorem WrB.mono {w w' : World} {B B' : Nat} {c : Kc} {i : Nat} {F : Nat → Prop} {v : Nat → List Int} {ks : List Nat} {m ta n : Nat} {r : Rec} (h : WrB w w' B c i F v ks m ta n r) (hB : B' ≤ B) : WrB w w' B' c i F v ks m ta n r := by
  obtain ⟨F', h1, h2, h3⟩ := h.ex
  exact ⟨⟨F', h1, fun j hj => (h2 j hj).elim Or.inl (fun q => Or.inr (Nat.le_trans hB q)), h3⟩, h.tr⟩
theorem WrB.from {w0 w w' : World} {B : Nat} {c : Kc} {i : Nat} {F : Nat → Prop} {v : Nat → List Int} {ks : List Nat} {m ta n : Nat} {r : Rec} (h : WrB w w' B c i F v ks m ta n r) (t : Turns F w0 w) : WrB w0 w' B c i F v ks m ta n r :=
  ⟨h.ex, t.trans h.tr (fun _ _ q => q)⟩
theorem WrB.on {w w' w'' : World} {B : Nat} {c : Kc} {i : Nat} {F : Nat → Prop} {v : Nat → List Int} {ks : List Nat} {m ta n : Nat} {r : Rec} (h : WrB w w' B c i F v ks m ta n r) (b : Below w'.heap.size w' w'') : WrB w w'' B c i F v ks m ta n r := by
  obtain ⟨F', h1, h2, h3⟩ := h.ex
  exact ⟨⟨F', h1.below b, h2, h3⟩, h.tr.trans (Below.turns b F) (fun _ _ q => q)⟩
theorem WrB.row {w w' w'' : World} {B : Nat} {c : Kc} {i : Nat} {F : Nat → Prop} {v : Nat → List Int} {ks : List Nat} {m ta n b : Nat} {r : Rec} (h : WrB w w' B c i F v ks m ta n r) (t : Turns (fun j => j = b) w' w'') (hF : ∀ i, F i → i < w.heap.size) (hb : w.heap.size ≤ b) (hB : b < B) : WrB w w'' B c i F v ks m ta n r := by
  obtain ⟨F', h1, h2, h3⟩ := h.ex
  exact ⟨⟨F', h1.keep t (fun j hj e => by
    rcases h2 j hj with q | q
    · have := hF j q
      omega
    · omega), h2, h3⟩, h.tr.trans t (fun j hj e => by omega)⟩
/-- A slot that was read is written. -/
theorem swrite_at {w w1 : World} {c : Kc} {i m n g ta N : Nat} {F : Nat → Prop} {v : Nat → List Int} {ks : List Nat} {l : Lay} (h : Tv w1 c i F v ks m) (t01 : Turns F w w1) (hF : ∀ i, F i → i < w.heap.size) (hl : Geo l c ta N) (hn : n < N) (s : Slt) (hs : s.tx = some ⟨c.tb, 0, none⟩ ∧ s.n = (n : Nat) ∧ s.at_ = (ta : Int) + (n : Int) / 4 ∧ s.bk = some ⟨g, 0, none⟩ ∧ s.len = 512 ∧ s.cap = 512) (hgw : w.heap.size ≤ g) (hg : w1.heap[g]? = some (bl (v (ta + n / 4)))) (r : Rec) (hroom : ta + n / 4 ∈ ks ∨ ks.length < 24) (hm : m ≤ 1000000) :
    Calls Tryz.prog 105 #[slV s, .agg (rcA (recB r))] w1 fun e w' => e = .returned (.int .i64 0) ∧ WrB w w' w1.heap.size c i F v ks m ta n r ∧ Turns (fun i => F i ∨ i = g) w1 w' := by
  obtain ⟨h1, h2, h3, h4, h5, h6⟩ := hs
  have hN := hl.n
  have hout := hl.out n hn
  have hlen := h.len _ hout
  have nG : ¬ F g := fun q => by have := hF g q; omega
  refine (swrite_ok h (n := n) (a := ta + n / 4) (g := g) (bs := v (ta + n / 4)) ⟨h1, h2, by rw [h3]; omega, h4, h5, h6, hg, hlen.1, hlen.2⟩ (by omega) hout nG (recB r) (recB_len r) (recB_by r) hroom hm).mono ?_
  rintro e w' ⟨F', rfl, T', t', f1, f2⟩
  refine ⟨rfl, ⟨⟨F', T', f1, f2⟩, t01.trans t' (fun j hj q => q.elim id (fun e => by omega))⟩, t'⟩
attribute [local go_sem ↓ 100000] sl_ex
/-- What Free answers. -/
def FrR (w w' : World) (c : Kc) (i : Nat) (F : Nat → Prop) (v : Nat → List Int) (ks : List Nat) (m ta N : Nat) (T : Nat → Rec) (id : Int) (e : Ending) : Prop :=
  ((∀ n, ¬ Has T N id n) ∧ e = .returned (.int .i64 91) ∧ Tv w' c i F v ks m ∧ Turns F w w') ∨ ∃ n, Has T N id n ∧ e = .returned (.int .i64 0) ∧ WrR w w' c i F v ks m ta n { rec0 with gen := (T n).gen }
theorem recOk_free {g : Int} (h0 : 0 ≤ g) (h1 : g ≤ 1099511627776) : RecOk (recOf g ino0) :=
  ⟨h0, h1, Int.le_refl 0, (by decide : (0 : Int) ≤ 2), Int.le_refl 0, (by decide : (0 : Int) ≤ 69632), Int.le_refl 0, (by decide : (0 : Int) ≤ 4611686018427387904), fun _ _ => ⟨Int.le_refl 0, (by decide : (0 : Int) ≤ 8192)⟩, Int.le_refl 0, (by decide : (0 : Int) ≤ 8192)⟩
set_option maxHeartbeats 4000000 in
theorem free_any {w : World} {c : Kc} {i m ta N : Nat} {F : Nat → Prop} {v : Nat → List Int} {ks : List Nat} {l : Lay} {T : Nat → Rec} (h : Tv w c i F v ks m) (hl : Geo l c ta N) (ht : Tab l ta N v T) (id : Int) (hroom : ∀ n, Has T N id n → ta + n / 4 ∈ ks ∨ ks.length < 24) (hm : m ≤ 1000000) :
    Calls Tryz.prog 49 #[.pointer (some ⟨c.tb, 0, none⟩), lyV l, .int .i64 id] w fun e w' => FrR w w' c i F v ks m ta N T id e := by
  obtain ⟨W2, hW2⟩ : ∃ W, w.alloc (.cells #[.int .i64 l.bo, .int .i64 l.jr, .int .i64 l.jl, .int .i64 l.le, .int .i64 l.ll, .int .i64 l.bi, .int .i64 l.bl, .int .i64 l.ta, .int .i64 l.tl, .int .i64 l.dt, .int .i64 l.dl, .int .i64 l.to, .int .i64 l.sh.cl, .int .i64 l.sh.wi, .int .i64 l.sh.pl, .int .i64 l.sh.ca, .int .i64 l.sh.ino, .int .i64 l.sh.qu, .int .i64 l.sh.da, .int .i64 l.sh.jo] 60) = W := ⟨_, rfl⟩
  have b2 : Below w.heap.size w W2 := by rw [← hW2]; exact (Below.refl _ w).alloc (Nat.le_refl _) _
  have L2 : LyB W2 w.heap.size l := by rw [← hW2]; exact LyB.new w l
  have e1 := L2.ld
  have T2 := h.below b2
  go_enter Tryz.func49, Tryz.ntmps49
  go_wp2_with fail
  try rw [hW2]
  go_wp2_with fail
  refine (slotOf_any T2 hl ht id).mono ?_
  rintro e w3 ⟨T3, t3, q⟩
  have t03 : Turns F w w3 := (Below.turns b2 F).trans t3 (fun _ _ h => h)
  clear e1 t3 T2 hW2 L2
  rcases q with ⟨q, rfl⟩ | ⟨n, g, q, rfl, hgw, hg⟩
  · have HQ : Hid (∀ n, ¬ Has T N id n) := q
    clear q
    have T4 := T3.below ((Below.refl _ w3).alloc (Nat.le_refl _) (.cells (slA slt0) 142))
    have t04 : Turns F w (w3.alloc (.cells (slA slt0) 142)) := t03.trans (Turns.alloc F w3 _) (fun _ _ h => h)
    go_wp2_with fail
    go_ret
    exact Or.inl ⟨HQ.out, rfl, T4, t04⟩
  · have hrm := hroom n q
    have hrec : RecOk (recOf (T n).gen ino0) := by
      have := (ht.ok n q.lt).ok
      exact recOk_free this.g0 this.g1
    have HQ : Hid (Has T N id n) := q
    have hlt := q.lt
    clear q
    obtain ⟨s, hs⟩ : ∃ s, sltOf c.tb n ((ta : Int) + (n : Int) / 4) g (T n) = s := ⟨_, rfl⟩
    have hsf : s.tx = some ⟨c.tb, 0, none⟩ ∧ s.n = (n : Nat) ∧ s.at_ = (ta : Int) + (n : Int) / 4 ∧ s.bk = some ⟨g, 0, none⟩ ∧ s.len = 512 ∧ s.cap = 512 := by rw [← hs]; exact ⟨rfl, rfl, rfl, rfl, rfl, rfl⟩
    have hsg : s.gen = (T n).gen := by rw [← hs]; rfl
    rw [hs]
    clear hs
    obtain ⟨W4, hW4⟩ : ∃ W, w3.alloc (.cells (slA s) 142) = W := ⟨_, rfl⟩
    have b4 : Below w3.heap.size w3 W4 := by rw [← hW4]; exact (Below.refl _ w3).alloc (Nat.le_refl _) _
    have S4 : SlBox W4 w3.heap.size s := by rw [← hW4]; exact heap_alloc_last w3 _
    have g4 := (b4.block g (heap_lt hg)).trans hg
    have T4 := T3.below b4
    have t04 : Turns F w W4 := t03.trans (Below.turns b4 F) (fun _ _ h => h)
    have k4 := S4.cells.c4
    rw [hsg] at k4
    have x4 := SlEx.row S4 (slA_size _)
    have x4d := SlEx.row (w := W4.drew) S4 (slA_size _)
    have PO := recordOf_ok (T n).gen ino0 hrec
    have h2 := t03.size
    have h2b := b2.size
    have hgl := heap_lt hg
    have nF : ∀ j, w.heap.size ≤ j → ¬ F j := fun j hj q => by have := h.lt j q; omega
    clear T3 t03 hg
    go_wp2_with fail
    try rw [hW4]
    go_wp2_with fail
    go_region_held3 (fun w' => (SlEx (.pointer (some ⟨w3.heap.size, 0, none⟩))).run Tryz.prog w' = .ok (.value (slV s)) w' ∧ w'.cell? ⟨w3.heap.size, 4, none⟩ = some (.int .i64 (T n).gen))
      (first | exact ⟨x4, k4⟩ | exact ⟨x4d, k4⟩ | exact ⟨x5, k5⟩ | exact ⟨x6, k6⟩)
      (first
        | (go_at_call 106; refine (PO _).mono ?_; rintro e w5 ⟨rfl, b5⟩; have S5 := SlBox.below (w := W4.drew) S4 b5; have x5 := SlEx.row S5 (slA_size _); have k5 := S5.cells.c4; rw [hsg] at k5; have g5 := (b5.block g (heap_lt g4)).trans g4; have T5 := (Tv.below T4 (Below.drew (Below.refl _ W4))).below b5; have t05 : Turns F w w5 := (t04.trans (Below.turns (Below.drew (Below.refl _ W4)) F) (fun _ _ h => h)).trans (Below.turns b5 F) (fun _ _ h => h))
        | (go_at_call 105; refine (swrite_at T5 t05 h.lt hl hlt s hsf (by omega) g5 (recOf (T n).gen ino0) hrm hm).mono ?_; rintro e w6 ⟨rfl, R6, u6⟩; have S6 : SlBox w6 w3.heap.size s := (u6.block _ (heap_lt S5) (fun q => q.elim (nF _ (by omega)) (fun q => by omega))).trans S5; have x6 := SlEx.row S6 (slA_size _); have k6 := S6.cells.c4; rw [hsg] at k6))
    clear x4 x4d x6 k4 k6 S5 S6 u6 T5
    go_wp2_with fail
    go_ret
    exact Or.inr ⟨n, HQ.out, rfl, R6.mono t05.size⟩
end Go.Proofs.YtlcjkbhcbiggcaaGreatDoor

/- Put. -/
namespace Go.Proofs.YtlcjkbhcbiggcaaGreatDoor
open Go.RowKit Go.Maps
set_option maxRecDepth 100000

theorem blk_bd {l : Lay} (hd : Dat l) {b : Int} (h : blkB l b = true) : 0 ≤ b ∧ b ≤ 8192 := by
  obtain ⟨h1, h2, h3, h4⟩ := hd
  have := of_decide_eq_true h
  omega
theorem recOk_put {l : Lay} (hd : Dat l) {x : Ino} (h : mayBI l x = true) {g : Int} (h0 : 0 ≤ g) (h1 : g ≤ 1099511627776) : RecOk (recOf g x) := by
  obtain ⟨a1, a2, a3, a4, a5, a6, a7⟩ := of_decide_eq_true h
  have k := of_decide_eq_true a1
  refine ⟨h0, h1, ?_, ?_, a2, a3, a4, a5, fun i hi => ?_, (blk_bd hd a7).1, (blk_bd hd a7).2⟩
  · show 0 ≤ x.kind
    omega
  · show x.kind ≤ 2
    omega
  · exact blk_bd hd (List.all_eq_true.1 a6 i (by simpa using hi))
/-- What Put answers. -/
def PtR (w w' : World) (c : Kc) (i : Nat) (F : Nat → Prop) (v : Nat → List Int) (ks : List Nat) (m ta N : Nat) (T : Nat → Rec) (l : Lay) (x : Ino) (e : Ending) : Prop :=
  (∃ k, (k = 1 ∧ (mayBI l x = false ∨ (mayBI l x = true ∧ ∃ n, Has T N x.id n ∧ (T n).kind ≠ x.kind)) ∨ (k = 91 ∧ mayBI l x = true ∧ ∀ n, ¬ Has T N x.id n)) ∧ e = .returned (.int .i64 k) ∧ Tv w' c i F v ks m ∧ Turns F w w') ∨ ∃ n, mayBI l x = true ∧ Has T N x.id n ∧ (T n).kind = x.kind ∧ e = .returned (.int .i64 0) ∧ WrR w w' c i F v ks m ta n (recOf (T n).gen x)
/-- Two boxes: a layout and an inode. -/
structure LX (w w' : World) (l : Lay) (x : Ino) : Prop where
  L : LyB w' w.heap.size l
  X : InBox w' (w.heap.size + 1) x
  B : Below w.heap.size w w'
theorem LX.new (w : World) (l : Lay) (x : Ino) : LX w ((w.alloc (.cells #[.int .i64 l.bo, .int .i64 l.jr, .int .i64 l.jl, .int .i64 l.le, .int .i64 l.ll, .int .i64 l.bi, .int .i64 l.bl, .int .i64 l.ta, .int .i64 l.tl, .int .i64 l.dt, .int .i64 l.dl, .int .i64 l.to, .int .i64 l.sh.cl, .int .i64 l.sh.wi, .int .i64 l.sh.pl, .int .i64 l.sh.ca, .int .i64 l.sh.ino, .int .i64 l.sh.qu, .int .i64 l.sh.da, .int .i64 l.sh.jo] 60)).alloc (.cells (inA x) 38)) l x := by
  refine ⟨(LyB.new w l).below ((Below.refl _ _).alloc (Nat.le_refl _) _), ?_, ((Below.refl _ w).alloc (Nat.le_refl _) _).alloc (by simp) _⟩
  have := heap_alloc_last (w.alloc (.cells #[.int .i64 l.bo, .int .i64 l.jr, .int .i64 l.jl, .int .i64 l.le, .int .i64 l.ll, .int .i64 l.bi, .int .i64 l.bl, .int .i64 l.ta, .int .i64 l.tl, .int .i64 l.dt, .int .i64 l.dl, .int .i64 l.to, .int .i64 l.sh.cl, .int .i64 l.sh.wi, .int .i64 l.sh.pl, .int .i64 l.sh.ca, .int .i64 l.sh.ino, .int .i64 l.sh.qu, .int .i64 l.sh.da, .int .i64 l.sh.jo] 60)) (.cells (inA x) 38)
  rw [show (w.alloc (.cells #[.int .i64 l.bo, .int .i64 l.jr, .int .i64 l.jl, .int .i64 l.le, .int .i64 l.ll, .int .i64 l.bi, .int .i64 l.bl, .int .i64 l.ta, .int .i64 l.tl, .int .i64 l.dt, .int .i64 l.dl, .int .i64 l.to, .int .i64 l.sh.cl, .int .i64 l.sh.wi, .int .i64 l.sh.pl, .int .i64 l.sh.ca, .int .i64 l.sh.ino, .int .i64 l.sh.qu, .int .i64 l.sh.da, .int .i64 l.sh.jo] 60)).heap.size = w.heap.size + 1 by simp] at this
  exact this
theorem LX.below {w w' w'' : World} {l : Lay} {x : Ino} (h : LX w w' l x) (b : Below w'.heap.size w' w'') : LX w w'' l x := ⟨h.L.below b, h.X.below b, h.B.trans (b.mono h.B.size)⟩
theorem LX.turns {F : Nat → Prop} {w w' w'' : World} {l : Lay} {x : Ino} (h : LX w w' l x) (t : Turns F w' w'') (hF : ∀ i, F i → i < w.heap.size) : LyB w'' w.heap.size l ∧ InBox w'' (w.heap.size + 1) x :=
  ⟨(t.block _ (heap_lt h.L) (fun q => by have := hF _ q; omega)).trans h.L, (t.block _ (heap_lt h.X) (fun q => by have := hF _ q; omega)).trans h.X⟩
attribute [local go_sem ↓ 100000] sl_store sl_load ly_store ly_load in_store in_load sl_ex in_ex ly_ex
attribute [local go_sem] SlStore.newS InStore.newI LyStore.new LyStore.drew LyLoad.new LyLoad.drew
set_option maxHeartbeats 4000000 in
theorem put_any {w : World} {c : Kc} {i m ta N : Nat} {F : Nat → Prop} {v : Nat → List Int} {ks : List Nat} {l : Lay} {T : Nat → Rec} (h : Tv w c i F v ks m) (hl : Geo l c ta N) (ht : Tab l ta N v T) (x : Ino) (hroom : ∀ n, Has T N x.id n → ta + n / 4 ∈ ks ∨ ks.length < 24) (hm : m ≤ 1000000) :
    Calls Tryz.prog 84 #[.pointer (some ⟨c.tb, 0, none⟩), lyV l, inV x] w fun e w' => PtR w w' c i F v ks m ta N T l x e := by
  have A := LX.new w l x
  obtain ⟨W2, hW2⟩ : ∃ W, (w.alloc (.cells #[.int .i64 l.bo, .int .i64 l.jr, .int .i64 l.jl, .int .i64 l.le, .int .i64 l.ll, .int .i64 l.bi, .int .i64 l.bl, .int .i64 l.ta, .int .i64 l.tl, .int .i64 l.dt, .int .i64 l.dl, .int .i64 l.to, .int .i64 l.sh.cl, .int .i64 l.sh.wi, .int .i64 l.sh.pl, .int .i64 l.sh.ca, .int .i64 l.sh.ino, .int .i64 l.sh.qu, .int .i64 l.sh.da, .int .i64 l.sh.jo] 60)).alloc (.cells (inA x) 38) = W := ⟨_, rfl⟩
  rw [hW2] at A
  have e1 := A.L.ld
  have e2 := InLoad.row A.X (inA_size _)
  go_enter Tryz.func84, Tryz.ntmps84
  go_wp2_with fail
  try rw [hW2]
  go_wp2_with fail
  refine (mayBeI_any l hl.dat x _).mono ?_
  rintro e w3 ⟨rfl, b3⟩
  have A3 := A.below b3
  clear A e1 e2 hW2
  by_cases hmb : mayBI l x = true
  case neg =>
    have hmb : mayBI l x = false := by simpa using hmb
    have HM : Hid (mayBI l x = false) := hmb
    rw [hmb]
    clear hmb
    go_wp2_with fail
    go_ret
    exact Or.inl ⟨1, Or.inl ⟨rfl, Or.inl HM.out⟩, rfl, h.below A3.B, Below.turns A3.B F⟩
  have HM : Hid (mayBI l x = true) := hmb
  rw [hmb]
  clear hmb
  have e3 := A3.L.ld
  have k0 := A3.X.cells.c0
  have T3 := h.below A3.B
  go_wp2_with fail
  refine (slotOf_any T3 hl ht x.id).mono ?_
  rintro e w4 ⟨T4, t4, q⟩
  obtain ⟨L4, X4⟩ := A3.turns t4 h.lt
  have t04 : Turns F w w4 := (Below.turns A3.B F).trans t4 (fun _ _ h => h)
  have z3 := A3.B.size
  have zx3 := heap_lt A3.X
  have nF : ∀ j, w.heap.size ≤ j → ¬ F j := fun j hj q => by have := h.lt j q; omega
  clear e3 k0 T3 t4 A3
  rcases q with ⟨q, rfl⟩ | ⟨n, g, q, rfl, hgw, hg⟩
  · have HQ : Hid (∀ n, ¬ Has T N x.id n) := q
    clear q
    have T5 := T4.below ((Below.refl _ w4).alloc (Nat.le_refl _) (.cells (slA slt0) 142))
    have t05 : Turns F w (w4.alloc (.cells (slA slt0) 142)) := t04.trans (Turns.alloc F w4 _) (fun _ _ h => h)
    go_wp2_with fail
    go_ret
    exact Or.inl ⟨91, Or.inr ⟨rfl, HM.out, HQ.out⟩, rfl, T5, t05⟩
  · have hrm := hroom n q
    have hrec : RecOk (recOf (T n).gen x) := recOk_put hl.dat HM.out (ht.ok n q.lt).ok.g0 (ht.ok n q.lt).ok.g1
    have HQ : Hid (Has T N x.id n) := q
    have hlt := q.lt
    clear q
    obtain ⟨s, hs⟩ : ∃ s, sltOf c.tb n ((ta : Int) + (n : Int) / 4) g (T n) = s := ⟨_, rfl⟩
    have hsf : s.tx = some ⟨c.tb, 0, none⟩ ∧ s.n = (n : Nat) ∧ s.at_ = (ta : Int) + (n : Int) / 4 ∧ s.bk = some ⟨g, 0, none⟩ ∧ s.len = 512 ∧ s.cap = 512 := by rw [← hs]; exact ⟨rfl, rfl, rfl, rfl, rfl, rfl⟩
    have hsg : s.gen = (T n).gen := by rw [← hs]; rfl
    have hsk : s.x.kind = (T n).kind := by rw [← hs]; rfl
    rw [hs]
    clear hs
    obtain ⟨W5, hW5⟩ : ∃ W, w4.alloc (.cells (slA s) 142) = W := ⟨_, rfl⟩
    have b5 : Below w4.heap.size w4 W5 := by rw [← hW5]; exact (Below.refl _ w4).alloc (Nat.le_refl _) _
    have S5 : SlBox W5 w4.heap.size s := by rw [← hW5]; exact heap_alloc_last w4 _
    have g5 := (b5.block g (heap_lt hg)).trans hg
    have X5 := X4.below b5
    have T5 := T4.below b5
    have t05 : Turns F w W5 := t04.trans (Below.turns b5 F) (fun _ _ h => h)
    have k6 := S5.cells.c6
    rw [hsk] at k6
    have k1 := X5.cells.c1
    rw [Nat.zero_add] at k1
    have hgl := heap_lt hg
    have z4 := t04.size
    have zx := heap_lt X4
    clear T4 t04 hg X4 L4 hsk
    by_cases hk : (T n).kind = x.kind
    case neg =>
      have hk' : ((T n).kind != x.kind) = true := by simpa using hk
      have HK : Hid ((T n).kind ≠ x.kind) := hk
      clear hk
      go_wp2_with fail
      try rw [hW5]
      go_wp2_with fail
      go_ret
      exact Or.inl ⟨1, Or.inl ⟨rfl, Or.inr ⟨HM.out, n, HQ.out, HK.out⟩⟩, rfl, T5, t05⟩
    have hk' : ((T n).kind != x.kind) = false := by simpa using hk
    have HK : Hid ((T n).kind = x.kind) := hk
    clear hk
    have k4 := S5.cells.c4
    rw [hsg] at k4
    have x5 := SlEx.row S5 (slA_size _)
    have x5d := SlEx.row (w := W5.drew) S5 (slA_size _)
    have i5 := InEx.row X5 (inA_size _)
    have i5d := InEx.row (w := W5.drew) X5 (inA_size _)
    have PO := recordOf_ok (T n).gen x hrec
    go_wp2_with fail
    try rw [hW5]
    go_wp2_with fail
    go_region_held3 (fun w' => (SlEx (.pointer (some ⟨w4.heap.size, 0, none⟩))).run Tryz.prog w' = .ok (.value (slV s)) w' ∧ w'.cell? ⟨w4.heap.size, 4, none⟩ = some (.int .i64 (T n).gen) ∧ (InEx (.pointer (some ⟨w.heap.size + 1, 0, none⟩))).run Tryz.prog w' = .ok (.value (inV x)) w')
      (first | exact ⟨x5, k4, i5⟩ | exact ⟨x5d, k4, i5d⟩ | exact ⟨x6, k7, i6⟩ | exact ⟨x7, k8, i7⟩)
      (first
        | (go_at_call 106; refine (PO _).mono ?_; rintro e w6 ⟨rfl, b6⟩; have S6 := SlBox.below (w := W5.drew) S5 b6; have X6 := InBox.below (w := W5.drew) X5 b6; have x6 := SlEx.row S6 (slA_size _); have i6 := InEx.row X6 (inA_size _); have k7 := S6.cells.c4; rw [hsg] at k7; have g6 := (b6.block g (heap_lt g5)).trans g5; have T6 := (Tv.below T5 (Below.drew (Below.refl _ W5))).below b6; have t06 : Turns F w w6 := (t05.trans (Below.turns (Below.drew (Below.refl _ W5)) F) (fun _ _ h => h)).trans (Below.turns b6 F) (fun _ _ h => h))
        | (go_at_call 105; refine (swrite_at T6 t06 h.lt hl hlt s hsf (by omega) g6 (recOf (T n).gen x) hrm hm).mono ?_; rintro e w7 ⟨rfl, R7, u7⟩; have S7 : SlBox w7 w4.heap.size s := (u7.block _ (heap_lt S6) (fun q => q.elim (nF _ (by omega)) (fun q => by omega))).trans S6; have X7 : InBox w7 (w.heap.size + 1) x := (u7.block _ (heap_lt X6) (fun q => q.elim (nF _ (by omega)) (fun q => by omega))).trans X6; have x7 := SlEx.row S7 (slA_size _); have i7 := InEx.row X7 (inA_size _); have k8 := S7.cells.c4; rw [hsg] at k8))
    clear x5 x5d i5 i5d x7 i7 k8 S6 S7 X6 X7 u7 T6
    go_wp2_with fail
    go_ret
    exact Or.inr ⟨n, HM.out, HQ.out, HK.out, rfl, R7.mono t06.size⟩
end Go.Proofs.YtlcjkbhcbiggcaaGreatDoor
