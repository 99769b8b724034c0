/- A List is taken from a reader. -/
import Derived.Test.YtdkcplndplhblaaGreatDoorPk10
import Derived.Laws.MakeOwn
import Derived.Test.YtdkcplndplhblaaGreatDoorPk08
namespace Go.Proofs.YtdkcplndplhblaaGreatDoor
open Go.RowKit
set_option maxRecDepth 100000

theorem Tryz.infoEntry : (Tryz.prog.info? 86).map (fun i => (i.zero, i.size, i.bytes)) = some (some (.agg #[.string ⟨#[]⟩, .int .i64 0, .int .i64 0]), 3, 32) := by kernel_rfl
def zEnt : Ent := ⟨⟨#[]⟩, 0, 0⟩
theorem mz0 : madeCells (Value.agg #[.string ⟨#[]⟩, .int .i64 0, .int .i64 0]).cells (0 * 3) = (entCells (List.replicate 0 zEnt)).toArray := by kernel_rfl
theorem mz1 : madeCells (Value.agg #[.string ⟨#[]⟩, .int .i64 0, .int .i64 0]).cells (1 * 3) = (entCells (List.replicate 1 zEnt)).toArray := by kernel_rfl
theorem mz2 : madeCells (Value.agg #[.string ⟨#[]⟩, .int .i64 0, .int .i64 0]).cells (2 * 3) = (entCells (List.replicate 2 zEnt)).toArray := by kernel_rfl
theorem mz3 : madeCells (Value.agg #[.string ⟨#[]⟩, .int .i64 0, .int .i64 0]).cells (3 * 3) = (entCells (List.replicate 3 zEnt)).toArray := by kernel_rfl
theorem mz4 : madeCells (Value.agg #[.string ⟨#[]⟩, .int .i64 0, .int .i64 0]).cells (4 * 3) = (entCells (List.replicate 4 zEnt)).toArray := by kernel_rfl
theorem mz5 : madeCells (Value.agg #[.string ⟨#[]⟩, .int .i64 0, .int .i64 0]).cells (5 * 3) = (entCells (List.replicate 5 zEnt)).toArray := by kernel_rfl
theorem mz6 : madeCells (Value.agg #[.string ⟨#[]⟩, .int .i64 0, .int .i64 0]).cells (6 * 3) = (entCells (List.replicate 6 zEnt)).toArray := by kernel_rfl
theorem mz7 : madeCells (Value.agg #[.string ⟨#[]⟩, .int .i64 0, .int .i64 0]).cells (7 * 3) = (entCells (List.replicate 7 zEnt)).toArray := by kernel_rfl
theorem mz8 : madeCells (Value.agg #[.string ⟨#[]⟩, .int .i64 0, .int .i64 0]).cells (8 * 3) = (entCells (List.replicate 8 zEnt)).toArray := by kernel_rfl
theorem mz9 : madeCells (Value.agg #[.string ⟨#[]⟩, .int .i64 0, .int .i64 0]).cells (9 * 3) = (entCells (List.replicate 9 zEnt)).toArray := by kernel_rfl
theorem mz10 : madeCells (Value.agg #[.string ⟨#[]⟩, .int .i64 0, .int .i64 0]).cells (10 * 3) = (entCells (List.replicate 10 zEnt)).toArray := by kernel_rfl
theorem mz11 : madeCells (Value.agg #[.string ⟨#[]⟩, .int .i64 0, .int .i64 0]).cells (11 * 3) = (entCells (List.replicate 11 zEnt)).toArray := by kernel_rfl
theorem mz12 : madeCells (Value.agg #[.string ⟨#[]⟩, .int .i64 0, .int .i64 0]).cells (12 * 3) = (entCells (List.replicate 12 zEnt)).toArray := by kernel_rfl
theorem mz13 : madeCells (Value.agg #[.string ⟨#[]⟩, .int .i64 0, .int .i64 0]).cells (13 * 3) = (entCells (List.replicate 13 zEnt)).toArray := by kernel_rfl
theorem mz14 : madeCells (Value.agg #[.string ⟨#[]⟩, .int .i64 0, .int .i64 0]).cells (14 * 3) = (entCells (List.replicate 14 zEnt)).toArray := by kernel_rfl
theorem mz15 : madeCells (Value.agg #[.string ⟨#[]⟩, .int .i64 0, .int .i64 0]).cells (15 * 3) = (entCells (List.replicate 15 zEnt)).toArray := by kernel_rfl
theorem mz16 : madeCells (Value.agg #[.string ⟨#[]⟩, .int .i64 0, .int .i64 0]).cells (16 * 3) = (entCells (List.replicate 16 zEnt)).toArray := by kernel_rfl
theorem made_zero (N : Nat) (h : N ≤ 16) : madeCells (Value.agg #[.string ⟨#[]⟩, .int .i64 0, .int .i64 0]).cells (N * 3) = (entCells (List.replicate N zEnt)).toArray := by
  have : N = 0 ∨ N = 1 ∨ N = 2 ∨ N = 3 ∨ N = 4 ∨ N = 5 ∨ N = 6 ∨ N = 7 ∨ N = 8 ∨ N = 9 ∨ N = 10 ∨ N = 11 ∨ N = 12 ∨ N = 13 ∨ N = 14 ∨ N = 15 ∨ N = 16 := by omega
  rcases this with rfl | rfl | rfl | rfl | rfl | rfl | rfl | rfl | rfl | rfl | rfl | rfl | rfl | rfl | rfl | rfl | rfl
  · exact mz0
  · exact mz1
  · exact mz2
  · exact mz3
  · exact mz4
  · exact mz5
  · exact mz6
  · exact mz7
  · exact mz8
  · exact mz9
  · exact mz10
  · exact mz11
  · exact mz12
  · exact mz13
  · exact mz14
  · exact mz15
  · exact mz16
/-- A row of entries in a block. -/
abbrev EBox (w : World) (G : Nat) (l : List Ent) : Prop := w.heap[G]? = some (.cells (entCells l).toArray 86 (0, 0))
theorem entCells_app (a b : List Ent) : entCells (a ++ b) = entCells a ++ entCells b := by simp [entCells]
theorem EBox.c {w : World} {G : Nat} {l : List Ent} (h : EBox w G l) {k : Nat} (hk : k < l.length) : w.cell? ⟨G, k * 3, none⟩ = some (.string l[k].name) ∧ w.cell? ⟨G, k * 3 + 1, none⟩ = some (.int .i64 l[k].id) ∧ w.cell? ⟨G, k * 3 + 2, none⟩ = some (.int .i64 l[k].kind) ∧ ∀ o, w.frozen? ⟨G, o, none⟩ = false := by
  obtain ⟨q0, q1, q2⟩ := entCells_get l k hk
  refine ⟨?_, ?_, ?_, fun o => ?_⟩
  · simpa [World.cell?, h] using q0
  · simpa [World.cell?, h] using q1
  · simpa [World.cell?, h] using q2
  · simp [World.frozen?, h]
theorem set_mid {α : Type} (A B : List α) (x y : α) (n : Nat) (hn : A.length = n) : (A ++ x :: B).toArray.setIfInBounds n y = (A ++ y :: B).toArray := by
  subst hn
  simp
theorem EBox.set0 {w : World} {G : Nat} {a b : List Ent} {e : Ent} (h : EBox w G (a ++ e :: b)) (s : ByteArray) : EBox (w.setCell ⟨G, a.length * 3, none⟩ (.string s)) G (a ++ { e with name := s } :: b) := by
  rw [EBox, heap_setCell_same _ _ _ _ _ _ h]
  have q : ∀ x : Ent, entCells (a ++ x :: b) = entCells a ++ .string x.name :: (.int .i64 x.id :: .int .i64 x.kind :: entCells b) := fun x => by rw [entCells_app]; rfl
  rw [q, q, set_mid _ _ _ _ _ (entCells_length a)]
theorem EBox.set1 {w : World} {G : Nat} {a b : List Ent} {e : Ent} (h : EBox w G (a ++ e :: b)) (x : Int) : EBox (w.setCell ⟨G, a.length * 3 + 1, none⟩ (.int .i64 x)) G (a ++ { e with id := x } :: b) := by
  rw [EBox, heap_setCell_same _ _ _ _ _ _ h]
  have q : ∀ x : Ent, entCells (a ++ x :: b) = (entCells a ++ [.string x.name]) ++ .int .i64 x.id :: (.int .i64 x.kind :: entCells b) := fun x => by rw [entCells_app]; simp [entCells]
  rw [q, q, set_mid _ _ _ _ _ (by simp [entCells_length])]
theorem EBox.set2 {w : World} {G : Nat} {a b : List Ent} {e : Ent} (h : EBox w G (a ++ e :: b)) (x : Int) : EBox (w.setCell ⟨G, a.length * 3 + 2, none⟩ (.int .i64 x)) G (a ++ { e with kind := x } :: b) := by
  rw [EBox, heap_setCell_same _ _ _ _ _ _ h]
  have q : ∀ x : Ent, entCells (a ++ x :: b) = (entCells a ++ [.string x.name, .int .i64 x.id]) ++ .int .i64 x.kind :: entCells b := fun x => by rw [entCells_app]; simp [entCells]
  rw [q, q, set_mid _ _ _ _ _ (by simp [entCells_length])]

set_option maxHeartbeats 2000000 in
theorem entries_take (lo : Option Addr) (ln lc : Nat) (l : List Ent) {rb g n : Nat} {bs : List Int} {er : Nat → Addr} {st : Nat × Int} (base : Nat) (w : World) (h : Rd w rb g n bs er st) (hbase : base ≤ w.heap.size) (h2 : (rdNum 4 n bs st.1 st.2 4294967295).1 ≤ 16) (h3 : 0 ≤ (rdNum 4 n bs st.1 st.2 4294967295).1) :
    Calls Tryz.prog 219 #[.slice lo ln lc, .pointer (some ⟨rb, 0, none⟩)] w fun e w' => Took w base rb g n bs er st (.entries l) e w' := by
  obtain ⟨i0, hi, hz0, hz1, hz2⟩ := info_parts Tryz.infoEntry
  have hlim := h.lim
  have hrb := hlim.1
  go_enter Tryz.func219, Tryz.ntmps219
  go_wp2_with fail
  refine (rd_u32 4294967295 _ h (by omega)).mono ?_
  rintro e w1 ⟨rfl, hR1, hg1⟩
  obtain ⟨N, hN⟩ := Int.eq_ofNat_of_zero_le h3
  obtain ⟨st1, hst1⟩ : ∃ st1, (rdNum 4 n bs st.1 st.2 4294967295).2 = st1 := ⟨_, rfl⟩
  have hV : takeV n bs st (.entries l) = (.entries (rdEnts n bs N st1).1, (rdEnts n bs N st1).2) := by
    simp only [takeV, hN, hst1, Int.toNat_natCast]
  have HV : Hid (takeV n bs st (.entries l) = (.entries (rdEnts n bs N st1).1, (rdEnts n bs N st1).2)) := hV
  rw [hst1] at hR1
  rw [hN] at h2 ⊢
  have hN16 : N ≤ 16 := by omega
  have hs1 := hg1.size
  clear hst1 hN hV h3 h
  have hmk := run_make (P := Tryz.prog) w1 162 86 i0 _ Tryz.underlying162 hi hz0 .i64 .i64 N N (by omega) (by omega) (by rw [hz2]; omega) (by omega)
  rw [hz1, Int.toNat_natCast, made_zero N hN16] at hmk
  have hx1 : EBox (w1.alloc (.cells (entCells (List.replicate N zEnt)).toArray 86)) w1.heap.size (List.replicate N zEnt) := heap_alloc_new _ _
  have hR1' := hR1.kept (newBox w1 (.cells (entCells (List.replicate N zEnt)).toArray 86))
  have hG1 : w.grownBy (w1.alloc (.cells (entCells (List.replicate N zEnt)).toArray 86)) (some rb) := grown_trans hg1 (World.grownBy_alloc _ _ _)
  generalize w1.alloc (.cells (entCells (List.replicate N zEnt)).toArray 86) = w2 at *
  clear hR1 hg1
  generalize w1.heap.size = G at *
  go_wp2
  go_loopw [17] (fun i wr => ∃ a : List Ent, a.length ≤ N ∧ i = .int .i64 (a.length : Nat) ∧ Rd wr rb g n bs er (rdEnts n bs a.length st1).2 ∧ EBox wr G (a ++ List.replicate (N - a.length) zEnt) ∧ Hid (a = (rdEnts n bs a.length st1).1) ∧ w.grownBy wr (some rb)) (fun i _ => N - (intOf i).toNat)
  case atStart => exact ⟨[], Nat.zero_le _, rfl, hR1', hx1, (rfl : ([] : List Ent) = (rdEnts n bs 0 st1).1), hG1⟩
  case round =>
    obtain ⟨a, hk, rfl, hRk, hxk, HAk, hGk⟩ := hrel
    clear hR1' hx1 hG1 hmk
    by_cases hlt : a.length < N
    · have hki : decide ((a.length : Int) < (N : Int)) = true := by simpa using hlt
      have hrep : List.replicate (N - a.length) zEnt = zEnt :: List.replicate (N - (a.length + 1)) zEnt := by
        rw [show N - a.length = (N - (a.length + 1)) + 1 by omega, List.replicate_succ]
      rw [hrep] at hxk
      clear hrep
      generalize hstk : (rdEnts n bs a.length st1).2 = stk at *
      have HK : Hid ((rdEnts n bs a.length st1).2 = stk) := hstk
      clear hstk
      generalize hrest : List.replicate (N - (a.length + 1)) zEnt = rest at *
      have HREST : Hid (List.replicate (N - (a.length + 1)) zEnt = rest) := hrest
      clear hrest
      go_wp2_with fail
      refine (rd_text 23 _ hRk (by omega)).mono ?_
      rintro e w3 ⟨rfl, hR3, hg3⟩
      generalize hA : rdText n bs stk.1 stk.2 23 = A at *
      have HA : Hid (rdText n bs stk.1 stk.2 23 = A) := hA
      have hx3 : EBox w3 G (a ++ zEnt :: rest) := (hg3.block _ (lt_of_block hxk) (by simp; omega)).trans hxk
      have hG3 := grown_trans hGk hg3
      have hal : a.length < (a ++ zEnt :: rest).length := by simp
      have hgt : (a ++ zEnt :: rest)[a.length]'hal = zEnt := by simp
      obtain ⟨p0, p1, p2, pf⟩ := hx3.c hal
      rw [hgt] at p0 p1 p2
      have hx4 := hx3.set0 (txt A.1)
      have hs4 := grown_setCell w3 G (a.length * 3) (.string (txt A.1))
      have hR4 := hR3.beside hlim hs4 (by omega)
      have hG4 := grown_above hG3 hs4 (by omega)
      clear hA hGk hg3 hRk hxk hgt hR3 hG3 hs4 hx3
      go_wp2_with fail
      clear p0 p1 p2 pf
      refine (rd_u64 9223372036854775807 _ hR4 (by omega)).mono ?_
      rintro e w5 ⟨rfl, hR5, hg5⟩
      generalize hB : rdNum 8 n bs A.2.1 A.2.2 9223372036854775807 = B at *
      have HB : Hid (rdNum 8 n bs A.2.1 A.2.2 9223372036854775807 = B) := hB
      have hx5 : EBox w5 G (a ++ ({ zEnt with name := txt A.1 } : Ent) :: rest) := (hg5.block _ (lt_of_block hx4) (by simp; omega)).trans hx4
      have hG5 := grown_trans hG4 hg5
      have hal : a.length < (a ++ ({ zEnt with name := txt A.1 } : Ent) :: rest).length := by simp
      have hgt : (a ++ ({ zEnt with name := txt A.1 } : Ent) :: rest)[a.length]'hal = { zEnt with name := txt A.1 } := by simp
      obtain ⟨p0, p1, p2, pf⟩ := hx5.c hal
      rw [hgt] at p0 p1 p2
      have hx6 := hx5.set1 B.1
      have hs6 := grown_setCell w5 G (a.length * 3 + 1) (.int .i64 B.1)
      have hR6 := hR5.beside hlim hs6 (by omega)
      have hG6 := grown_above hG5 hs6 (by omega)
      clear hB hG4 hg5 hR4 hx4 hgt hR5 hG5 hs6 hx5
      go_wp2_with fail
      clear p0 p1 p2 pf
      refine (rd_u32 4294967295 _ hR6 (by omega)).mono ?_
      rintro e w7 ⟨rfl, hR7, hg7⟩
      generalize hC : rdNum 4 n bs B.2.1 B.2.2 4294967295 = C at *
      have HC : Hid (rdNum 4 n bs B.2.1 B.2.2 4294967295 = C) := hC
      have hx7 : EBox w7 G (a ++ ({ zEnt with name := txt A.1, id := B.1 } : Ent) :: rest) := (hg7.block _ (lt_of_block hx6) (by simp; omega)).trans hx6
      have hG7 := grown_trans hG6 hg7
      have hal : a.length < (a ++ ({ zEnt with name := txt A.1, id := B.1 } : Ent) :: rest).length := by simp
      have hgt : (a ++ ({ zEnt with name := txt A.1, id := B.1 } : Ent) :: rest)[a.length]'hal = { zEnt with name := txt A.1, id := B.1 } := by simp
      obtain ⟨p0, p1, p2, pf⟩ := hx7.c hal
      rw [hgt] at p0 p1 p2
      have hx8 := hx7.set2 C.1
      have hs8 := grown_setCell w7 G (a.length * 3 + 2) (.int .i64 C.1)
      have hR8 := hR7.beside hlim hs8 (by omega)
      have hG8 := grown_above hG7 hs8 (by omega)
      clear hC hG6 hg7 hR6 hx6 hgt hR7 hG7 hs8 hx7
      have hE : rdEnt n bs stk = (⟨txt A.1, B.1, C.1⟩, C.2) := by
        simp only [rdEnt, HA.out, HB.out, HC.out]
      have hstep : rdEnts n bs (a.length + 1) st1 = (a ++ [⟨txt A.1, B.1, C.1⟩], C.2) := by
        have h1 := HAk.out
        have h2 := HK.out
        rw [rdEnts, h2, hE, ← h1]
      have hx9 : EBox (w7.setCell ⟨G, a.length * 3 + 2, none⟩ (.int .i64 C.1)) G ((a ++ [⟨txt A.1, B.1, C.1⟩]) ++ List.replicate (N - (a.length + 1)) zEnt) := by
        have h1 := HREST.out
        rw [h1, List.append_assoc]
        exact hx8
      have HS : Hid (rdEnts n bs (a.length + 1) st1 = (a ++ [⟨txt A.1, B.1, C.1⟩], C.2)) := hstep
      clear hE hstep hx8
      go_wp2
      clear p0 p1 p2 pf
      go_roundw
      case rel =>
        refine ⟨a ++ [⟨txt A.1, B.1, C.1⟩], by simp; omega, by simp, ?_, ?_, ?_, hG8⟩
        · rw [show (a ++ [(⟨txt A.1, B.1, C.1⟩ : Ent)]).length = a.length + 1 by simp, HS.out]; exact hR8
        · rw [show (a ++ [(⟨txt A.1, B.1, C.1⟩ : Ent)]).length = a.length + 1 by simp]; exact hx9
        · show _ = _
          rw [show (a ++ [(⟨txt A.1, B.1, C.1⟩ : Ent)]).length = a.length + 1 by simp, HS.out]
      case measure => simp [intOf]; omega
    · have hki : decide ((a.length : Int) < (N : Int)) = false := by simp; omega
      have hrep : N - a.length = 0 := by omega
      rw [hrep] at hxk
      simp only [List.replicate_zero, List.append_nil] at hxk
      have hnn : a.length = N := by omega
      have HN : Hid (a.length = N) := hnn
      clear hrep hnn
      go_wp2
      go_ret2
      have hnn := HN.out
      have hv := HV.out
      have ha := HAk.out
      subst hnn
      refine ⟨_, rfl, ?_, ?_, hGk⟩
      · rw [hv]
        refine ⟨_, _, _, rfl, ?_, by rw [← ha]⟩
        rw [← ha]
        exact ⟨entCells_length a, .inr ⟨G, _, _, rfl, by omega, hxk, Nat.le_refl _, by unfold maxLen; omega, by simp [entCells_length], by rw [← entCells_length]; simp⟩⟩
      · rw [hv]; exact hRk

set_option maxHeartbeats 1000000 in
theorem entries_many (lo : Option Addr) (ln lc : Nat) {rb g n : Nat} {bs : List Int} {er : Nat → Addr} {st : Nat × Int} (w : World) (h : Rd w rb g n bs er st) (h2 : 16 < (rdNum 4 n bs st.1 st.2 4294967295).1) :
    Calls Tryz.prog 219 #[.slice lo ln lc, .pointer (some ⟨rb, 0, none⟩)] w fun e w' => e = .returned (.tuple #[.nilIface, .int .i64 46]) ∧ Rd w' rb g n bs er (rdNum 4 n bs st.1 st.2 4294967295).2 ∧ w.grownBy w' (some rb) := by
  go_enter Tryz.func219, Tryz.ntmps219
  go_wp2_with fail
  refine (rd_u32 4294967295 _ h (by omega)).mono ?_
  rintro e w1 ⟨rfl, hR1, hg1⟩
  generalize hA : rdNum 4 n bs st.1 st.2 4294967295 = A at *
  have HA : Hid (rdNum 4 n bs st.1 st.2 4294967295 = A) := hA
  clear hA
  have h2d : decide (16 < A.1) = true := by simpa using h2
  go_wp2
  go_ret2
  exact ⟨rfl, by rw [HA.out]; exact hR1, hg1⟩
end Go.Proofs.YtdkcplndplhblaaGreatDoor

/- Fields are taken from a reader, one behind the other: what that is. -/
namespace Go.Proofs.YtdkcplndplhblaaGreatDoor
open Go.RowKit
set_option maxRecDepth 100000

/-- What is taken for fields of these kinds, one behind the other. -/
def takeL (n : Nat) (bs : List Int) : List (Int × Val) → Nat × Int → List (Int × Val) × (Nat × Int)
  | [], st => ([], st)
  | g :: gs, st => ((g.1, (takeV n bs st g.2).1) :: (takeL n bs gs (takeV n bs st g.2).2).1, (takeL n bs gs (takeV n bs st g.2).2).2)
/-- The package's own error in taking them. -/
def takeLE (n : Nat) (bs : List Int) : List (Int × Val) → Nat × Int → Int
  | [], _ => 0
  | g :: gs, st => if takeE n bs st g.2 = 0 then takeLE n bs gs (takeV n bs st g.2).2 else takeE n bs st g.2

def TReps (w : World) (base : Nat) : List (Int × Value) → List (Int × Val) → Prop
  | [], [] => True
  | f :: fs, g :: gs => f.1 = g.1 ∧ TRep w base f.2 g.2 ∧ TReps w base fs gs
  | _, _ => False
theorem TReps.app {w : World} {base : Nat} : ∀ {fs : List (Int × Value)} {gs : List (Int × Val)} {f : Int × Value} {g : Int × Val}, TReps w base fs gs → f.1 = g.1 → TRep w base f.2 g.2 → TReps w base (fs ++ [f]) (gs ++ [g])
  | [], [], _, _, _, h1, h2 => ⟨h1, h2, trivial⟩
  | _ :: _, _ :: _, _, _, h, h1, h2 => ⟨h.1, h.2.1, TReps.app h.2.2 h1 h2⟩
  | [], _ :: _, _, _, h, _, _ => h.elim
  | _ :: _, [], _, _, h, _, _ => h.elim
theorem TReps.length {w : World} {base : Nat} : ∀ {fs : List (Int × Value)} {gs : List (Int × Val)}, TReps w base fs gs → fs.length = gs.length
  | [], [], _ => rfl
  | _ :: _, _ :: _, h => by simp [TReps.length h.2.2]
  | [], _ :: _, h => h.elim
  | _ :: _, [], h => h.elim
theorem TReps.get {w : World} {base : Nat} : ∀ {fs : List (Int × Value)} {gs : List (Int × Val)}, TReps w base fs gs → ∀ t (h1 : t < fs.length) (h2 : t < gs.length), fs[t].1 = gs[t].1 ∧ TRep w base fs[t].2 gs[t].2
  | _ :: _, _ :: _, h, 0, _, _ => ⟨h.1, h.2.1⟩
  | _ :: fs, _ :: gs, h, t + 1, h1, h2 => TReps.get h.2.2 t (by simpa using h1) (by simpa using h2)
  | [], [], _, t, h1, _ => by simp at h1
  | [], _ :: _, h, _, _, _ => h.elim
  | _ :: _, [], h, _, _, _ => h.elim
theorem TReps.imp {w w' : World} {base : Nat} (h : ∀ v x, TRep w base v x → TRep w' base v x) : ∀ {fs : List (Int × Value)} {gs : List (Int × Val)}, TReps w base fs gs → TReps w' base fs gs
  | [], [], _ => trivial
  | _ :: _, _ :: _, q => ⟨q.1, h _ _ q.2.1, TReps.imp h q.2.2⟩
  | [], _ :: _, q => q.elim
  | _ :: _, [], q => q.elim

/-- A change in a block of fields leaves rows of another type. -/
theorem own_unlike {w w' : World} {base q : Nat} {e : TypeId} {k : Nat} {v : Value} {n : Nat} {xs : List Value} (h : w.ownsRow base e k v n xs) (hg : w.grownBy w' (some q)) (hq : ∃ C : Array Value, w.heap[q]? = some (.cells C 132 (0, 0))) (he : e ≠ 132) : w'.ownsRow base e k v n xs := by
  refine h.kept hg ?_
  rcases h.2 with ⟨hv, _⟩ | ⟨g', cap', cur, hv, _, hb, _⟩
  · subst hv; exact .inl rfl
  · subst hv
    refine .inr fun e' => ?_
    obtain ⟨C, hC⟩ := hq
    have : g' = q := by simpa [Value.ownBlock] using e'
    subst this
    rw [hb] at hC
    cases hC
    exact he rfl
theorem TRep.fields {w w' : World} {base q : Nat} {v : Value} {x : Val} (h : TRep w base v x) (hg : w.grownBy w' (some q)) (hq : ∃ C : Array Value, w.heap[q]? = some (.cells C 132 (0, 0))) : TRep w' base v x := by
  cases x with
  | content d => obtain ⟨ao, n, c, rfl, hL⟩ := h; exact ⟨ao, n, c, rfl, own_unlike hL hg hq (by decide)⟩
  | entries l => obtain ⟨ao, n, c, rfl, hL, hl⟩ := h; exact ⟨ao, n, c, rfl, own_unlike hL hg hq (by decide), hl⟩
  | _ => exact h
theorem TRep.alloc {w w' : World} {base : Nat} {v : Value} {x : Val} (h : TRep w base v x) (hg : w.grownBy w' none) : TRep w' base v x := by
  have q : ∀ {e k n xs} {u : Value}, w.ownsRow base e k u n xs → w'.ownsRow base e k u n xs := fun ho => ho.kept hg (by
    rename_i u
    cases u.ownBlock with
    | none => exact .inl rfl
    | some q => exact .inr (by simp))
  cases x with
  | content d => obtain ⟨ao, n, c, rfl, hL⟩ := h; exact ⟨ao, n, c, rfl, q hL⟩
  | entries l => obtain ⟨ao, n, c, rfl, hL, hl⟩ := h; exact ⟨ao, n, c, rfl, q hL, hl⟩
  | _ => exact h
theorem TRep.vrep {w : World} {base : Nat} {v : Value} {x : Val} (h : TRep w base v x) : VRep w v x := by
  cases x with
  | content d => obtain ⟨ao, n, c, rfl, hL⟩ := h; exact ⟨ao, n, c, rfl, Lies.owned hL⟩
  | entries l => obtain ⟨ao, n, c, rfl, hL, hl⟩ := h; exact ⟨ao, n, c, rfl, CLies.owned hL, hl⟩
  | _ => exact h
/-- A slice of fields that were taken. -/
structure TLies (w : World) (base : Nat) (ao : Option Addr) (n cap : Nat) (gs : List (Int × Val)) : Prop where
  hlen : gs.length = n
  ex : ∃ fs, CLies w ao n cap 2 (fCells fs) ∧ TReps w base fs gs
theorem TLies.at {w : World} {base : Nat} {ao : Option Addr} {n cap : Nat} {gs : List (Int × Val)} (h : TLies w base ao n cap gs) {t : Nat} (ht : t < gs.length) :
    ∃ b o v, ao = some ⟨b, o, none⟩ ∧ b < w.heap.size ∧ w.cell? ⟨b, o + t * 2, none⟩ = some (.int .i64 gs[t].1) ∧ w.cell? ⟨b, o + t * 2 + 1, none⟩ = some v ∧ TRep w base v gs[t].2 := by
  obtain ⟨fs, h1, h2⟩ := h.ex
  have hl := h2.length
  have hg := h.hlen
  have hf : t < fs.length := by omega
  obtain ⟨b, o, rfl, hb, hc⟩ := h1.at (by omega) (by omega)
  obtain ⟨q1, q2⟩ := fCells_get fs t hf
  obtain ⟨e1, e2⟩ := h2.get t hf (by omega)
  have hlen := fCells_length fs
  refine ⟨b, o, fs[t].2, rfl, hb, ?_, ?_, e2⟩
  · rw [hc (t * 2) (by omega), ← e1]
    rw [List.getElem?_eq_getElem (by omega)] at q1
    exact q1
  · rw [Nat.add_assoc, hc (t * 2 + 1) (by omega)]
    rw [List.getElem?_eq_getElem (by omega)] at q2
    exact q2

theorem cf_small_take (args : Array Value) (W : World) : (callFunc 191 args).run Tryz.prog W = .ok (.enter 191 args) W := by kernel_rfl
theorem cf_great_take (args : Array Value) (W : World) : (callFunc 198 args).run Tryz.prog W = .ok (.enter 198 args) W := by kernel_rfl
theorem cf_flag_take (args : Array Value) (W : World) : (callFunc 221 args).run Tryz.prog W = .ok (.enter 221 args) W := by kernel_rfl
theorem cf_path_take (args : Array Value) (W : World) : (callFunc 203 args).run Tryz.prog W = .ok (.enter 203 args) W := by kernel_rfl
theorem cf_name_take (args : Array Value) (W : World) : (callFunc 211 args).run Tryz.prog W = .ok (.enter 211 args) W := by kernel_rfl
theorem cf_content_take (args : Array Value) (W : World) : (callFunc 213 args).run Tryz.prog W = .ok (.enter 213 args) W := by kernel_rfl
theorem cf_attr_take (args : Array Value) (W : World) : (callFunc 217 args).run Tryz.prog W = .ok (.enter 217 args) W := by kernel_rfl
theorem cf_entries_take (args : Array Value) (W : World) : (callFunc 219 args).run Tryz.prog W = .ok (.enter 219 args) W := by kernel_rfl
/-- What take leaves, for any kind: its own error, or what was taken. -/
theorem take_any (x : Val) (v : Value) {rb g n : Nat} {bs : List Int} {er : Nat → Addr} {st : Nat × Int} (base : Nat) (w : World) (h : Rd w rb g n bs er st) (hbase : base ≤ w.heap.size) (hv : VRep w v x) :
    ∃ (f : Nat) (t : TypeId) (u : Value), v = .iface t u ∧ (∀ W : World, (Go.method 359 t u "annex/msg.take").run Tryz.prog W = .ok (f, u) W) ∧ (∀ (args : Array Value) (W : World), (callFunc f args).run Tryz.prog W = .ok (.enter f args) W) ∧
      ((takeE n bs st x = 0 ∧ Calls Tryz.prog f #[u, .pointer (some ⟨rb, 0, none⟩)] w fun e w' => Took w base rb g n bs er st x e w') ∨
       (takeE n bs st x = 46 ∧ Calls Tryz.prog f #[u, .pointer (some ⟨rb, 0, none⟩)] w fun e w' => e = .returned (.tuple #[.nilIface, .int .i64 46]) ∧ Rd w' rb g n bs er (rdNum 4 n bs st.1 st.2 4294967295).2 ∧ w.grownBy w' (some rb))) := by
  cases x with
  | small x => cases hv; exact ⟨_, _, _, rfl, meth_small_take x, cf_small_take, .inl ⟨rfl, small_take x base w h hbase⟩⟩
  | great x => cases hv; exact ⟨_, _, _, rfl, meth_great_take x, cf_great_take, .inl ⟨rfl, great_take x base w h hbase⟩⟩
  | flag b => cases hv; exact ⟨_, _, _, rfl, meth_flag_take b, cf_flag_take, .inl ⟨rfl, flag_take b base w h hbase⟩⟩
  | path s => cases hv; exact ⟨_, _, _, rfl, meth_path_take s, cf_path_take, .inl ⟨rfl, path_take s base w h hbase⟩⟩
  | name s => cases hv; exact ⟨_, _, _, rfl, meth_name_take s, cf_name_take, .inl ⟨rfl, name_take s base w h hbase⟩⟩
  | content d => obtain ⟨ao, m, c, rfl, _⟩ := hv; exact ⟨_, _, _, rfl, meth_content_take ao m c, cf_content_take, .inl ⟨rfl, content_take ao m c d base w h hbase⟩⟩
  | attr i k z c => cases hv; exact ⟨_, _, _, rfl, meth_attr_take i k z c, cf_attr_take, .inl ⟨rfl, attr_take i k z c base w h⟩⟩
  | entries l =>
    obtain ⟨ao, m, c, rfl, _, _⟩ := hv
    have h0 : 0 ≤ (rdNum 4 n bs st.1 st.2 4294967295).1 := by
      unfold rdNum
      split
      · exact Int.le_refl _
      · split
        · exact Int.le_refl _
        · split
          · exact Int.le_refl _
          · exact (val4_lt bs st.1 h.by').1
    by_cases h2 : 16 < (rdNum 4 n bs st.1 st.2 4294967295).1
    · exact ⟨_, _, _, rfl, meth_entries_take ao m c, cf_entries_take, .inr ⟨by simp [takeE, h2], entries_many ao m c w h h2⟩⟩
    · exact ⟨_, _, _, rfl, meth_entries_take ao m c, cf_entries_take, .inl ⟨by simp [takeE, h2], entries_take ao m c l base w h hbase (by omega) h0⟩⟩
end Go.Proofs.YtdkcplndplhblaaGreatDoor

/- Lists of fields that are new memory. -/
namespace Go.Proofs.YtdkcplndplhblaaGreatDoor
open Go.RowKit
set_option maxRecDepth 100000

set_option maxHeartbeats 1000000 in
theorem requestHead_new (r : Req) (ao : Option Addr) (n c : Nat) (w : World) :
    Calls Tryz.prog 49 #[rqV r ao n c] w fun e w' => ∃ fo k, e = .returned (.slice fo 5 k) ∧ FLies w' fo 5 k (rqHead r) ∧ Below w.heap.size w w' ∧ (∀ ad, fo = some ad → w.heap.size ≤ ad.block) := by
  go_enter Tryz.func49, Tryz.ntmps49
  go_wp2
  go_ret
  refine ⟨_, _, rfl, FLies.new _ _ _ _ [(0, Value.iface 128 (.int .i64 r.client)), (1, Value.iface 133 (.int .i64 r.seq)), (2, Value.iface 133 (.int .i64 r.ack)), (3, Value.iface 133 (.int .i64 r.epoch)), (4, Value.iface 128 (.int .i64 r.op))] (rqHead r) (by simp) rfl rfl ?_, box2 _ _ _, fun ad had => by cases had; simp⟩
  simp [FReps, rqHead, VRep]

set_option maxHeartbeats 1000000 in
theorem replyHead_new (r : Rep) (ao : Option Addr) (n c : Nat) (lo : Option Addr) (ln lc : Nat) (w : World) :
    Calls Tryz.prog 53 #[rpV r ao n c lo ln lc] w fun e w' => ∃ fo k, e = .returned (.slice fo 5 k) ∧ FLies w' fo 5 k (rpHead r) ∧ Below w.heap.size w w' ∧ (∀ ad, fo = some ad → w.heap.size ≤ ad.block) := by
  go_enter Tryz.func53, Tryz.ntmps53
  go_wp2
  go_ret
  refine ⟨_, _, rfl, FLies.new _ _ _ _ [(0, Value.iface 128 (.int .i64 r.client)), (1, Value.iface 133 (.int .i64 r.seq)), (3, Value.iface 133 (.int .i64 r.epoch)), (4, Value.iface 128 (.int .i64 r.op)), (5, Value.iface 128 (.int .i64 r.status))] (rpHead r) (by simp) rfl rfl ?_, box2 _ _ _, fun ad had => by cases had; simp⟩
  simp [FReps, rpHead, VRep]

set_option maxHeartbeats 1000000 in
theorem those_new (b o c n : Nat) (gs : List (Int × Val)) (ho : Option Addr) (hn hc : Nat) (l : List Int) (w : World) (hF : FLies w (some ⟨b, o, none⟩) n c gs) (hbd : n ≤ 1000) (hL : ILies w ho hn hc l) (hbd2 : hn ≤ 1000) :
    Calls Tryz.prog 96 #[.slice (some ⟨b, o, none⟩) n c, .slice ho hn hc] w fun e w' => ∃ fo m k, e = .returned (.slice fo m k) ∧ FLies w' fo m k (pick l gs) ∧ Below w.heap.size w w' ∧ (∀ ad, fo = some ad → w.heap.size ≤ ad.block) := by
  have hni : (n : Int) ≤ 1000 := by omega
  have hgl := hF.hlen
  obtain ⟨i0, hi, hz0, hz1, hz2⟩ := info_parts Tryz.infoField
  go_enter Tryz.func96, Tryz.ntmps96
  go_wp2
  go_loopw [5, 10] (fun s i wr => ∃ (k : Nat) (ls : List (Int × Value)) (av : Option Addr) (c : Nat), k ≤ n ∧ i = .int .i64 k ∧ s = .slice av ls.length c ∧ wr.ownsRow w.heap.size 132 2 (.slice av ls.length c) ls.length (fCells ls) ∧ ls.length ≤ k ∧ Hid (FReps w ls (pick l (gs.take k))) ∧ Below w.heap.size w wr) (fun _ i _ => n - (intOf i).toNat)
  case atStart => exact ⟨0, [], none, 0, Nat.zero_le _, rfl, rfl, World.ownsRow_nil _ _ _ _, Nat.zero_le _, (by simp [pick, FReps] : FReps w [] (pick l (gs.take 0))), Below.refl _ _⟩
  case round =>
    obtain ⟨k, ls, av, c', hk, rfl, rfl, hown, hls, HR, hb⟩ := hrel
    have hbs := hb.size
    by_cases hlt : k < n
    · have hki : decide ((k : Int) < (n : Int)) = true := by simpa using hlt
      obtain ⟨b', o', v, hbo, _, q0, q1, hv⟩ := hF.at (show k < gs.length by omega)
      cases hbo
      have q0 := cell_later hb q0 (Nat.le_refl _)
      have q1 := cell_later hb q1 (Nat.le_refl _)
      have hst : gs.take (k + 1) = gs.take k ++ [gs[k]'(by omega)] := List.take_succ_eq_append_getElem (by omega)
      have HL := (hL.below hb (Nat.le_refl _)).boxed (.cells #[.int .i64 (gs[k]'(by omega)).1, v] 132)
      have hbn : Below w.heap.size w (wr.alloc (.cells #[.int .i64 (gs[k]'(by omega)).1, v] 132)) := hb.alloc hb.size _
      obtain ⟨t, u, rfl⟩ := hv.iface
      have HV : Hid (VRep w (.iface t u) (gs[k]'(by omega)).2) := hv
      have HS : Hid (gs.take (k + 1) = gs.take k ++ [gs[k]'(by omega)]) := hst
      clear hv hst hF hL
      generalize (gs[k]'(by omega)) = g at *
      obtain ⟨no, x⟩ := g
      simp only at q0 HL hbn HV
      by_cases hin : no ∈ l
      · have hdec : decide (no ∈ l) = true := by simpa using hin
        have Hin : Hid (no ∈ l) := hin
        clear hin
        go_wp2_with (first
          | (go_at_call 114; refine (contains_any ho hn hc l no _ hbd2 HL).mono ?_; rintro e w1 ⟨rfl, hw1⟩; subst w1; rw [hdec])
          | (at_builtin; refine wpList_append_own _ rfl (.tmp 18) (.tmp 20) 80 rfl w.heap.size 132 i0 (.agg #[.int .i64 0, .nilIface]) 2 24 Tryz.underlying80 hi hz0 hz1 hz2 rfl (by decide) _ _ _ rfl ((hown.alloc _).alloc _) ⟨wr.heap.size + 1, 0, none⟩ 1 1 [.int .i64 no, .iface t u] rfl rfl (cells_new _ _ 132 _ (by simp)) (by intro u hu; simp at hu; rcases hu with rfl | rfl <;> rfl) (by unfold maxLen; omega) (by omega) (by simp; omega) ?_; intro v' w1 hown1 hgrow1 hnil1))
        have hb1 : Below w.heap.size w w1 := ((hb.alloc hb.size _).alloc (by simp; omega) _).grown hgrow1 (by simp; omega) (fun k hk => (hown.lt k hk).1)
        have ho1 : w1.ownsRow w.heap.size 132 2 v' (ls ++ [(no, Value.iface t u)]).length (fCells (ls ++ [(no, Value.iface t u)])) := by
          rw [fCells_app]; simpa [fCells] using hown1
        obtain ⟨a2, c2, rfl⟩ : ∃ a2 c2, v' = .slice a2 (ls ++ [(no, Value.iface t u)]).length c2 := by
          rcases ho1.2 with ⟨hv, h0⟩ | ⟨g', cap', cur, hv, _⟩
          · simp at h0
          · exact ⟨_, _, hv⟩
        go_roundw
        case rel => exact ⟨k + 1, ls ++ [(no, Value.iface t u)], a2, c2, by omega, by go_num, rfl, ho1, by simp; omega, pick_in HR.out HS.out Hin.out HV.out, hb1⟩
        case measure => simp [intOf]; omega
      · have hdec : decide (no ∈ l) = false := by simpa using hin
        have Hin : Hid (no ∉ l) := hin
        clear hin
        go_wp2_with (go_at_call 114; refine (contains_any ho hn hc l no _ hbd2 HL).mono ?_; rintro e w1 ⟨rfl, hw1⟩; subst w1; rw [hdec])
        go_roundw
        case rel => exact ⟨k + 1, ls, av, c', by omega, by go_num, rfl, hown.alloc _, by omega, pick_out HR.out HS.out Hin.out, hbn⟩
        case measure => simp [intOf]; omega
    · clear hF hL
      go_wp2
      go_ret
      have h2 := HR.out
      rw [List.take_of_length_le (by omega)] at h2
      exact ⟨av, _, c', rfl, ⟨h2.length.symm, ls, CLies.owned hown, FReps.below hb (Nat.le_refl _) h2⟩, hb, fun ad had => by subst had; exact (hown.lt _ rfl).1⟩

theorem those_newA (fo : Option Addr) (n c : Nat) (gs : List (Int × Val)) (ho : Option Addr) (hn hc : Nat) (l : List Int) (w : World) (hF : FLies w fo n c gs) (h0 : 0 < n) (hbd : n ≤ 1000) (hL : ILies w ho hn hc l) (hbd2 : hn ≤ 1000) :
    Calls Tryz.prog 96 #[.slice fo n c, .slice ho hn hc] w fun e w' => ∃ fo m k, e = .returned (.slice fo m k) ∧ FLies w' fo m k (pick l gs) ∧ Below w.heap.size w w' ∧ (∀ ad, fo = some ad → w.heap.size ≤ ad.block) := by
  obtain ⟨b, o, v, rfl, _⟩ := hF.at (show 0 < gs.length by rw [hF.hlen]; exact h0)
  exact those_new b o c n gs ho hn hc l w hF hbd hL hbd2

set_option maxHeartbeats 4000000 in
theorem requestBody_new (r : Req) (ao : Option Addr) (n c : Nat) (w : World) (hD : Lies w ao n c r.data) :
    Calls Tryz.prog 50 #[rqV r ao n c] w fun e w' => ∃ fo m k, e = .returned (.slice fo m k) ∧ FLies w' fo m k (pick (hasRq r.op) (rqAny r)) ∧ Below w.heap.size w w' ∧ (∀ ad, fo = some ad → w.heap.size ≤ ad.block) := by
  have hB0 := RqBox.new w r ao n c
  go_enter Tryz.func50, Tryz.ntmps50
  go_wp2_with fail
  generalize hw0 : w.alloc (.cells #[.int .i64 r.client, .int .i64 r.seq, .int .i64 r.ack, .int .i64 r.epoch, .int .i64 r.op, .int .i64 r.id, .int .i64 r.id2, .int .i64 r.off, .int .i64 r.len, .string r.path, .string r.name, .string r.name2, .slice ao n c] 24) = w0 at *
  have hb0 : Below w.heap.size w w0.drew := drw (hw0 ▸ newBox w _)
  replace hB0 : RqBox w0.drew w.heap.size r ao n c := hB0
  go_region_held3 (fun w' => w'.cell? ⟨w.heap.size, 0, none⟩ = some (.int .i64 r.client) ∧ w'.cell? ⟨w.heap.size, 1, none⟩ = some (.int .i64 r.seq) ∧ w'.cell? ⟨w.heap.size, 2, none⟩ = some (.int .i64 r.ack) ∧ w'.cell? ⟨w.heap.size, 3, none⟩ = some (.int .i64 r.epoch) ∧ w'.cell? ⟨w.heap.size, 4, none⟩ = some (.int .i64 r.op) ∧ w'.cell? ⟨w.heap.size, 5, none⟩ = some (.int .i64 r.id) ∧ w'.cell? ⟨w.heap.size, 6, none⟩ = some (.int .i64 r.id2) ∧ w'.cell? ⟨w.heap.size, 7, none⟩ = some (.int .i64 r.off) ∧ w'.cell? ⟨w.heap.size, 8, none⟩ = some (.int .i64 r.len) ∧ w'.cell? ⟨w.heap.size, 9, none⟩ = some (.string r.path) ∧ w'.cell? ⟨w.heap.size, 10, none⟩ = some (.string r.name) ∧ w'.cell? ⟨w.heap.size, 11, none⟩ = some (.string r.name2) ∧ w'.cell? ⟨w.heap.size, 12, none⟩ = some (.slice ao n c))
    (first | exact hB0 | exact hB1 | exact hB2 | exact hB3)
    (first
      | (go_at_call 82; refine (anyRequestBody_any r ao n c _ (hD.below hb0 (Nat.le_refl _))).mono ?_; rintro e w1 ⟨fo1, k1, rfl, hF1, hb1⟩; have hB1 := RqBox.later hB0 hb1 (Nat.le_refl _))
      | (go_at_call 83; refine (requestHas_any r.op _).mono ?_; rintro e w2 ⟨ho, hn, hc, rfl, hH2, hb2⟩; have hB2 := RqBox.later hB1 hb2 (Nat.le_refl _))
      | (go_at_call 96; refine (those_newA fo1 8 k1 _ ho hn hc (hasRq r.op) _ (hF1.below hb2 (Nat.le_refl _)) (by omega) (by omega) hH2 (has_small hH2 (hasRq_len _))).mono ?_; rintro e w3 ⟨fo3, m3, k3, rfl, hF3, hb3, hn3⟩; have hB3 := RqBox.later hB2 hb3 (Nat.le_refl _)))
  clear hB0 hB1 hB2 hB3
  have hq1 := hb0.trans (hb1.mono hb0.size)
  have hq2 := hq1.trans (hb2.mono hq1.size)
  have hq3 := hq2.trans (hb3.mono hq2.size)
  go_wp2
  go_ret
  exact ⟨fo3, m3, k3, rfl, hF3, hq3, fun ad had => Nat.le_trans hq2.size (hn3 ad had)⟩

set_option maxHeartbeats 4000000 in
theorem replyBody_new (r : Rep) (ao : Option Addr) (n c : Nat) (lo : Option Addr) (ln lc : Nat) (w : World) (hD : Lies w ao n c r.data) (hE : CLies w lo ln lc 3 (entCells r.list)) (hel : r.list.length = ln) :
    Calls Tryz.prog 54 #[rpV r ao n c lo ln lc] w fun e w' => ∃ fo m k, e = .returned (.slice fo m k) ∧ FLies w' fo m k (pick (hasRp r.op r.status) (rpAny r)) ∧ Below w.heap.size w w' ∧ (∀ ad, fo = some ad → w.heap.size ≤ ad.block) := by
  have hB0 := RpBox.new w r ao n c lo ln lc
  go_enter Tryz.func54, Tryz.ntmps54
  go_wp2_with fail
  generalize hw0 : w.alloc (.cells #[.int .i64 r.client, .int .i64 r.seq, .int .i64 r.epoch, .int .i64 r.op, .int .i64 r.status, .int .i64 r.ai, .int .i64 r.ak, .int .i64 r.az, .int .i64 r.ac, .slice ao n c, .slice lo ln lc, .bool r.more] 30) = w0 at *
  have hb0 : Below w.heap.size w w0.drew := drw (hw0 ▸ newBox w _)
  replace hB0 : RpBox w0.drew w.heap.size r ao n c lo ln lc := hB0
  go_region_held3 (fun w' => w'.cell? ⟨w.heap.size, 0, none⟩ = some (.int .i64 r.client) ∧ w'.cell? ⟨w.heap.size, 1, none⟩ = some (.int .i64 r.seq) ∧ w'.cell? ⟨w.heap.size, 2, none⟩ = some (.int .i64 r.epoch) ∧ w'.cell? ⟨w.heap.size, 3, none⟩ = some (.int .i64 r.op) ∧ w'.cell? ⟨w.heap.size, 4, none⟩ = some (.int .i64 r.status) ∧ w'.cell? ⟨w.heap.size, 5, none⟩ = some (.int .i64 r.ai) ∧ w'.cell? ⟨w.heap.size, 6, none⟩ = some (.int .i64 r.ak) ∧ w'.cell? ⟨w.heap.size, 7, none⟩ = some (.int .i64 r.az) ∧ w'.cell? ⟨w.heap.size, 8, none⟩ = some (.int .i64 r.ac) ∧ w'.cell? ⟨w.heap.size, 9, none⟩ = some (.slice ao n c) ∧ w'.cell? ⟨w.heap.size, 10, none⟩ = some (.slice lo ln lc) ∧ w'.cell? ⟨w.heap.size, 11, none⟩ = some (.bool r.more))
    (first | exact hB0 | exact hB1 | exact hB2 | exact hB3)
    (first
      | (go_at_call 88; refine (anyReplyBody_any r ao n c lo ln lc _ (hD.below hb0 (Nat.le_refl _)) (hE.below hb0 (Nat.le_refl _)) hel).mono ?_; rintro e w1 ⟨fo1, k1, rfl, hF1, hb1⟩; have hB1 := RpBox.later hB0 hb1 (Nat.le_refl _))
      | (go_at_call 89; refine (replyHas_any r.op r.status _).mono ?_; rintro e w2 ⟨ho, hn, hc, rfl, hH2, hb2⟩; have hB2 := RpBox.later hB1 hb2 (Nat.le_refl _))
      | (go_at_call 96; refine (those_newA fo1 4 k1 _ ho hn hc (hasRp r.op r.status) _ (hF1.below hb2 (Nat.le_refl _)) (by omega) (by omega) hH2 (has_small hH2 (hasRp_len _ _))).mono ?_; rintro e w3 ⟨fo3, m3, k3, rfl, hF3, hb3, hn3⟩; have hB3 := RpBox.later hB2 hb3 (Nat.le_refl _)))
  clear hB0 hB1 hB2 hB3
  have hq1 := hb0.trans (hb1.mono hb0.size)
  have hq2 := hq1.trans (hb2.mono hq1.size)
  have hq3 := hq2.trans (hb3.mono hq2.size)
  go_wp2
  go_ret
  exact ⟨fo3, m3, k3, rfl, hF3, hq3, fun ad had => Nat.le_trans hq2.size (hn3 ad had)⟩

end Go.Proofs.YtdkcplndplhblaaGreatDoor

/- takeAll by its contract. -/
namespace Go.Proofs.YtdkcplndplhblaaGreatDoor
open Go.RowKit
set_option maxRecDepth 100000

/-- No memory stands behind it. -/
def Void : Val → Prop
  | .content d => d = []
  | .entries l => l = []
  | _ => True
theorem VRep.void {w w' : World} {v : Value} {x : Val} (h : VRep w v x) (hx : Void x) : VRep w' v x := by
  cases x with
  | content d => obtain ⟨ao, n, c, rfl, hL⟩ := h; obtain rfl : d = [] := hx; exact ⟨ao, n, c, rfl, hL.hlen, hL.hle, hL.hnone, fun _ _ t u hu => by simp at hu⟩
  | entries l => obtain ⟨ao, n, c, rfl, hL, hl⟩ := h; obtain rfl : l = [] := hx; exact ⟨ao, n, c, rfl, ⟨hL.hlen, hL.hle, hL.hnone, fun _ _ t u hu => by simp [entCells] at hu⟩, hl⟩
  | _ => exact h
theorem FReps.void {w w' : World} : ∀ {fs : List (Int × Value)} {gs : List (Int × Val)}, FReps w fs gs → (∀ g ∈ gs, Void g.2) → FReps w' fs gs
  | [], [], _, _ => trivial
  | _ :: _, g :: gs, h, hv => ⟨h.1, h.2.1.void (hv g (by simp)), FReps.void h.2.2 (fun x hx => hv x (by simp [hx]))⟩
  | [], _ :: _, h, _ => h.elim
  | _ :: _, [], h, _ => h.elim
theorem FLies.moved {w w' : World} {rb : Nat} {ao : Option Addr} {n cap : Nat} {gs : List (Int × Val)} (h : FLies w ao n cap gs) (hv : ∀ g ∈ gs, Void g.2) (hg : w.grownBy w' (some rb)) (hne : ∀ ad, ao = some ad → rb < ad.block) : FLies w' ao n cap gs := by
  obtain ⟨fs, h1, h2⟩ := h.ex
  exact ⟨h.hlen, fs, h1.grown hg (fun ad had => by have := hne ad had; simp; omega), h2.void hv⟩

theorem drop_cons {α : Type} {l : List α} {k : Nat} (h : k < l.length) : l.drop k = l[k] :: l.drop (k + 1) := List.drop_eq_getElem_cons h

set_option maxHeartbeats 4000000 in
theorem takeAll_any (gs : List (Int × Val)) (fo : Option Addr) (m fc : Nat) {rb g n : Nat} {bs : List Int} {er : Nat → Addr} {st : Nat × Int} (base : Nat) (w : World) (h : Rd w rb g n bs er st) (hbase : base ≤ w.heap.size) (hrb : rb < base) (hF : FLies w fo m fc gs) (hFn : ∀ ad, fo = some ad → rb < ad.block) (hvd : ∀ g ∈ gs, Void g.2) (hm : m ≤ 20) :
    Calls Tryz.prog 105 #[.pointer (some ⟨rb, 0, none⟩), .slice fo m fc] w fun e w' =>
      (takeLE n bs gs st = 0 ∧ ∃ to k, e = .returned (.tuple #[.slice to m k, .int .i64 (takeL n bs gs st).2.2]) ∧ TLies w' base to m k (takeL n bs gs st).1 ∧ (∀ ad, to = some ad → w.heap.size ≤ ad.block) ∧ Rd w' rb g n bs er (takeL n bs gs st).2 ∧ w.grownBy w' (some rb)) ∨
      (takeLE n bs gs st = 46 ∧ e = .returned (.tuple #[.slice none 0 0, .int .i64 46]) ∧ w.grownBy w' (some rb)) := by
  obtain ⟨i0, hi, hz0, hz1, hz2⟩ := info_parts Tryz.infoField
  have hmi : (m : Int) ≤ 20 := by omega
  have hgl := hF.hlen
  go_enter Tryz.func105, Tryz.ntmps105
  go_wp2_with (at_make; refine wpList_make_own _ rfl _ _ 80 rfl w.heap.size 132 i0 (.agg #[.int .i64 0, .nilIface]) 2 Tryz.underlying80 hi hz0 hz1 _ _ _ m rfl rfl (by omega) (by rw [hz2]; omega) (by unfold maxLen; omega) (Nat.le_refl _) ?_; intro w0 hown0 hgrow0)
  have hG0 : w.grownBy w0 (some rb) := ⟨hgrow0.os, hgrow0.tape, hgrow0.output, hgrow0.size, fun i hi _ => hgrow0.block i hi (by simp)⟩
  have hR0 : Rd w0 rb g n bs er st := h.kept ⟨hgrow0.os, hgrow0.tape, hgrow0.output, hgrow0.size, fun i hi => hgrow0.block i hi (by simp)⟩
  go_loopw [6, 18] (fun s i wr => ∃ (k : Nat) (ls : List (Int × Value)) (acc : List (Int × Val)) (stk : Nat × Int) (av : Option Addr) (c : Nat), k ≤ m ∧ i = .int .i64 k ∧ s = .slice av ls.length c ∧ wr.ownsRow w.heap.size 132 2 (.slice av ls.length c) ls.length (fCells ls) ∧ ls.length ≤ k ∧ Rd wr rb g n bs er stk ∧ TReps wr base ls acc ∧
      Hid (acc ++ (takeL n bs (gs.drop k) stk).1 = (takeL n bs gs st).1 ∧ (takeL n bs (gs.drop k) stk).2 = (takeL n bs gs st).2 ∧ takeLE n bs (gs.drop k) stk = takeLE n bs gs st ∧ ls.length = k) ∧ w.grownBy wr (some rb)) (fun _ i _ => m - (intOf i).toNat)
  case atStart => exact ⟨0, [], [], st, _, _, Nat.zero_le _, rfl, rfl, hown0, Nat.zero_le _, hR0, trivial, (⟨rfl, rfl, rfl, rfl⟩ : [] ++ (takeL n bs (gs.drop 0) st).1 = (takeL n bs gs st).1 ∧ (takeL n bs (gs.drop 0) st).2 = (takeL n bs gs st).2 ∧ takeLE n bs (gs.drop 0) st = takeLE n bs gs st ∧ ([] : List (Int × Value)).length = 0), hG0⟩
  case round =>
    obtain ⟨k, ls, acc, stk, av, c', hk, rfl, rfl, hown, hls, hRk, hTk, HH, hGk⟩ := hrel
    clear hown0 hgrow0 hG0 hR0
    have hgs := hGk.size
    by_cases hlt : k < m
    · have hki : decide ((k : Int) < (m : Int)) = true := by simpa using hlt
      have hkl : k < gs.length := by omega
      have hFk := hF.moved hvd hGk hFn
      obtain ⟨b', o', v, rfl, _, q0, q1, hv⟩ := hFk.at hkl
      have hdr := drop_cons hkl
      have hvx := hvd _ (List.getElem_mem hkl)
      clear hFk hF hvd
      generalize gs[k] = x at *
      obtain ⟨no, x⟩ := x
      simp only at q0 q1 hv hvx
      have HDR : Hid (gs.drop k = (no, x) :: gs.drop (k + 1)) := hdr
      clear hdr
      obtain ⟨t0, u0, rfl⟩ := hv.iface
      have hbox := newBox wr (.cells #[.int .i64 no, .iface t0 u0] 132)
      have hRb := hRk.kept hbox
      have hvb := hv.void (w' := wr.alloc (.cells #[.int .i64 no, .iface t0 u0] 132)) hvx
      have hownb := hown.alloc (.cells #[.int .i64 no, .iface t0 u0] 132)
      have hTb : TReps (wr.alloc (.cells #[.int .i64 no, .iface t0 u0] 132)) base ls acc := hTk.imp fun v x q => q.alloc (World.grownBy_alloc _ _ _)
      have hGb : w.grownBy (wr.alloc (.cells #[.int .i64 no, .iface t0 u0] 132)) (some rb) := grown_trans hGk (World.grownBy_alloc _ _ _)
      obtain ⟨f, t, u, hiv, hmeth, hcf, htake⟩ := take_any x (.iface t0 u0) base (wr.alloc (.cells #[.int .i64 no, .iface t0 u0] 132)) hRb (by simp; omega) hvb
      cases hiv
      have hmeth0 := hmeth (wr.alloc (.cells #[.int .i64 no, .iface t0 u0] 132))
      clear hmeth hv hvb hRk hTk hown
      rcases htake with ⟨he0, hcall⟩ | ⟨he0, hcall⟩
      · go_wp2_with fail
        refine hcall.mono ?_
        rintro e w3 ⟨v3, rfl, hT3, hR3, hg3⟩
        have hown3 := own_grown (base := w.heap.size) hownb hg3 (by omega)
        have hTs3 := hTb.imp fun v x q => q.grown hg3 hrb
        have hG3 := grown_trans hGb hg3
        have d0 : w3.cell? ⟨wr.heap.size, 0, none⟩ = some (.int .i64 no) := hg3.cell (by simp [go_sem]) (by simp; omega)
        obtain ⟨t3, u3, rfl⟩ := hT3.iface
        generalize hV : takeV n bs stk x = V at *
        have HV : Hid (takeV n bs stk x = V) := hV
        have HE : Hid (takeE n bs stk x = 0) := he0
        clear hV he0 hcall hmeth0 hcf q0 q1 hownb hTb hGb hRb hg3
        have hsz3 := hG3.size
        go_wp2_with (at_builtin; refine wpList_append_own _ rfl (.tmp 32) (.tmp 37) 80 rfl w.heap.size 132 i0 (.agg #[.int .i64 0, .nilIface]) 2 24 Tryz.underlying80 hi hz0 hz1 hz2 rfl (by decide) _ _ _ rfl (hown3.alloc _) ⟨w3.heap.size, 0, none⟩ 1 1 [.int .i64 no, .iface t3 u3] rfl rfl (cells_new _ _ 132 _ (by simp)) (by intro u hu; simp at hu; rcases hu with rfl | rfl <;> rfl) (by unfold maxLen; omega) (by omega) (by simp; omega) ?_; intro v' w4 hown4 hgrow4 hnil4)
        have ho1 : w4.ownsRow w.heap.size 132 2 v' (ls ++ [(no, Value.iface t3 u3)]).length (fCells (ls ++ [(no, Value.iface t3 u3)])) := by
          rw [fCells_app]; simpa [fCells] using hown4
        obtain ⟨a2, c2, rfl⟩ : ∃ a2 c2, v' = .slice a2 (ls ++ [(no, Value.iface t3 u3)]).length c2 := by
          rcases ho1.2 with ⟨hv, h0⟩ | ⟨g', cap', cur, hv, _⟩
          · simp at h0
          · exact ⟨_, _, hv⟩
        have hTn : TReps w4 base (ls ++ [(no, Value.iface t3 u3)]) (acc ++ [(no, V.1)]) ∧ Rd w4 rb g n bs er V.2 ∧ w.grownBy w4 (some rb) := by
          have hTs3' : TReps (w3.alloc (.cells #[.int .i64 no, .iface t3 u3] 132)) base (ls ++ [(no, Value.iface t3 u3)]) (acc ++ [(no, V.1)]) := (hTs3.app rfl hT3).imp fun v x q => q.alloc (World.grownBy_alloc _ _ _)
          have hR3' := hR3.kept (newBox w3 (.cells #[.int .i64 no, .iface t3 u3] 132))
          have hG3' : w.grownBy (w3.alloc (.cells #[.int .i64 no, .iface t3 u3] 132)) (some rb) := grown_trans hG3 (World.grownBy_alloc _ _ _)
          rcases hown3.2 with ⟨hv, _⟩ | ⟨q, cap', cur, hv, hq0, hqb, _⟩
          · have hv1 : av = none := by injection hv
            subst hv1
            have hgn : (w3.alloc (.cells #[.int .i64 no, .iface t3 u3] 132)).grownBy w4 none := hgrow4
            exact ⟨hTs3'.imp fun v x q => q.alloc hgn, hR3'.kept ⟨hgn.os, hgn.tape, hgn.output, hgn.size, fun i hi => hgn.block i hi (by simp)⟩, grown_trans hG3' ⟨hgn.os, hgn.tape, hgn.output, hgn.size, fun i hi _ => hgn.block i hi (by simp)⟩⟩
          · have hv1 : av = some ⟨q, 0, none⟩ := by injection hv
            subst hv1
            have hgn : (w3.alloc (.cells #[.int .i64 no, .iface t3 u3] 132)).grownBy w4 (some q) := hgrow4
            have hqc : ∃ C : Array Value, (w3.alloc (.cells #[.int .i64 no, .iface t3 u3] 132)).heap[q]? = some (.cells C 132 (0, 0)) := ⟨cur, ((World.grownBy_alloc w3 _ none).block q (lt_of_block hqb) (by simp)).trans hqb⟩
            exact ⟨hTs3'.imp fun v x p => p.fields hgn hqc, hR3'.beside h.lim hgn hq0, grown_above hG3' hgn hq0⟩
        obtain ⟨hT4, hR4, hG4⟩ := hTn
        clear hown4 hown3 hTs3 hR3 hG3 hgrow4 hT3
        go_roundw
        case rel =>
          refine ⟨k + 1, ls ++ [(no, Value.iface t3 u3)], acc ++ [(no, V.1)], V.2, a2, c2, by omega, by go_num, rfl, ho1, by simp; omega, hR4, hT4, ?_, hG4⟩
          obtain ⟨h1, h2, h3, h4⟩ := HH.out
          have hd := HDR.out
          rw [hd] at h1 h2 h3
          simp only [takeL, takeLE, HV.out, HE.out] at h1 h2 h3
          have key : (acc ++ [(no, V.1)]) ++ (takeL n bs (gs.drop (k + 1)) V.2).1 = (takeL n bs gs st).1 ∧ (takeL n bs (gs.drop (k + 1)) V.2).2 = (takeL n bs gs st).2 ∧ takeLE n bs (gs.drop (k + 1)) V.2 = takeLE n bs gs st ∧ (ls ++ [(no, Value.iface t3 u3)]).length = k + 1 := ⟨by rw [List.append_assoc]; exact h1, h2, by simpa using h3, by simp [h4]⟩
          exact key
        case measure => simp [intOf]; omega
      · go_wp2_with fail
        refine hcall.mono ?_
        rintro e w3 ⟨rfl, hR3, hg3⟩
        have hG3 := grown_trans hGb hg3
        have HE : Hid (takeE n bs stk x = 46) := he0
        clear he0 hcall hmeth0 hcf q0 q1 hownb hTb hGb hRb hg3
        go_wp2
        go_ret2
        refine .inr ⟨?_, rfl, hG3⟩
        obtain ⟨h1, h2, h3, h4⟩ := HH.out
        have hd := HDR.out
        rw [hd] at h3
        simp only [takeLE, HE.out] at h3
        exact h3.symm
    · clear hF hvd
      have hki : decide ((k : Int) < (m : Int)) = false := by simp; omega
      obtain ⟨h1, h2, h3, h4⟩ := HH.out
      rw [List.drop_of_length_le (by omega)] at h1 h2 h3
      simp only [takeL, takeLE, List.append_nil] at h1 h2 h3
      have HF1 : Hid (acc = (takeL n bs gs st).1 ∧ stk = (takeL n bs gs st).2 ∧ 0 = takeLE n bs gs st ∧ ls.length = m) := ⟨h1, h2, h3, by omega⟩
      clear h1 h2 h3 h4 HH
      go_wp2_with fail
      refine (rd_err _ hRk).mono ?_
      rintro e w3 ⟨rfl, mm, hw3⟩
      subst w3
      go_wp2
      go_ret2
      obtain ⟨h1, h2, h3, h4⟩ := HF1.out
      subst h1 h2
      refine .inl ⟨h3.symm, av, c', by rw [h4]; rfl, ⟨?_, ls, ?_, ?_⟩, ?_, hRk.kept ⟨rfl, rfl, rfl, Nat.le_refl _, fun _ _ => rfl⟩, grown_trans hGk (grown_drewN _ _ _)⟩
      · rw [← hTk.length, h4]
      · rw [← h4]; exact ⟨(CLies.owned hown).hlen, (CLies.owned hown).hle, (CLies.owned hown).hnone, (CLies.owned hown).hcells⟩
      · exact TReps.imp (w := wr) (w' := wr.drewN mm) (fun v x q => q.alloc ⟨rfl, rfl, rfl, Nat.le_refl _, fun _ _ _ => rfl⟩) hTk
      · intro ad had
        subst had
        exact (hown.lt _ rfl).1
end Go.Proofs.YtdkcplndplhblaaGreatDoor
