/- A reader in memory, and NewReader by its contract. -/
import Derived.Test.YtgpeefedboomoabDoorSame
namespace Go.Proofs.YtgpeefedboomoabDoor
open Go.RowKit
set_option maxRecDepth 100000

/-- Block rb is a bits.Reader: its bytes bs (n of them, in block g), its place, its error. -/
structure Rdr (w : World) (rb g n cap : Nat) (pl code : Int) (bs : List Int) : Prop where
  blk : w.heap[rb]? = some (.cells #[.slice (some ⟨g, 0, none⟩) n cap, .int .i64 pl, .int .i64 code] 92 (0, 0))
  lies : Lies w (some ⟨g, 0, none⟩) n cap bs
  apart : g ≠ rb
  glt : g < w.heap.size

theorem Rdr.c0 {w : World} {rb g n cap : Nat} {pl code : Int} {bs : List Int} (h : Rdr w rb g n cap pl code bs) : w.cell? ⟨rb, 0, none⟩ = some (.slice (some ⟨g, 0, none⟩) n cap) := by simp [World.cell?, h.blk]
theorem Rdr.c1 {w : World} {rb g n cap : Nat} {pl code : Int} {bs : List Int} (h : Rdr w rb g n cap pl code bs) : w.cell? ⟨rb, 1, none⟩ = some (.int .i64 pl) := by simp [World.cell?, h.blk]
theorem Rdr.c2 {w : World} {rb g n cap : Nat} {pl code : Int} {bs : List Int} (h : Rdr w rb g n cap pl code bs) : w.cell? ⟨rb, 2, none⟩ = some (.int .i64 code) := by simp [World.cell?, h.blk]
theorem Rdr.f {w : World} {rb g n cap : Nat} {pl code : Int} {bs : List Int} (h : Rdr w rb g n cap pl code bs) (o : Nat) : w.frozen? ⟨rb, o, none⟩ = false := by simp [World.frozen?, h.blk]
theorem Rdr.kept {w w' : World} {rb g n cap : Nat} {pl code : Int} {bs : List Int} {row : Option Nat} (h : Rdr w rb g n cap pl code bs) (hg : w.grownBy w' row) (h1 : some rb ≠ row) (h2 : some g ≠ row) : Rdr w' rb g n cap pl code bs :=
  ⟨(hg.block rb (by have := Array.getElem?_eq_some_iff.1 h.blk; exact this.1) h1).trans h.blk, h.lies.grown hg (fun ad had => by obtain rfl := Option.some.inj had; exact h2), h.apart, Nat.lt_of_lt_of_le h.glt hg.size⟩
theorem Rdr.drewN {w : World} {rb g n cap : Nat} {pl code : Int} {bs : List Int} (h : Rdr w rb g n cap pl code bs) (m : Nat) : Rdr (w.drewN m) rb g n cap pl code bs :=
  ⟨h.blk, ⟨h.lies.hlen, h.lies.hle, h.lies.hnone, h.lies.hcells⟩, h.apart, h.glt⟩

set_option maxHeartbeats 400000 in
theorem newReader_any (ao : Option Addr) (len cap : Nat) (bs : List Int) (w : World) (hbd : len ≤ 200000000000000) (hL : Lies w ao len cap bs) :
    Calls Tryd.prog 49 #[.slice ao len cap] w fun e w' => ∃ rb g, e = .returned (.pointer (some ⟨rb, 0, none⟩)) ∧ Rdr w' rb g len len 0 0 bs ∧ w.heap.size ≤ rb ∧ w.heap.size ≤ g ∧ Below w.heap.size w w' := by
  obtain ⟨i0, hi, hz0, hz1, hz2⟩ := info_parts Tryd.info5
  go_enter Tryd.func49, Tryd.ntmps49
  go_wp2_with (first
    | (at_make; refine wpList_make_own _ rfl _ _ 26 rfl w.heap.size 5 i0 (.int .u8 0) 1 Tryd.underlying26 hi hz0 hz1 _ _ _ len rfl rfl (by omega) (by rw [hz2]; omega) (by unfold maxLen; omega) (Nat.le_refl _) ?_; intro w0 hown0 hgrow0)
    | (at_builtin; refine wpList_append_fits_any _ rfl (.tmp 5) (.tmp 6) 26 rfl w.heap.size 5 i0 1 Tryd.underlying26 hi hz1 w.heap.size 0 len _ rfl hown0 _ len _ (bs.map (Value.int .u8)) rfl (by simp [hL.hlen]) hL.hnone (fun ad had t u hu => hgrow0.cell (hL.hcells ad had t u hu) (by simp)) (ints_oneCell _ _) (by omega) ?_; intro w1 hown1 hgrow1; simp only [Nat.zero_add, List.nil_append] at hown1))
  go_ret
  have hlt : w.heap.size < w1.heap.size := (hown1.lt _ rfl).2
  have hb1 : Below w.heap.size w w1 := ((Below.refl _ _).grown hgrow0 (Nat.le_refl _) (fun k h => by cases h)).grown hgrow1 hgrow0.size (fun k hk => by cases hk; exact Nat.le_refl _)
  refine ⟨w1.heap.size, w.heap.size, rfl, ⟨heap_alloc_new _ _, (Lies.own hown1).grown (World.grownBy_alloc _ _ none) (fun _ _ => by simp), by omega, by simp; omega⟩, by omega, Nat.le_refl _, hb1.alloc hb1.size _⟩

/-- Where the variables stand that hold the package's five errors: 0 errFlag, 1 errWide, 2 errLong, 3 errPad, 4 errShort. -/
def gvar : Nat → Nat
  | 0 => 3 | 1 => 1 | 2 => 4 | 3 => 5 | _ => 2
/-- The package's five errors, as the variables hold them. -/
structure Errs (w : World) (er : Nat → Addr) : Prop where
  cell : ∀ i, i < 5 → w.cell? ⟨gvar i, 0, none⟩ = some (.iface 118 (.pointer (some (er i))))
  row : ∀ i, i < 5 → ∃ c t, w.heap[(er i).block]? = some (.cells c t (0, 0))
  ne : ∀ i j, i < 5 → j < 5 → i ≠ j → er i ≠ er j
theorem Errs.c0 {w : World} {er : Nat → Addr} (h : Errs w er) : w.cell? ⟨3, 0, none⟩ = some (.iface 118 (.pointer (some (er 0)))) := h.cell 0 (by decide)
theorem Errs.c1 {w : World} {er : Nat → Addr} (h : Errs w er) : w.cell? ⟨1, 0, none⟩ = some (.iface 118 (.pointer (some (er 1)))) := h.cell 1 (by decide)
theorem Errs.c2 {w : World} {er : Nat → Addr} (h : Errs w er) : w.cell? ⟨4, 0, none⟩ = some (.iface 118 (.pointer (some (er 2)))) := h.cell 2 (by decide)
theorem Errs.c3 {w : World} {er : Nat → Addr} (h : Errs w er) : w.cell? ⟨5, 0, none⟩ = some (.iface 118 (.pointer (some (er 3)))) := h.cell 3 (by decide)
theorem Errs.c4 {w : World} {er : Nat → Addr} (h : Errs w er) : w.cell? ⟨2, 0, none⟩ = some (.iface 118 (.pointer (some (er 4)))) := h.cell 4 (by decide)

theorem Errs.below {B : Nat} {w w' : World} {er : Nat → Addr} (h : Errs w er) (hb : Below B w w') (hB : w.heap.size ≤ B) : Errs w' er := by
  refine ⟨fun i hi => ?_, fun i hi => ?_, h.ne⟩
  · have hc := h.cell i hi
    exact (hb.cell (Nat.lt_of_lt_of_le (World.block_lt_of_cell? w _ hc) hB)).trans hc
  · obtain ⟨c, t, hr⟩ := h.row i hi
    exact ⟨c, t, (hb.block _ (Nat.lt_of_lt_of_le (lt_of_block hr) hB)).trans hr⟩

/-- No error's block, nor a variable's, is a row that came later. -/
theorem Errs.grown {w w' : World} {er : Nat → Addr} {row : Option Nat} (h : Errs w er) (hg : w.grownBy w' row) (hne : ∀ i, i < 5 → some (gvar i) ≠ row ∧ some (er i).block ≠ row) : Errs w' er := by
  refine ⟨fun i hi => ?_, fun i hi => ?_, h.ne⟩
  · exact hg.cell (h.cell i hi) (hne i hi).1
  · obtain ⟨c, t, hr⟩ := h.row i hi
    exact ⟨c, t, (hg.block _ (lt_of_block hr) (hne i hi).2).trans hr⟩
theorem Errs.drewN {w : World} {er : Nat → Addr} (h : Errs w er) (m : Nat) : Errs (w.drewN m) er := ⟨h.cell, h.row, h.ne⟩
end Go.Proofs.YtgpeefedboomoabDoor
