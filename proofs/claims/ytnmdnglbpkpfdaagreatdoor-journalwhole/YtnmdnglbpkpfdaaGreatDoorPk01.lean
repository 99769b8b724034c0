/- Plain words on worlds, bytes and numbers, which the contracts below use. -/
import Derived.Test.YtnmdnglbpkpfdaaGreatDoorChecked
import Derived.WalkKit
import Derived.WalkSpells
import Derived.WalkLawsBesides
import Derived.BigQuiet
import Derived.Deep.QuietTactic
import Derived.OpenShut
import Derived.Test.YtnmdnglbpkpfdaaGreatDoorRows
import Derived.Stop.LaidTwo
import Derived.LaidMore
import Derived.ProofKit
import Derived.Test.YtnmdnglbpkpfdaaGreatDoorCards
import Derived.Test.YtnmdnglbpkpfdaaGreatDoorTie
import Derived.SizedLaws
import Derived.Stop.Joined
import Derived.SevenTiedAt
import Derived.Deep.DeepHandedRow
import Derived.Deep.DeepWitnessRowRef
import Derived.Laws.OwnMore
import Derived.Laws.CopyOwn
import Derived.Maps.OwnSet
import Derived.Maps.Views
import Derived.Maps.AppendAt
import Derived.OwnWalk
import Derived.Test.YtnmdnglbpkpfdaaGreatDoorProg
import Derived.Conc.MuLone
import Derived.Conc.MuData
import Derived.KernelRfl
namespace Go.Proofs.YtnmdnglbpkpfdaaGreatDoor
open Go.RowKit
set_option maxRecDepth 100000
theorem Tryz.info5 : (Tryz.prog.info? 5).map (fun i => (i.zero, i.size, i.bytes)) = some (some (.int .u8 0), 1, 1) := by kernel_rfl

/-- A number's digits to the base 256, the greatest first. -/
def be (X : Int) : Nat → List Int
  | 0 => []
  | k + 1 => (X / 2 ^ (8 * k) % 256) :: be X k
theorem be_length (X : Int) (k : Nat) : (be X k).length = k := by
  induction k with
  | zero => rfl
  | succ k ih => simp [be, ih]

theorem grown_trans {a b c : World} {row : Option Nat} (h : a.grownBy b row) (k : b.grownBy c row) : a.grownBy c row :=
  ⟨k.os.trans h.os, k.tape.trans h.tape, k.output.trans h.output, Nat.le_trans h.size k.size, fun i hi hr => (k.block i (Nat.lt_of_lt_of_le hi h.size) hr).trans (h.block i hi hr)⟩

/-- The slice value '.slice ao len cap' reads as the bytes bs. -/
structure Lies (w : World) (ao : Option Addr) (len cap : Nat) (bs : List Int) : Prop where
  hlen : bs.length = len
  hle : len ≤ cap
  hnone : ao = none → len = 0 ∧ cap = 0
  hcells : ∀ ad, ao = some ad → ∀ t u, (bs.map (Value.int .u8))[t]? = some u → w.cell? (ad.add t) = some u

theorem Lies.below {B : Nat} {w w' : World} {ao : Option Addr} {len cap : Nat} {bs : List Int} (h : Lies w ao len cap bs) (hb : Below B w w') (hB : w.heap.size ≤ B) : Lies w' ao len cap bs :=
  ⟨h.hlen, h.hle, h.hnone, fun ad had t u hu => by
    have hc := h.hcells ad had t u hu
    exact (hb.cell (Nat.lt_of_lt_of_le (World.block_lt_of_cell? w _ hc) hB)).trans hc⟩

theorem add_block (a : Addr) (t : Nat) : (a.add t).block = a.block := by cases a; simp [Addr.add]; try (split <;> rfl)

theorem Lies.grown {w w' : World} {row : Option Nat} {ao : Option Addr} {len cap : Nat} {bs : List Int} (h : Lies w ao len cap bs) (hg : w.grownBy w' row) (hne : ∀ ad, ao = some ad → some ad.block ≠ row) : Lies w' ao len cap bs :=
  ⟨h.hlen, h.hle, h.hnone, fun ad had t u hu => hg.cell (h.hcells ad had t u hu) (by rw [add_block]; exact hne ad had)⟩

/-- A row of the call's own reads as its bytes. -/
theorem Lies.own {w : World} {base g n cap : Nat} {bs : List Int} (h : w.ownsRow base 5 1 (.slice (some ⟨g, 0, Option.none⟩) n cap) n (bs.map (Value.int .u8))) : Lies w (some ⟨g, 0, Option.none⟩) n cap bs := by
  have hl : bs.length = n := by simpa using h.1
  refine ⟨hl, ?_, (fun h => by cases h), fun ad had t u hu => ?_⟩
  · rcases h.2 with ⟨hv, _⟩ | ⟨g', cap', cur, hv, _, _, hnc, _⟩
    · cases hv
    · cases hv; exact hnc
  · obtain rfl := Option.some.inj had
    have ht : t < n := by
      have := (List.getElem?_eq_some_iff.1 hu).1
      simpa [hl] using this
    rw [Addr.add_lit, Nat.zero_add, h.cellAt t (by omega)]
    exact hu
theorem Lies.nil (w : World) : Lies w Option.none 0 0 [] := ⟨rfl, Nat.le_refl _, fun _ => ⟨rfl, rfl⟩, fun _ h => by cases h⟩

end Go.Proofs.YtnmdnglbpkpfdaaGreatDoor

/- annexref.SameBytes by its contract: true just where the two lists are the same. -/
namespace Go.Proofs.YtnmdnglbpkpfdaaGreatDoor
open Go.RowKit
set_option maxRecDepth 100000
/-- The address of a list that is not empty, written out. -/
theorem Lies.at {w : World} {ao : Option Addr} {len cap : Nat} {ys : List Int} (h : Lies w ao len cap ys) (hp : 0 < len) :
    ∃ b o, ao = some ⟨b, o, none⟩ ∧ ∀ t, t < len → w.cell? ⟨b, o + t, none⟩ = some (.int .u8 (ys.getD t 0)) := by
  cases ao with
  | none => have := (h.hnone rfl).1; omega
  | some ad =>
    have hc : ∀ i, i < ys.length → w.cell? (ad.add i) = some (.int .u8 (ys.getD i 0)) := fun i hi => h.hcells ad rfl i _ (by simp [List.getD, hi])
    obtain ⟨b, off, rfl, hj⟩ := ints_at hc (by rw [h.hlen]; exact hp)
    exact ⟨b, off, rfl, fun t ht => hj t (by rw [h.hlen]; exact ht)⟩

theorem ne_of_at {xs ys : List Int} {k : Nat} {h1 : k < xs.length} {h2 : k < ys.length} (h : (xs[k] != ys[k]) = true) : ¬ xs = ys := by
  rintro rfl; simp at h
theorem take_both {xs ys : List Int} {k : Nat} (ht : xs.take k = ys.take k) (h1 : k < xs.length) (h2 : k < ys.length) (h : (xs[k] != ys[k]) = false) : xs.take (k + 1) = ys.take (k + 1) := by
  rw [List.take_succ_eq_append_getElem h1, List.take_succ_eq_append_getElem h2, ht]
  simp at h; rw [h]

set_option maxHeartbeats 400000 in
theorem same_pos (b1 o1 c1 b2 o2 c2 n : Nat) (xs ys : List Int) (w : World) (hn : n ≤ 200000000000000) (hla : xs.length = n) (hlb : ys.length = n) (_hc1 : n ≤ c1) (_hc2 : n ≤ c2)
    (ha : ∀ t, t < n → w.cell? ⟨b1, o1 + t, none⟩ = some (.int .u8 (xs.getD t 0))) (hb : ∀ t, t < n → w.cell? ⟨b2, o2 + t, none⟩ = some (.int .u8 (ys.getD t 0))) :
    Calls Tryz.prog 34 #[.slice (some ⟨b1, o1, none⟩) n c1, .slice (some ⟨b2, o2, none⟩) n c2] w fun e w' => e = .returned (.bool (decide (xs = ys))) ∧ ∃ m, w' = w.drewN m := by
  have hni : (n : Int) ≤ 200000000000000 := by omega
  go_enter Tryz.func34, Tryz.ntmps34
  go_wp2
  go_loopw [5] (fun i wr => ∃ k m : Nat, k ≤ n ∧ i = .int .i64 k ∧ wr = w.drewN m ∧ xs.take k = ys.take k) (fun i _ => n - (intOf i).toNat)
  case atStart => exact ⟨0, 0, Nat.zero_le _, rfl, rfl, by simp⟩
  case round =>
    obtain ⟨k, m, hk, rfl, rfl, htk⟩ := hrel
    have HT : Hid (xs.take k = ys.take k) := htk
    clear htk
    by_cases hlt : k < n
    · have ga := ha k hlt
      have gb := hb k hlt
      clear ha hb
      go_wp2
      go_quiet (fail)
      go_wp2
      · go_ret
        exact ⟨by rw [decide_eq_false (ne_of_at ‹_›)]; rfl, m + nq, World.drewN_drewN _ _ _⟩
      · go_roundw
        case rel => exact ⟨k + 1, m + nq, by omega, by go_num, by first | rfl | simp, take_both HT.out _ _ ‹_›⟩
        case measure => simp [intOf]; omega
    · clear ha hb
      go_wp2
      go_ret
      refine ⟨?_, m, rfl⟩
      have : xs = ys := by
        have := HT.out
        rwa [List.take_of_length_le (by omega), List.take_of_length_le (by omega)] at this
      simp [this]

set_option maxHeartbeats 400000 in
theorem same_len (ao bo : Option Addr) (n m c1 c2 : Nat) (w : World) (hne : ¬ n = m) :
    Calls Tryz.prog 34 #[.slice ao n c1, .slice bo m c2] w fun e w' => e = .returned (.bool false) ∧ w' = w := by
  have h : ((n : Int) != (m : Int)) = true := by simp; omega
  go_enter Tryz.func34, Tryz.ntmps34
  go_wp2
  go_ret
  exact ⟨rfl, rfl⟩

set_option maxHeartbeats 400000 in
theorem same_zero (ao bo : Option Addr) (c1 c2 : Nat) (w : World) :
    Calls Tryz.prog 34 #[.slice ao 0 c1, .slice bo 0 c2] w fun e w' => e = .returned (.bool true) ∧ w' = w := by
  go_enter Tryz.func34, Tryz.ntmps34
  go_wp2
  refine wp_loop_rounds 1 ?_
  rw [rounds_succ]
  go_wp2
  go_ret
  exact ⟨rfl, rfl⟩

/-- SameBytes, of any two slices of bytes. -/
theorem same_any (ao bo : Option Addr) (n m c1 c2 : Nat) (xs ys : List Int) (w : World) (hn : n ≤ 200000000000000) (hA : Lies w ao n c1 xs) (hB : Lies w bo m c2 ys) :
    Calls Tryz.prog 34 #[.slice ao n c1, .slice bo m c2] w fun e w' => e = .returned (.bool (decide (xs = ys))) ∧ ∃ m, w' = w.drewN m := by
  by_cases hnm : n = m
  · subst hnm
    by_cases h0 : 0 < n
    · obtain ⟨b1, o1, rfl, ha⟩ := hA.at h0
      obtain ⟨b2, o2, rfl, hb⟩ := hB.at h0
      exact same_pos b1 o1 c1 b2 o2 c2 n xs ys w hn hA.hlen hB.hlen hA.hle hB.hle ha hb
    · obtain rfl : n = 0 := by omega
      refine (same_zero ao bo c1 c2 w).mono ?_
      rintro e w' ⟨rfl, rfl⟩
      have e1 : xs = [] := List.eq_nil_of_length_eq_zero hA.hlen
      have e2 : ys = [] := List.eq_nil_of_length_eq_zero hB.hlen
      subst e1; subst e2
      exact ⟨by simp, 0, rfl⟩
  · refine (same_len ao bo n m c1 c2 w hnm).mono ?_
    rintro e w' ⟨rfl, rfl⟩
    refine ⟨?_, 0, rfl⟩
    rw [decide_eq_false]
    rintro rfl
    exact hnm (hA.hlen.symm.trans hB.hlen)
end Go.Proofs.YtnmdnglbpkpfdaaGreatDoor

/- A reader in memory, and NewReader by its contract. -/
namespace Go.Proofs.YtnmdnglbpkpfdaaGreatDoor
open Go.RowKit
set_option maxRecDepth 100000
/-- Block rb is a bits.Reader: its bytes bs (n of them, in block g), its place, its error. -/
structure Rdr (w : World) (rb g n cap : Nat) (pl code : Int) (bs : List Int) : Prop where
  blk : w.heap[rb]? = some (.cells #[.slice (some ⟨g, 0, none⟩) n cap, .int .i64 pl, .int .i64 code] 237 (0, 0))
  lies : Lies w (some ⟨g, 0, none⟩) n cap bs
  apart : g ≠ rb
  glt : g < w.heap.size

theorem Rdr.c0 {w : World} {rb g n cap : Nat} {pl code : Int} {bs : List Int} (h : Rdr w rb g n cap pl code bs) : w.cell? ⟨rb, 0, none⟩ = some (.slice (some ⟨g, 0, none⟩) n cap) := by simp [World.cell?, h.blk]
theorem Rdr.c1 {w : World} {rb g n cap : Nat} {pl code : Int} {bs : List Int} (h : Rdr w rb g n cap pl code bs) : w.cell? ⟨rb, 1, none⟩ = some (.int .i64 pl) := by simp [World.cell?, h.blk]
theorem Rdr.c2 {w : World} {rb g n cap : Nat} {pl code : Int} {bs : List Int} (h : Rdr w rb g n cap pl code bs) : w.cell? ⟨rb, 2, none⟩ = some (.int .i64 code) := by simp [World.cell?, h.blk]
theorem Rdr.f {w : World} {rb g n cap : Nat} {pl code : Int} {bs : List Int} (h : Rdr w rb g n cap pl code bs) (o : Nat) : w.frozen? ⟨rb, o, none⟩ = false := by simp [World.frozen?, h.blk]
theorem Rdr.kept {w w' : World} {rb g n cap : Nat} {pl code : Int} {bs : List Int} {row : Option Nat} (h : Rdr w rb g n cap pl code bs) (hg : w.grownBy w' row) (h1 : some rb ≠ row) (h2 : some g ≠ row) : Rdr w' rb g n cap pl code bs :=
  ⟨(hg.block rb (by have := Array.getElem?_eq_some_iff.1 h.blk; exact this.1) h1).trans h.blk, h.lies.grown hg (fun ad had => by obtain rfl := Option.some.inj had; exact h2), h.apart, Nat.lt_of_lt_of_le h.glt hg.size⟩
theorem Rdr.drewN {w : World} {rb g n cap : Nat} {pl code : Int} {bs : List Int} (h : Rdr w rb g n cap pl code bs) (m : Nat) : Rdr (w.drewN m) rb g n cap pl code bs :=
  ⟨h.blk, ⟨h.lies.hlen, h.lies.hle, h.lies.hnone, h.lies.hcells⟩, h.apart, h.glt⟩

set_option maxHeartbeats 400000 in
theorem newReader_any (ao : Option Addr) (len cap : Nat) (bs : List Int) (w : World) (hbd : len ≤ 200000000000000) (hL : Lies w ao len cap bs) :
    Calls Tryz.prog 138 #[.slice ao len cap] w fun e w' => ∃ rb g, e = .returned (.pointer (some ⟨rb, 0, none⟩)) ∧ Rdr w' rb g len len 0 0 bs ∧ w.heap.size ≤ rb ∧ w.heap.size ≤ g ∧ Below w.heap.size w w' := by
  obtain ⟨i0, hi, hz0, hz1, hz2⟩ := info_parts Tryz.info5
  go_enter Tryz.func138, Tryz.ntmps138
  go_wp2_with (first
    | (at_make; refine wpList_make_own _ rfl _ _ 56 rfl w.heap.size 5 i0 (.int .u8 0) 1 Tryz.underlying56 hi hz0 hz1 _ _ _ len rfl rfl (by omega) (by rw [hz2]; omega) (by unfold maxLen; omega) (Nat.le_refl _) ?_; intro w0 hown0 hgrow0)
    | (at_builtin; refine wpList_append_fits_any _ rfl (.tmp 5) (.tmp 6) 56 rfl w.heap.size 5 i0 1 Tryz.underlying56 hi hz1 w.heap.size 0 len _ rfl hown0 _ len _ (bs.map (Value.int .u8)) rfl (by simp [hL.hlen]) hL.hnone (fun ad had t u hu => hgrow0.cell (hL.hcells ad had t u hu) (by simp)) (ints_oneCell _ _) (by omega) ?_; intro w1 hown1 hgrow1; simp only [Nat.zero_add, List.nil_append] at hown1))
  go_ret
  have hlt : w.heap.size < w1.heap.size := (hown1.lt _ rfl).2
  have hb1 : Below w.heap.size w w1 := ((Below.refl _ _).grown hgrow0 (Nat.le_refl _) (fun k h => by cases h)).grown hgrow1 hgrow0.size (fun k hk => by cases hk; exact Nat.le_refl _)
  refine ⟨w1.heap.size, w.heap.size, rfl, ⟨heap_alloc_new _ _, (Lies.own hown1).grown (World.grownBy_alloc _ _ none) (fun _ _ => by simp), by omega, by simp; omega⟩, by omega, Nat.le_refl _, hb1.alloc hb1.size _⟩

/-- Where the variables stand that hold the package's five errors: 0 errFlag, 1 errWide, 2 errLong, 3 errPad, 4 errShort. -/
def gvar : Nat → Nat
  | 0 => 3 | 1 => 1 | 2 => 4 | 3 => 5 | _ => 2
/-- The package's five errors, as the variables hold them. -/
structure Errs (w : World) (er : Nat → Addr) : Prop where
  cell : ∀ i, i < 5 → w.cell? ⟨gvar i, 0, none⟩ = some (.iface 256 (.pointer (some (er i))))
  row : ∀ i, i < 5 → ∃ c t, w.heap[(er i).block]? = some (.cells c t (0, 0))
  ne : ∀ i j, i < 5 → j < 5 → i ≠ j → er i ≠ er j
theorem Errs.c0 {w : World} {er : Nat → Addr} (h : Errs w er) : w.cell? ⟨3, 0, none⟩ = some (.iface 256 (.pointer (some (er 0)))) := h.cell 0 (by decide)
theorem Errs.c1 {w : World} {er : Nat → Addr} (h : Errs w er) : w.cell? ⟨1, 0, none⟩ = some (.iface 256 (.pointer (some (er 1)))) := h.cell 1 (by decide)
theorem Errs.c2 {w : World} {er : Nat → Addr} (h : Errs w er) : w.cell? ⟨4, 0, none⟩ = some (.iface 256 (.pointer (some (er 2)))) := h.cell 2 (by decide)
theorem Errs.c3 {w : World} {er : Nat → Addr} (h : Errs w er) : w.cell? ⟨5, 0, none⟩ = some (.iface 256 (.pointer (some (er 3)))) := h.cell 3 (by decide)
theorem Errs.c4 {w : World} {er : Nat → Addr} (h : Errs w er) : w.cell? ⟨2, 0, none⟩ = some (.iface 256 (.pointer (some (er 4)))) := h.cell 4 (by decide)

theorem Errs.below {B : Nat} {w w' : World} {er : Nat → Addr} (h : Errs w er) (hb : Below B w w') (hB : w.heap.size ≤ B) : Errs w' er := by
  refine ⟨fun i hi => ?_, fun i hi => ?_, h.ne⟩
  · have hc := h.cell i hi
    exact (hb.cell (Nat.lt_of_lt_of_le (World.block_lt_of_cell? w _ hc) hB)).trans hc
  · obtain ⟨c, t, hr⟩ := h.row i hi
    exact ⟨c, t, (hb.block _ (Nat.lt_of_lt_of_le (lt_of_block hr) hB)).trans hr⟩

/-- No error's block, nor a variable's, is a row that came later. -/
theorem Errs.grown {w w' : World} {er : Nat → Addr} {row : Option Nat} (h : Errs w er) (hg : w.grownBy w' row) (hne : ∀ i, i < 5 → some (gvar i) ≠ row ∧ some (er i).block ≠ row) : Errs w' er := by
  refine ⟨fun i hi => ?_, fun i hi => ?_, h.ne⟩
  · exact hg.cell (h.cell i hi) (hne i hi).1
  · obtain ⟨c, t, hr⟩ := h.row i hi
    exact ⟨c, t, (hg.block _ (lt_of_block hr) (hne i hi).2).trans hr⟩
theorem Errs.drewN {w : World} {er : Nat → Addr} (h : Errs w er) (m : Nat) : Errs (w.drewN m) er := ⟨h.cell, h.row, h.ne⟩
end Go.Proofs.YtnmdnglbpkpfdaaGreatDoor

/- What the listed variables give the walks: the five errors of package bits, each a pointer of its own. -/
namespace Go.Proofs.YtnmdnglbpkpfdaaGreatDoor
open Go.ChangeShapes Go.WideShapes Go.ChangeAt Go.RowKit
set_option maxRecDepth 100000
abbrev laidA {H : Type} : List (String × DataW H) := [("errors.errorType", Rows.laid_errors_errorType), ("annex/bits.errShort", Rows.laid_annex_bits_errShort), ("annex/bits.errWide", Rows.laid_annex_bits_errWide), ("annex/bits.errFlag", Rows.laid_annex_bits_errFlag), ("annex/bits.errLong", Rows.laid_annex_bits_errLong), ("annex/bits.errPad", Rows.laid_annex_bits_errPad)]
abbrev laidB {H : Type} : List (String × DataW H) := [("annex/bits.errShort", Rows.laid_annex_bits_errShort), ("annex/bits.errWide", Rows.laid_annex_bits_errWide), ("annex/bits.errFlag", Rows.laid_annex_bits_errFlag), ("annex/bits.errLong", Rows.laid_annex_bits_errLong), ("annex/bits.errPad", Rows.laid_annex_bits_errPad)]
theorem laid_metB {W : World} (h : laidMetH Tryz.prog laidA W) : laidMet Tryz.prog laidB W := h.1

theorem star : "*" ++ "errors.errorString" = "*errors.errorString" := by decide
theorem row96 (u : TypeId) (h : Tryz.prog.typeName? 3 u = some "*errors.errorString") : u = 256 :=
  typeName_ptr_named (nm := "errors.errorString") (by rw [star]; kernel_rfl) (by kernel_rfl) (by decide) u (by rw [star]; exact h)
theorem cells122 : Tryz.prog.cellsOf 276 = 1 := by kernel_rfl
theorem cells9 : Tryz.prog.cellsOf 9 = 1 := by kernel_rfl
theorem gN0 : Tryz.prog.globalNamed "annex/bits.errShort" = some 2 := by kernel_rfl
theorem gT0 : (Tryz.prog.globals[2]?).map (·.type) = some 145 := by kernel_rfl
theorem gN1 : Tryz.prog.globalNamed "annex/bits.errWide" = some 1 := by kernel_rfl
theorem gT1 : (Tryz.prog.globals[1]?).map (·.type) = some 145 := by kernel_rfl
theorem gN2 : Tryz.prog.globalNamed "annex/bits.errFlag" = some 3 := by kernel_rfl
theorem gT2 : (Tryz.prog.globals[3]?).map (·.type) = some 145 := by kernel_rfl
theorem gN3 : Tryz.prog.globalNamed "annex/bits.errLong" = some 4 := by kernel_rfl
theorem gT3 : (Tryz.prog.globals[4]?).map (·.type) = some 145 := by kernel_rfl
theorem gN4 : Tryz.prog.globalNamed "annex/bits.errPad" = some 5 := by kernel_rfl
theorem gT4 : (Tryz.prog.globals[5]?).map (·.type) = some 145 := by kernel_rfl

/-- The five errors' addresses, by the variables' numbers. -/
def erOf (a0 a1 a2 a3 a4 : Addr) : Nat → Addr
  | 4 => a0 | 1 => a1 | 0 => a2 | 2 => a3 | _ => a4

theorem errs_of_laid {W : World} (h : laidMetH Tryz.prog laidA W) : ∃ er, Errs W er := by
  have h := laid_metB h
  obtain ⟨ps, ⟨g0, t0, cs0, f0, p0, q0, hg0, ht0, hv0, hd0, ⟨g1, t1, cs1, f1, p1, q1, hg1, ht1, hv1, hd1, ⟨g2, t2, cs2, f2, p2, q2, hg2, ht2, hv2, hd2, ⟨g3, t3, cs3, f3, p3, q3, hg3, ht3, hv3, hd3, ⟨g4, t4, cs4, f4, p4, q4, hg4, ht4, hv4, hd4, _, e4⟩, e3⟩, e2⟩, e1⟩, e0⟩, hnd, hrows⟩ := h
  obtain rfl := Option.some.inj (gN0.symm.trans hg0)
  obtain rfl := Option.some.inj (gT0.symm.trans ht0)
  obtain rfl := Option.some.inj (gN1.symm.trans hg1)
  obtain rfl := Option.some.inj (gT1.symm.trans ht1)
  obtain rfl := Option.some.inj (gN2.symm.trans hg2)
  obtain rfl := Option.some.inj (gT2.symm.trans ht2)
  obtain rfl := Option.some.inj (gN3.symm.trans hg3)
  obtain rfl := Option.some.inj (gT3.symm.trans ht3)
  obtain rfl := Option.some.inj (gN4.symm.trans hg4)
  obtain rfl := Option.some.inj (gT4.symm.trans ht4)
  subst e4; subst e3; subst e2; subst e1; subst e0
  obtain ⟨l0⟩ := cs0
  obtain ⟨l1⟩ := cs1
  obtain ⟨l2⟩ := cs2
  obtain ⟨l3⟩ := cs3
  obtain ⟨l4⟩ := cs4
  have ok0 : ∀ u v, l0 = [.iface u v] → Value.okWide Tryz.prog W .any 0 u v := fun u v e => by
    subst e
    exact (hrows 2 0 (by simp [MemPlace.row])).2 u v (by simpa using World.var?_cell hg0 hv0 0)
  have ok1 : ∀ u v, l1 = [.iface u v] → Value.okWide Tryz.prog W .any 0 u v := fun u v e => by
    subst e
    exact (hrows 1 0 (by simp [MemPlace.row])).2 u v (by simpa using World.var?_cell hg1 hv1 0)
  have ok2 : ∀ u v, l2 = [.iface u v] → Value.okWide Tryz.prog W .any 0 u v := fun u v e => by
    subst e
    exact (hrows 3 0 (by simp [MemPlace.row])).2 u v (by simpa using World.var?_cell hg2 hv2 0)
  have ok3 : ∀ u v, l3 = [.iface u v] → Value.okWide Tryz.prog W .any 0 u v := fun u v e => by
    subst e
    exact (hrows 4 0 (by simp [MemPlace.row])).2 u v (by simpa using World.var?_cell hg3 hv3 0)
  have ok4 : ∀ u v, l4 = [.iface u v] → Value.okWide Tryz.prog W .any 0 u v := fun u v e => by
    subst e
    exact (hrows 5 0 (by simp [MemPlace.row])).2 u v (by simpa using World.var?_cell hg4 hv4 0)
  obtain ⟨a0, s0, rfl, hc0, _, _, rfl⟩ := errorString_of_trod Tryz.underlying145 row96 Tryz.underlying256 Tryz.underlying276 rfl rfl Tryz.underlying9 cells122 cells9 hd0 ok0
  obtain ⟨a1, s1, rfl, hc1, _, _, rfl⟩ := errorString_of_trod Tryz.underlying145 row96 Tryz.underlying256 Tryz.underlying276 rfl rfl Tryz.underlying9 cells122 cells9 hd1 ok1
  obtain ⟨a2, s2, rfl, hc2, _, _, rfl⟩ := errorString_of_trod Tryz.underlying145 row96 Tryz.underlying256 Tryz.underlying276 rfl rfl Tryz.underlying9 cells122 cells9 hd2 ok2
  obtain ⟨a3, s3, rfl, hc3, _, _, rfl⟩ := errorString_of_trod Tryz.underlying145 row96 Tryz.underlying256 Tryz.underlying276 rfl rfl Tryz.underlying9 cells122 cells9 hd3 ok3
  obtain ⟨a4, s4, rfl, hc4, _, _, rfl⟩ := errorString_of_trod Tryz.underlying145 row96 Tryz.underlying256 Tryz.underlying276 rfl rfl Tryz.underlying9 cells122 cells9 hd4 ok4
  obtain ⟨c0, u0, hb0⟩ := (hrows a0.block a0.off (by simp [MemPlace.row])).1
  obtain ⟨c1, u1, hb1⟩ := (hrows a1.block a1.off (by simp [MemPlace.row])).1
  obtain ⟨c2, u2, hb2⟩ := (hrows a2.block a2.off (by simp [MemPlace.row])).1
  obtain ⟨c3, u3, hb3⟩ := (hrows a3.block a3.off (by simp [MemPlace.row])).1
  obtain ⟨c4, u4, hb4⟩ := (hrows a4.block a4.off (by simp [MemPlace.row])).1
  have w0 := by simpa using World.var?_cell hg0 hv0 0
  have w1 := by simpa using World.var?_cell hg1 hv1 0
  have w2 := by simpa using World.var?_cell hg2 hv2 0
  have w3 := by simpa using World.var?_cell hg3 hv3 0
  have w4 := by simpa using World.var?_cell hg4 hv4 0
  have n01 : a0 ≠ a1 := by rintro rfl; simp [MemPlace.row] at hnd
  have n02 : a0 ≠ a2 := by rintro rfl; simp [MemPlace.row] at hnd
  have n03 : a0 ≠ a3 := by rintro rfl; simp [MemPlace.row] at hnd
  have n04 : a0 ≠ a4 := by rintro rfl; simp [MemPlace.row] at hnd
  have n12 : a1 ≠ a2 := by rintro rfl; simp [MemPlace.row] at hnd
  have n13 : a1 ≠ a3 := by rintro rfl; simp [MemPlace.row] at hnd
  have n14 : a1 ≠ a4 := by rintro rfl; simp [MemPlace.row] at hnd
  have n23 : a2 ≠ a3 := by rintro rfl; simp [MemPlace.row] at hnd
  have n24 : a2 ≠ a4 := by rintro rfl; simp [MemPlace.row] at hnd
  have n34 : a3 ≠ a4 := by rintro rfl; simp [MemPlace.row] at hnd
  refine ⟨erOf a0 a1 a2 a3 a4, ?_, ?_, ?_⟩
  · intro i hi
    match i, hi with
    | 0, _ => exact w2
    | 1, _ => exact w1
    | 2, _ => exact w3
    | 3, _ => exact w4
    | 4, _ => exact w0
  · intro i hi
    match i, hi with
    | 0, _ => exact ⟨_, _, hb2⟩
    | 1, _ => exact ⟨_, _, hb1⟩
    | 2, _ => exact ⟨_, _, hb3⟩
    | 3, _ => exact ⟨_, _, hb4⟩
    | 4, _ => exact ⟨_, _, hb0⟩
  · intro i j hi hj hne
    match i, hi, j, hj with
    | 0, _, 0, _ => exact absurd rfl hne
    | 0, _, 1, _ => exact n12.symm
    | 0, _, 2, _ => exact n23
    | 0, _, 3, _ => exact n24
    | 0, _, 4, _ => exact n02.symm
    | 1, _, 0, _ => exact n12
    | 1, _, 1, _ => exact absurd rfl hne
    | 1, _, 2, _ => exact n13
    | 1, _, 3, _ => exact n14
    | 1, _, 4, _ => exact n01.symm
    | 2, _, 0, _ => exact n23.symm
    | 2, _, 1, _ => exact n13.symm
    | 2, _, 2, _ => exact absurd rfl hne
    | 2, _, 3, _ => exact n34
    | 2, _, 4, _ => exact n03.symm
    | 3, _, 0, _ => exact n24.symm
    | 3, _, 1, _ => exact n14.symm
    | 3, _, 2, _ => exact n34.symm
    | 3, _, 3, _ => exact absurd rfl hne
    | 3, _, 4, _ => exact n04.symm
    | 4, _, 0, _ => exact n02
    | 4, _, 1, _ => exact n01
    | 4, _, 2, _ => exact n03
    | 4, _, 3, _ => exact n04
    | 4, _, 4, _ => exact absurd rfl hne
end Go.Proofs.YtnmdnglbpkpfdaaGreatDoor

/- The witness's world; what the rows ask besides. -/
namespace Go.Proofs.YtnmdnglbpkpfdaaGreatDoor
open Go.ChangeShapes Go.WideShapes Go.ChangeAt Go.RowKit
set_option maxRecDepth 100000
theorem own : ownKnob Tryz.prog.godebug = none := by kernel_rfl
theorem laidOut : laidOutB Tryz.prog = true := by kernel_rfl
theorem door_met (os : Os) (args : Array Value) : laidMetH Tryz.prog laidA ((World.doorLaid Tryz.prog 400 os).forCall (fun _ _ => 0) ⟨#[], args, []⟩).memory :=
  laidMetH_of_parts3 (fuel := 8) (laidMet_of_run' 8 (by kernel_rfl) (by kernel_rfl)) (by kernel_rfl) (by kernel_rfl)
end Go.Proofs.YtnmdnglbpkpfdaaGreatDoor

/- Plain words on worlds and blocks, which the contracts of the device use. -/
namespace Go.Proofs.YtnmdnglbpkpfdaaGreatDoor
open Go.RowKit
set_option maxRecDepth 100000
/-- The world has grown; of the old blocks only those of F may have turned. -/
structure Turns (F : Nat → Prop) (w w' : World) : Prop where
  os : w'.os = w.os
  tape : w'.tape = w.tape
  output : w'.output = w.output
  size : w.heap.size ≤ w'.heap.size
  block : ∀ i, i < w.heap.size → ¬ F i → w'.heap[i]? = w.heap[i]?

theorem Turns.refl (F : Nat → Prop) (w : World) : Turns F w w := ⟨rfl, rfl, rfl, Nat.le_refl _, fun _ _ _ => rfl⟩
theorem Turns.trans {F G : Nat → Prop} {a b c : World} (h : Turns F a b) (k : Turns G b c) (hG : ∀ i, i < a.heap.size → G i → F i) : Turns F a c :=
  ⟨k.os.trans h.os, k.tape.trans h.tape, k.output.trans h.output, Nat.le_trans h.size k.size, fun i hi hF => (k.block i (Nat.lt_of_lt_of_le hi h.size) (fun g => hF (hG i hi g))).trans (h.block i hi hF)⟩
theorem Turns.mono {F G : Nat → Prop} {a b : World} (h : Turns F a b) (hF : ∀ i, i < a.heap.size → F i → G i) : Turns G a b :=
  ⟨h.os, h.tape, h.output, h.size, fun i hi hG => h.block i hi (fun f => hG (hF i hi f))⟩
theorem Below.turns {w w' : World} (h : Below w.heap.size w w') (F : Nat → Prop) : Turns F w w' := ⟨h.os, h.tape, h.output, h.size, fun i hi _ => h.block i hi⟩
theorem Turns.below {F : Nat → Prop} {B : Nat} {w w' : World} (h : Turns F w w') (hF : ∀ i, F i → B ≤ i) (hB : B ≤ w.heap.size) : Below B w w' :=
  ⟨h.os, h.tape, h.output, h.size, fun i hi => h.block i (Nat.lt_of_lt_of_le hi hB) (fun f => by have := hF i f; omega)⟩
theorem Turns.alloc (F : Nat → Prop) (w : World) (o : Obj) : Turns F w (w.alloc o) := Below.turns ((Below.refl _ w).alloc (Nat.le_refl _) o) F
theorem Turns.drewN (F : Nat → Prop) (w : World) (m : Nat) : Turns F w (w.drewN m) := ⟨rfl, rfl, rfl, Nat.le_refl _, fun _ _ _ => rfl⟩
theorem Turns.setCell {F : Nat → Prop} (w : World) {b : Nat} (o : Nat) (v : Value) (hF : F b) : Turns F w (w.setCell ⟨b, o, none⟩ v) :=
  ⟨rfl, rfl, rfl, by simp [World.setCell], fun i _ hi => Below.heap_setCell _ _ _ _ (fun e => hi (by subst e; exact hF))⟩
theorem Turns.cell (w : World) (b o : Nat) (v : Value) : Turns (fun i => i = b) w (w.setCell ⟨b, o, none⟩ v) := Turns.setCell w o v rfl
theorem Turns.grown {F : Nat → Prop} {w w' : World} {row : Option Nat} (h : w.grownBy w' row) (hF : ∀ b, row = some b → F b) : Turns F w w' :=
  ⟨h.os, h.tape, h.output, h.size, fun i hi hn => h.block i hi (fun e => hn (hF i e.symm))⟩

/-- A row of bytes that fills its block. -/
abbrev bl (bs : List Int) : Obj := .cells (bs.map (Value.int .u8)).toArray 5 (0, 0)
theorem heap_lt {w : World} {g : Nat} {o : Obj} (h : w.heap[g]? = some o) : g < w.heap.size := (Array.getElem?_eq_some_iff.1 h).1
theorem Lies.full {w : World} {g n : Nat} {bs : List Int} (h : w.heap[g]? = some (bl bs)) (hn : bs.length = n) : Lies w (some ⟨g, 0, none⟩) n n bs := by
  refine ⟨hn, Nat.le_refl _, (fun h => by cases h), fun ad had t u hu => ?_⟩
  obtain rfl := Option.some.inj had
  rw [Addr.add_lit, Nat.zero_add]
  simp only [World.cell?, h]
  simpa using hu
theorem Lies.piece {w : World} {g o n c : Nat} {bs : List Int} (h : w.heap[g]? = some (bl bs)) (hn : o + n ≤ bs.length) (hc : n ≤ c) : Lies w (some ⟨g, o, none⟩) n c ((bs.drop o).take n) := by
  refine ⟨by simp; omega, hc, (fun h => by cases h), fun ad had t u hu => ?_⟩
  obtain rfl := Option.some.inj had
  rw [Addr.add_lit]
  simp only [World.cell?, h]
  rw [List.map_take, List.map_drop, List.getElem?_take] at hu
  by_cases ht : t < n
  · rw [if_pos ht, List.getElem?_drop] at hu
    simpa using hu
  · rw [if_neg ht] at hu; cases hu
/-- What is read of blocks that did not turn is as before. -/
theorem Lies.turns {F : Nat → Prop} {w w' : World} {ao : Option Addr} {n c : Nat} {bs : List Int} (h : Lies w ao n c bs) (ht : Turns F w w') (hF : ∀ ad, ao = some ad → ¬ F ad.block) : Lies w' ao n c bs :=
  ⟨h.hlen, h.hle, h.hnone, fun ad had t u hu => by
    have hc := h.hcells ad had t u hu
    have hlt := World.block_lt_of_cell? w _ hc
    rw [add_block] at hlt
    have e := World.cell?_of_block (w := w) (w' := w') (a := ad.add t) (by rw [add_block]; exact ht.block _ hlt (hF ad had))
    exact e.trans hc⟩
theorem own_turns {F : Nat → Prop} {w w' : World} {base e size n : Nat} {v : Value} {xs : List Value} (h : w.ownsRow base e size v n xs) (ht : Turns F w w') (hF : ∀ b, v.ownBlock = some b → ¬ F b) : w'.ownsRow base e size v n xs := by
  refine ⟨h.1, ?_⟩
  rcases h.2 with h2 | ⟨g, cap, cur, hv, hg, hb, r⟩
  · exact Or.inl h2
  · subst hv
    exact Or.inr ⟨g, cap, cur, rfl, hg, (ht.block g (heap_lt hb) (hF g rfl)).trans hb, r⟩
theorem map_turns {H : Type} {F : Nat → Prop} {w w' : World} {P : Program} {k : TypeId} {R : Value → Option (DataW H × List MemPlace)} {b n : Nat} {D : DataW H} (h : w.ownsMap P k R b n D) (ht : Turns F w w') (hF : ¬ F b) : w'.ownsMap P k R b n D := by
  have hlt := h.lt
  obtain ⟨es, clock, hb, r⟩ := h
  exact ⟨es, clock, (ht.block b hlt hF).trans hb, r⟩
end Go.Proofs.YtnmdnglbpkpfdaaGreatDoor

/- What a device holds, in plain mathematics. -/
namespace Go.Proofs.YtnmdnglbpkpfdaaGreatDoor
open Go.RowKit
set_option maxRecDepth 100000
/-- What a device holds: the lasting bytes; what pends; the fuse; whether the power is off. -/
structure DevS where
  last : List Int
  pend : List (Nat × List Int)
  fuse : Nat
  off : Bool
/-- A write is laid over the lasting bytes. -/
def layB (l : List Int) (p : Nat × List Int) : List Int := splice l (512 * p.1) p.2
def layAll (l : List Int) (ps : List (Nat × List Int)) : List Int := ps.foldl layB l
/-- The last write that pends for a block. -/
def newest (ps : List (Nat × List Int)) (b : Nat) : Option (List Int) := (ps.reverse.find? (fun p => p.1 == b)).map (·.2)
/-- What Read tells. -/
def rdB (S : DevS) (b : Nat) : List Int := (newest S.pend b).getD ((S.last.drop (512 * b)).take 512)
/-- A Write or a Flush is counted. -/
def burnt (S : DevS) : DevS := if S.fuse = 0 then S else { S with fuse := S.fuse - 1, off := S.off || decide (S.fuse = 1) }
def wrote (S : DevS) (b : Nat) (d : List Int) : DevS := { S with pend := S.pend ++ [(b, d)] }
def flushed (S : DevS) : DevS := { S with last := layAll S.last S.pend, pend := [] }
/-- The survivors. -/
def kept : List (Nat × List Int) → List Bool → List (Nat × List Int)
  | p :: ps, k :: ks => if k then p :: kept ps ks else kept ps ks
  | _, _ => []
def crashed (S : DevS) (ks : List Bool) : DevS := { last := layAll S.last (kept S.pend ks), pend := [], fuse := 0, off := false }
/-- A new device. -/
def fresh (bs : List Int) : DevS := { last := bs, pend := [], fuse := 0, off := false }

/-- A device that can be. -/
structure Good (S : DevS) (k : Nat) : Prop where
  len : S.last.length = 512 * k
  pos : 1 ≤ k
  top : k ≤ 4096
  by_ : ∀ x ∈ S.last, 0 ≤ x ∧ x ≤ 255
  pend : ∀ p ∈ S.pend, p.1 < k ∧ p.2.length = 512 ∧ ∀ x ∈ p.2, 0 ≤ x ∧ x ≤ 255
  fuse : S.fuse ≤ 9223372036854775807

theorem lay_len {l : List Int} {p : Nat × List Int} {k : Nat} (hl : l.length = 512 * k) (hp : p.1 < k) (hd : p.2.length = 512) : (layB l p).length = 512 * k := by
  unfold layB
  rw [length_splice _ _ _ (by omega), hl]
theorem splice_mem {l d : List Int} {o : Nat} {x : Int} (h : x ∈ splice l o d) : x ∈ l ∨ x ∈ d := by
  unfold splice at h
  simp only [List.mem_append] at h
  rcases h with h | h | h
  · exact Or.inl (List.mem_of_mem_take h)
  · exact Or.inr h
  · exact Or.inl (List.mem_of_mem_drop h)
theorem layAll_good {k : Nat} : ∀ (ps : List (Nat × List Int)) (l : List Int), l.length = 512 * k → (∀ x ∈ l, 0 ≤ x ∧ x ≤ 255) → (∀ p ∈ ps, p.1 < k ∧ p.2.length = 512 ∧ ∀ x ∈ p.2, 0 ≤ x ∧ x ≤ 255) → (layAll l ps).length = 512 * k ∧ ∀ x ∈ layAll l ps, 0 ≤ x ∧ x ≤ 255
  | [], l, h1, h2, _ => ⟨h1, h2⟩
  | p :: ps, l, h1, h2, h3 => by
    have hp := h3 p (by simp)
    refine layAll_good ps (layB l p) (lay_len h1 hp.1 hp.2.1) (fun x hx => ?_) (fun q hq => h3 q (by simp [hq]))
    rcases splice_mem hx with h | h
    · exact h2 x h
    · exact hp.2.2 x h
theorem kept_mem : ∀ {ps : List (Nat × List Int)} {ks : List Bool} {p : Nat × List Int}, p ∈ kept ps ks → p ∈ ps
  | [], _, p, h => by cases h
  | q :: ps, [], p, h => by cases h
  | q :: ps, k :: ks, p, h => by
    unfold kept at h
    split at h
    · rcases List.mem_cons.1 h with rfl | h
      · simp
      · exact List.mem_cons_of_mem _ (kept_mem h)
    · exact List.mem_cons_of_mem _ (kept_mem h)
theorem Good.fresh {bs : List Int} {k : Nat} (hl : bs.length = 512 * k) (h1 : 1 ≤ k) (h2 : k ≤ 4096) (hb : ∀ x ∈ bs, 0 ≤ x ∧ x ≤ 255) : Good (fresh bs) k :=
  ⟨hl, h1, h2, hb, (fun p hp => by cases hp), Nat.zero_le _⟩
theorem Good.burnt {S : DevS} {k : Nat} (h : Good S k) : Good (burnt S) k := by
  unfold Go.Proofs.YtnmdnglbpkpfdaaGreatDoor.burnt
  split
  · exact h
  · exact ⟨h.len, h.pos, h.top, h.by_, h.pend, by have := h.fuse; simp; omega⟩
theorem Good.wrote {S : DevS} {k : Nat} (h : Good S k) {b : Nat} {d : List Int} (hb : b < k) (hd : d.length = 512) (hy : ∀ x ∈ d, 0 ≤ x ∧ x ≤ 255) : Good (wrote S b d) k :=
  ⟨h.len, h.pos, h.top, h.by_, fun p hp => by
    rcases List.mem_append.1 hp with hp | hp
    · exact h.pend p hp
    · obtain rfl := List.mem_singleton.1 hp; exact ⟨hb, hd, hy⟩, h.fuse⟩
theorem Good.flushed {S : DevS} {k : Nat} (h : Good S k) : Good (flushed S) k := by
  obtain ⟨a, b⟩ := layAll_good S.pend S.last h.len h.by_ h.pend
  exact ⟨a, h.pos, h.top, b, (fun p hp => by cases hp), h.fuse⟩
theorem Good.crashed {S : DevS} {k : Nat} (h : Good S k) (ks : List Bool) : Good (crashed S ks) k := by
  obtain ⟨a, b⟩ := layAll_good (kept S.pend ks) S.last h.len h.by_ (fun p hp => h.pend p (kept_mem hp))
  exact ⟨a, h.pos, h.top, b, (fun p hp => by cases hp), Nat.zero_le _⟩
theorem newest_snoc (ps : List (Nat × List Int)) (b : Nat) (d : List Int) (x : Nat) : newest (ps ++ [(b, d)]) x = if b = x then some d else newest ps x := by
  unfold newest
  rw [List.reverse_append]
  by_cases h : b = x
  · simp [h]
  · simp [h]
end Go.Proofs.YtnmdnglbpkpfdaaGreatDoor

/- A device in memory. -/
namespace Go.Proofs.YtnmdnglbpkpfdaaGreatDoor
open Go.RowKit
set_option maxRecDepth 100000
/-- The slice of a block's bytes. -/
abbrev hv (g : Nat) : Value := .slice (some ⟨g, 0, none⟩) 512 512
/-- The cells of the writes that pend. -/
def pc : List (Nat × List Int) → List Nat → List Value
  | p :: ps, g :: gs => .int .i64 p.1 :: hv g :: pc ps gs
  | _, _ => []
theorem pc_snoc : ∀ (ps : List (Nat × List Int)) (gs : List Nat) (b : Nat) (d : List Int) (g : Nat), gs.length = ps.length → pc (ps ++ [(b, d)]) (gs ++ [g]) = pc ps gs ++ [.int .i64 b, hv g]
  | [], [], _, _, _, _ => rfl
  | [], g :: gs, _, _, _, h => by cases h
  | p :: ps, [], _, _, _, h => by cases h
  | p :: ps, g :: gs, b, d, g', h => by
    have := pc_snoc ps gs b d g' (by simpa using h)
    simp [pc, this]
theorem pc_at : ∀ (ps : List (Nat × List Int)) (gs : List Nat) (i : Nat) (p : Nat × List Int) (g : Nat), ps[i]? = some p → gs[i]? = some g → (pc ps gs)[i * 2]? = some (.int .i64 p.1) ∧ (pc ps gs)[i * 2 + 1]? = some (hv g)
  | [], _, _, _, _, h, _ => by simp at h
  | p :: ps, [], _, _, _, _, h => by simp at h
  | p :: ps, g :: gs, 0, _, _, h1, h2 => by
    simp at h1 h2; subst h1; subst h2
    simp [pc]
  | p :: ps, g :: gs, i + 1, p', g', h1, h2 => by
    have := pc_at ps gs i p' g' (by simpa using h1) (by simpa using h2)
    rw [show (i + 1) * 2 = i * 2 + 1 + 1 by omega]
    simpa [pc] using this
/-- The block of the last write that pends for a block. -/
def newestG (ps : List (Nat × List Int)) (gs : List Nat) (b : Nat) : Option Nat := ((ps.zip gs).reverse.find? (fun t => t.1.1 == b)).map (·.2)
theorem newestG_snoc (ps : List (Nat × List Int)) (gs : List Nat) (b : Nat) (d : List Int) (g x : Nat) (h : gs.length = ps.length) : newestG (ps ++ [(b, d)]) (gs ++ [g]) x = if b = x then some g else newestG ps gs x := by
  unfold newestG
  rw [List.zip_append h.symm, List.reverse_append]
  by_cases e : b = x
  · simp [e]
  · simp [e]
/-- A map's element is held as it is. -/
abbrev RV (v : Value) : Option (DataW Value × List MemPlace) := some (.held v, [])

/-- A device in memory, with all its parts. -/
structure DevX (w : World) (db : Nat) (st : Int) (S : DevS) (k N gl bm : Nat) (q : Int) (pv : Value) (gs : List Nat) (Dm : DataW Value) : Prop where
  good : Good S k
  blk : w.heap[db]? = some (.cells #[.int .i32 st, .int .u32 q, .slice (some ⟨gl, 0, none⟩) (512 * k) (512 * k), pv, .map (some bm), .int .i64 S.fuse, .bool S.off] 118 (0, 0))
  lst : w.heap[gl]? = some (bl S.last)
  row : w.ownsRow 0 120 2 pv S.pend.length (pc S.pend gs)
  gsl : gs.length = S.pend.length
  pn : S.pend.length ≤ N
  dat : ∀ (i : Nat) p g, S.pend[i]? = some p → gs[i]? = some g → w.heap[g]? = some (bl p.2)
  map : w.ownsMap Tryz.prog 3 RV bm N Dm
  at_ : ∀ b : Nat, b < 4096 → Maps.has Dm (.int .i64 b) = (newestG S.pend gs b).isSome ∧ ∀ zd, Dm.atKey (.int .i64 b) zd = ((newestG S.pend gs b).map (fun g => DataW.held (hv g))).getD zd
  a1 : db ≠ gl
  a2 : db ∉ gs
  a3 : gl ∉ gs
  a4 : pv.ownBlock ≠ some db
  a5 : pv.ownBlock ≠ some gl
  a6 : ∀ g ∈ gs, pv.ownBlock ≠ some g
/-- All blocks of a device. -/
structure Foot (F : Nat → Prop) (db gl bm : Nat) (pv : Value) (gs : List Nat) : Prop where
  f1 : F db
  f2 : F gl
  f3 : F bm
  f4 : ∀ b, pv.ownBlock = some b → F b
  f5 : ∀ g ∈ gs, F g
/-- A device in memory: its lock's state, what it holds, how many blocks; at most N entries of its map; its blocks lie in F. -/
def Dev (w : World) (db : Nat) (st : Int) (S : DevS) (k N : Nat) (F : Nat → Prop) : Prop := ∃ gl bm q pv gs Dm, DevX w db st S k N gl bm q pv gs Dm ∧ Foot F db gl bm pv gs ∧ ∀ i, F i → i < w.heap.size
/-- The old blocks, and all that are new. -/
def grow (F : Nat → Prop) (w w' : World) : Nat → Prop := fun i => F i ∨ (w.heap.size ≤ i ∧ i < w'.heap.size)
theorem grow_old {F : Nat → Prop} {w w' : World} : ∀ i, i < w.heap.size → grow F w w' i → F i := fun i hi h => h.elim id (fun h => by omega)

theorem dat_turns {F : Nat → Prop} {w w' : World} {ps : List (Nat × List Int)} {gs : List Nat} (h : ∀ (i : Nat) p g, ps[i]? = some p → gs[i]? = some g → w.heap[g]? = some (bl p.2)) (ht : Turns F w w') (hF : ∀ g ∈ gs, ¬ F g) :
    ∀ (i : Nat) p g, ps[i]? = some p → gs[i]? = some g → w'.heap[g]? = some (bl p.2) := fun i p g h1 h2 => by
  have hb := h i p g h1 h2
  exact (ht.block g (heap_lt hb) (hF g (List.mem_of_getElem? h2))).trans hb
theorem DevX.turns {G : Nat → Prop} {w w' : World} {db : Nat} {st : Int} {S : DevS} {k N gl bm : Nat} {q : Int} {pv : Value} {gs : List Nat} {Dm : DataW Value} (h : DevX w db st S k N gl bm q pv gs Dm) (ht : Turns G w w')
    (h1 : ¬ G db) (h2 : ¬ G gl) (h3 : ¬ G bm) (h4 : ∀ b, pv.ownBlock = some b → ¬ G b) (h5 : ∀ g ∈ gs, ¬ G g) : DevX w' db st S k N gl bm q pv gs Dm :=
  { h with
    blk := (ht.block db (heap_lt h.blk) h1).trans h.blk
    lst := (ht.block gl (heap_lt h.lst) h2).trans h.lst
    row := own_turns h.row ht h4
    dat := dat_turns h.dat ht h5
    map := map_turns h.map ht h3 }
theorem Dev.turns {F G : Nat → Prop} {w w' : World} {db : Nat} {st : Int} {S : DevS} {k N : Nat} (h : Dev w db st S k N F) (ht : Turns G w w') (hG : ∀ i, F i → ¬ G i) : Dev w' db st S k N F := by
  obtain ⟨gl, bm, q, pv, gs, Dm, h, f, hl⟩ := h
  exact ⟨gl, bm, q, pv, gs, Dm, h.turns ht (hG _ f.f1) (hG _ f.f2) (hG _ f.f3) (fun b hb => hG _ (f.f4 b hb)) (fun g hg => hG _ (f.f5 g hg)), f, fun i hi => Nat.lt_of_lt_of_le (hl i hi) ht.size⟩
theorem Dev.below {F : Nat → Prop} {w w' : World} {db : Nat} {st : Int} {S : DevS} {k N : Nat} (h : Dev w db st S k N F) (hb : Below w.heap.size w w') : Dev w' db st S k N F :=
  h.turns (Below.turns hb (fun _ => False)) (fun _ _ => id)
theorem Dev.foot {F G : Nat → Prop} {w : World} {db : Nat} {st : Int} {S : DevS} {k N : Nat} (h : Dev w db st S k N F) (hG : ∀ i, F i → G i) (hl : ∀ i, G i → i < w.heap.size) : Dev w db st S k N G := by
  obtain ⟨gl, bm, q, pv, gs, Dm, h, f, _⟩ := h
  exact ⟨gl, bm, q, pv, gs, Dm, h, ⟨hG _ f.f1, hG _ f.f2, hG _ f.f3, fun b hb => hG _ (f.f4 b hb), fun g hg => hG _ (f.f5 g hg)⟩, hl⟩
theorem Dev.lt {F : Nat → Prop} {w : World} {db : Nat} {st : Int} {S : DevS} {k N : Nat} (h : Dev w db st S k N F) : ∀ i, F i → i < w.heap.size := by
  obtain ⟨gl, bm, q, pv, gs, Dm, h, f, hl⟩ := h
  exact hl
theorem Dev.good {F : Nat → Prop} {w : World} {db : Nat} {st : Int} {S : DevS} {k N : Nat} (h : Dev w db st S k N F) : Good S k := by
  obtain ⟨gl, bm, q, pv, gs, Dm, h, f, hl⟩ := h
  exact h.good
theorem DevX.mdb {w : World} {db : Nat} {st : Int} {S : DevS} {k N gl bm : Nat} {q : Int} {pv : Value} {gs : List Nat} {Dm : DataW Value} (h : DevX w db st S k N gl bm q pv gs Dm) : bm ≠ db := fun e => by
  obtain ⟨es, cl, hb, _⟩ := h.map
  rw [e, h.blk] at hb; cases hb
theorem DevX.mgl {w : World} {db : Nat} {st : Int} {S : DevS} {k N gl bm : Nat} {q : Int} {pv : Value} {gs : List Nat} {Dm : DataW Value} (h : DevX w db st S k N gl bm q pv gs Dm) : bm ≠ gl := fun e => by
  obtain ⟨es, cl, hb, _⟩ := h.map
  rw [e, h.lst] at hb; cases hb
theorem DevX.mgs {w : World} {db : Nat} {st : Int} {S : DevS} {k N gl bm : Nat} {q : Int} {pv : Value} {gs : List Nat} {Dm : DataW Value} (h : DevX w db st S k N gl bm q pv gs Dm) : bm ∉ gs := fun e => by
  obtain ⟨i, hi⟩ := List.mem_iff_getElem?.1 e
  have hlt : i < S.pend.length := by rw [← h.gsl]; exact (List.getElem?_eq_some_iff.1 hi).1
  obtain ⟨es, cl, hb, _⟩ := h.map
  rw [h.dat i _ _ (List.getElem?_eq_getElem hlt) hi] at hb; cases hb
theorem DevX.mpv {w : World} {db : Nat} {st : Int} {S : DevS} {k N gl bm : Nat} {q : Int} {pv : Value} {gs : List Nat} {Dm : DataW Value} (h : DevX w db st S k N gl bm q pv gs Dm) : pv.ownBlock ≠ some bm := fun e => by
  obtain ⟨es, cl, hb, _⟩ := h.map
  rcases h.row.2 with ⟨hv, _⟩ | ⟨g, cap, cur, hv, _, hg, _⟩
  · subst hv; cases e
  · subst hv
    obtain rfl : g = bm := by simpa [Value.ownBlock] using e
    rw [hg] at hb; cases hb

/-- One cell of the device's own block is written. -/
theorem DevX.db {w : World} {db : Nat} {st st' : Int} {S S' : DevS} {k N gl bm : Nat} {q : Int} {pv : Value} {gs : List Nat} {Dm : DataW Value} (h : DevX w db st S k N gl bm q pv gs Dm) (j : Nat) (v : Value)
    (hS : S'.last = S.last ∧ S'.pend = S.pend ∧ S'.fuse ≤ 9223372036854775807)
    (hb : (#[.int .i32 st, .int .u32 q, .slice (some ⟨gl, 0, none⟩) (512 * k) (512 * k), pv, .map (some bm), .int .i64 S.fuse, .bool S.off] : Array Value).setIfInBounds j v = #[.int .i32 st', .int .u32 q, .slice (some ⟨gl, 0, none⟩) (512 * k) (512 * k), pv, .map (some bm), .int .i64 S'.fuse, .bool S'.off]) :
    DevX (w.setCell ⟨db, j, none⟩ v) db st' S' k N gl bm q pv gs Dm := by
  have ht : Turns (fun i => i = db) w (w.setCell ⟨db, j, none⟩ v) := Turns.setCell w j v rfl
  have hx := h.turns (G := fun i => i = db) (w' := w.setCell ⟨db, j, none⟩ v)
  obtain ⟨e1, e2, e3⟩ := hS
  refine ⟨⟨by rw [e1]; exact h.good.len, h.good.pos, h.good.top, by rw [e1]; exact h.good.by_, by rw [e2]; exact h.good.pend, e3⟩, ?_, ?_, ?_, by rw [e2]; exact h.gsl, by rw [e2]; exact h.pn, ?_, ?_, by rw [e2]; exact h.at_, h.a1, h.a2, h.a3, h.a4, h.a5, h.a6⟩
  · rw [heap_setCell_same _ _ _ _ _ _ h.blk, hb]
  · rw [e1]; exact (ht.block gl (heap_lt h.lst) (fun e => h.a1 e.symm)).trans h.lst
  · rw [e2]; exact own_turns h.row ht (fun b hb e => h.a4 (by rw [hb, e]))
  · rw [e2]; exact dat_turns h.dat ht (fun g hg e => h.a2 (by rw [← e]; exact hg))
  · exact map_turns h.map ht h.mdb
/-- The cells of the device's own block. -/
theorem DevX.cells {w : World} {db : Nat} {st : Int} {S : DevS} {k N gl bm : Nat} {q : Int} {pv : Value} {gs : List Nat} {Dm : DataW Value} (h : DevX w db st S k N gl bm q pv gs Dm) :
    w.cell? ⟨db, 0, none⟩ = some (.int .i32 st) ∧ w.cell? ⟨db, 2, none⟩ = some (.slice (some ⟨gl, 0, none⟩) (512 * k) (512 * k)) ∧ w.cell? ⟨db, 3, none⟩ = some pv ∧ w.cell? ⟨db, 4, none⟩ = some (.map (some bm)) ∧ w.cell? ⟨db, 5, none⟩ = some (.int .i64 S.fuse) ∧ w.cell? ⟨db, 6, none⟩ = some (.bool S.off) ∧ ∀ j, w.frozen? ⟨db, j, none⟩ = false := by
  refine ⟨?_, ?_, ?_, ?_, ?_, ?_, fun j => ?_⟩ <;> simp [World.cell?, World.frozen?, h.blk]
end Go.Proofs.YtnmdnglbpkpfdaaGreatDoor

/- The numbers under which this dump holds sync.Mutex's functions and types, and that it holds them. -/
namespace Go.Proofs.YtnmdnglbpkpfdaaGreatDoor
abbrev muLink : Go.Conc.Locks.MuLink := { lock := 55, unlock := 56, ilock := 96, iunlock := 97, lockSlow := 122, unlockSlow := 125, disable := 118, enable := 120, acquire := 121, relMerge := 123, cas32 := 119, add32 := 124, tMutex := 116, tIMutex := 114, tPMutex := 159, tPIMutex := 178, tPI32 := 180, tUP := 182, tNoCopy := 111, tU32 := 112 }
theorem muLib : Go.Conc.Locks.MuLib Tryz.prog muLink :=
  ⟨Tryz.func55, Tryz.func56, Tryz.func96, Tryz.func97, Tryz.func118, Tryz.func120, Tryz.func121, Tryz.func123, Tryz.func119, Tryz.func124, Tryz.underlying114, Tryz.runUnderlying114, Tryz.sizeOf114, Tryz.isAgg114, Tryz.zeroValue114, Tryz.underlying116, Tryz.runUnderlying116, Tryz.sizeOf116, Tryz.isAgg116, Tryz.zeroValue116, Tryz.underlying159, Tryz.runUnderlying159, Tryz.sizeOf159, Tryz.isAgg159, Tryz.zeroValue159, Tryz.underlying178, Tryz.runUnderlying178, Tryz.sizeOf178, Tryz.isAgg178, Tryz.zeroValue178, Tryz.underlying180, Tryz.runUnderlying180, Tryz.sizeOf180, Tryz.isAgg180, Tryz.zeroValue180, Tryz.underlying182, Tryz.runUnderlying182, Tryz.sizeOf182, Tryz.isAgg182, Tryz.zeroValue182, Tryz.underlying111, Tryz.runUnderlying111, Tryz.sizeOf111, Tryz.isAgg111, Tryz.zeroValue111, Tryz.underlying21, Tryz.runUnderlying21, Tryz.sizeOf21, Tryz.isAgg21, Tryz.zeroValue21, (by kernel_rfl)⟩
end Go.Proofs.YtnmdnglbpkpfdaaGreatDoor
