/- Plain words on worlds, bytes and numbers, which the contracts below use. -/
import Derived.Test.YtlcjkbhcbiggcaaGreatDoorChecked
import Derived.WalkKit
import Derived.WalkSpells
import Derived.WalkLawsBesides
import Derived.BigQuiet
import Derived.Deep.QuietTactic
import Derived.OpenShut
import Derived.Test.YtlcjkbhcbiggcaaGreatDoorRows
import Derived.Stop.LaidTwo
import Derived.LaidMore
import Derived.ProofKit
import Derived.Test.YtlcjkbhcbiggcaaGreatDoorCards
import Derived.Test.YtlcjkbhcbiggcaaGreatDoorTie
import Derived.SizedLaws
import Derived.Stop.Joined
import Derived.SevenTiedAt
import Derived.Deep.DeepHandedRow
import Derived.Deep.DeepWitnessRowRef
import Derived.Laws.ResultCell
import Derived.Deep.RegionHeld3
import Derived.Laws.IdiomCopy
import Derived.Deep.WholeRow
import Derived.Laws.OwnMore
import Derived.Laws.CopyOwn
import Derived.Maps.OwnSet
import Derived.Maps.Views
import Derived.Maps.AppendAt
import Derived.OwnWalk
namespace Go.Proofs.YtlcjkbhcbiggcaaGreatDoor
open Go.RowKit
set_option maxRecDepth 100000

theorem Tryz.info5 : (Tryz.prog.info? 5).map (fun i => (i.zero, i.size, i.bytes)) = some (some (.int .u8 0), 1, 1) := by kernel_rfl

/-- A number's digits to the base 256, the greatest first. -/
def be (X : Int) : Nat → List Int
  | 0 => []
  | k + 1 => (X / 2 ^ (8 * k) % 256) :: be X k
theorem be_length (X : Int) (k : Nat) : (be X k).length = k := by
  induction k with
  | zero => rfl
  | succ k ih => simp [be, ih]

theorem grown_trans {a b c : World} {row : Option Nat} (h : a.grownBy b row) (k : b.grownBy c row) : a.grownBy c row :=
  ⟨k.os.trans h.os, k.tape.trans h.tape, k.output.trans h.output, Nat.le_trans h.size k.size, fun i hi hr => (k.block i (Nat.lt_of_lt_of_le hi h.size) hr).trans (h.block i hi hr)⟩

/-- The slice value '.slice ao len cap' reads as the bytes bs. -/
structure Lies (w : World) (ao : Option Addr) (len cap : Nat) (bs : List Int) : Prop where
  hlen : bs.length = len
  hle : len ≤ cap
  hnone : ao = none → len = 0 ∧ cap = 0
  hcells : ∀ ad, ao = some ad → ∀ t u, (bs.map (Value.int .u8))[t]? = some u → w.cell? (ad.add t) = some u

theorem Lies.below {B : Nat} {w w' : World} {ao : Option Addr} {len cap : Nat} {bs : List Int} (h : Lies w ao len cap bs) (hb : Below B w w') (hB : w.heap.size ≤ B) : Lies w' ao len cap bs :=
  ⟨h.hlen, h.hle, h.hnone, fun ad had t u hu => by
    have hc := h.hcells ad had t u hu
    exact (hb.cell (Nat.lt_of_lt_of_le (World.block_lt_of_cell? w _ hc) hB)).trans hc⟩

theorem add_block (a : Addr) (t : Nat) : (a.add t).block = a.block := by cases a; simp [Addr.add]; try (split <;> rfl)

theorem Lies.grown {w w' : World} {row : Option Nat} {ao : Option Addr} {len cap : Nat} {bs : List Int} (h : Lies w ao len cap bs) (hg : w.grownBy w' row) (hne : ∀ ad, ao = some ad → some ad.block ≠ row) : Lies w' ao len cap bs :=
  ⟨h.hlen, h.hle, h.hnone, fun ad had t u hu => hg.cell (h.hcells ad had t u hu) (by rw [add_block]; exact hne ad had)⟩

/-- A row of the call's own reads as its bytes. -/
theorem Lies.own {w : World} {base g n cap : Nat} {bs : List Int} (h : w.ownsRow base 5 1 (.slice (some ⟨g, 0, Option.none⟩) n cap) n (bs.map (Value.int .u8))) : Lies w (some ⟨g, 0, Option.none⟩) n cap bs := by
  have hl : bs.length = n := by simpa using h.1
  refine ⟨hl, ?_, (fun h => by cases h), fun ad had t u hu => ?_⟩
  · rcases h.2 with ⟨hv, _⟩ | ⟨g', cap', cur, hv, _, _, hnc, _⟩
    · cases hv
    · cases hv; exact hnc
  · obtain rfl := Option.some.inj had
    have ht : t < n := by
      have := (List.getElem?_eq_some_iff.1 hu).1
      simpa [hl] using this
    rw [Addr.add_lit, Nat.zero_add, h.cellAt t (by omega)]
    exact hu
theorem Lies.nil (w : World) : Lies w Option.none 0 0 [] := ⟨rfl, Nat.le_refl _, fun _ => ⟨rfl, rfl⟩, fun _ h => by cases h⟩

theorem ownsRow_mono {w : World} {base base' : Nat} {e : TypeId} {size : Nat} {v : Value} {n : Nat} {xs : List Value} (h : w.ownsRow base e size v n xs) (hb : base' ≤ base) : w.ownsRow base' e size v n xs := by
  obtain ⟨h1, h2⟩ := h
  refine ⟨h1, ?_⟩
  rcases h2 with h2 | ⟨g, cap, cur, hv, hg, r⟩
  · exact Or.inl h2
  · exact Or.inr ⟨g, cap, cur, hv, Nat.le_trans hb hg, r⟩

/-- The n of Go's padding. -/
def padN (n : Nat) : Nat := (4 - n % 4) % 4
end Go.Proofs.YtlcjkbhcbiggcaaGreatDoor

/- annexref.SameBytes by its contract: true just where the two lists are the same. -/
namespace Go.Proofs.YtlcjkbhcbiggcaaGreatDoor
open Go.RowKit
set_option maxRecDepth 100000

/-- The address of a list that is not empty, written out. -/
theorem Lies.at {w : World} {ao : Option Addr} {len cap : Nat} {ys : List Int} (h : Lies w ao len cap ys) (hp : 0 < len) :
    ∃ b o, ao = some ⟨b, o, none⟩ ∧ ∀ t, t < len → w.cell? ⟨b, o + t, none⟩ = some (.int .u8 (ys.getD t 0)) := by
  cases ao with
  | none => have := (h.hnone rfl).1; omega
  | some ad =>
    have hc : ∀ i, i < ys.length → w.cell? (ad.add i) = some (.int .u8 (ys.getD i 0)) := fun i hi => h.hcells ad rfl i _ (by simp [List.getD, hi])
    obtain ⟨b, off, rfl, hj⟩ := ints_at hc (by rw [h.hlen]; exact hp)
    exact ⟨b, off, rfl, fun t ht => hj t (by rw [h.hlen]; exact ht)⟩

theorem ne_of_at {xs ys : List Int} {k : Nat} {h1 : k < xs.length} {h2 : k < ys.length} (h : (xs[k] != ys[k]) = true) : ¬ xs = ys := by
  rintro rfl; simp at h
theorem take_both {xs ys : List Int} {k : Nat} (ht : xs.take k = ys.take k) (h1 : k < xs.length) (h2 : k < ys.length) (h : (xs[k] != ys[k]) = false) : xs.take (k + 1) = ys.take (k + 1) := by
  rw [List.take_succ_eq_append_getElem h1, List.take_succ_eq_append_getElem h2, ht]
  simp at h; rw [h]
end Go.Proofs.YtlcjkbhcbiggcaaGreatDoor

/- A reader in memory, and NewReader by its contract. -/
namespace Go.Proofs.YtlcjkbhcbiggcaaGreatDoor
open Go.RowKit
set_option maxRecDepth 100000

/-- Block rb is a bits.Reader: its bytes bs (n of them, in block g), its place, its error. -/
structure Rdr (w : World) (rb g n cap : Nat) (pl code : Int) (bs : List Int) : Prop where
  blk : w.heap[rb]? = some (.cells #[.slice (some ⟨g, 0, none⟩) n cap, .int .i64 pl, .int .i64 code] 306 (0, 0))
  lies : Lies w (some ⟨g, 0, none⟩) n cap bs
  apart : g ≠ rb
  glt : g < w.heap.size

theorem Rdr.c0 {w : World} {rb g n cap : Nat} {pl code : Int} {bs : List Int} (h : Rdr w rb g n cap pl code bs) : w.cell? ⟨rb, 0, none⟩ = some (.slice (some ⟨g, 0, none⟩) n cap) := by simp [World.cell?, h.blk]
theorem Rdr.c1 {w : World} {rb g n cap : Nat} {pl code : Int} {bs : List Int} (h : Rdr w rb g n cap pl code bs) : w.cell? ⟨rb, 1, none⟩ = some (.int .i64 pl) := by simp [World.cell?, h.blk]
theorem Rdr.c2 {w : World} {rb g n cap : Nat} {pl code : Int} {bs : List Int} (h : Rdr w rb g n cap pl code bs) : w.cell? ⟨rb, 2, none⟩ = some (.int .i64 code) := by simp [World.cell?, h.blk]
theorem Rdr.f {w : World} {rb g n cap : Nat} {pl code : Int} {bs : List Int} (h : Rdr w rb g n cap pl code bs) (o : Nat) : w.frozen? ⟨rb, o, none⟩ = false := by simp [World.frozen?, h.blk]
theorem Rdr.kept {w w' : World} {rb g n cap : Nat} {pl code : Int} {bs : List Int} {row : Option Nat} (h : Rdr w rb g n cap pl code bs) (hg : w.grownBy w' row) (h1 : some rb ≠ row) (h2 : some g ≠ row) : Rdr w' rb g n cap pl code bs :=
  ⟨(hg.block rb (by have := Array.getElem?_eq_some_iff.1 h.blk; exact this.1) h1).trans h.blk, h.lies.grown hg (fun ad had => by obtain rfl := Option.some.inj had; exact h2), h.apart, Nat.lt_of_lt_of_le h.glt hg.size⟩
theorem Rdr.drewN {w : World} {rb g n cap : Nat} {pl code : Int} {bs : List Int} (h : Rdr w rb g n cap pl code bs) (m : Nat) : Rdr (w.drewN m) rb g n cap pl code bs :=
  ⟨h.blk, ⟨h.lies.hlen, h.lies.hle, h.lies.hnone, h.lies.hcells⟩, h.apart, h.glt⟩

set_option maxHeartbeats 400000 in
theorem newReader_any (ao : Option Addr) (len cap : Nat) (bs : List Int) (w : World) (hbd : len ≤ 200000000000000) (hL : Lies w ao len cap bs) :
    Calls Tryz.prog 232 #[.slice ao len cap] w fun e w' => ∃ rb g, e = .returned (.pointer (some ⟨rb, 0, none⟩)) ∧ Rdr w' rb g len len 0 0 bs ∧ w.heap.size ≤ rb ∧ w.heap.size ≤ g ∧ Below w.heap.size w w' := by
  obtain ⟨i0, hi, hz0, hz1, hz2⟩ := info_parts Tryz.info5
  go_enter Tryz.func232, Tryz.ntmps232
  go_wp2_with (first
    | (at_make; refine wpList_make_own _ rfl _ _ 39 rfl w.heap.size 5 i0 (.int .u8 0) 1 Tryz.underlying39 hi hz0 hz1 _ _ _ len rfl rfl (by omega) (by rw [hz2]; omega) (by unfold maxLen; omega) (Nat.le_refl _) ?_; intro w0 hown0 hgrow0)
    | (at_builtin; refine wpList_append_fits_any _ rfl (.tmp 5) (.tmp 6) 39 rfl w.heap.size 5 i0 1 Tryz.underlying39 hi hz1 w.heap.size 0 len _ rfl hown0 _ len _ (bs.map (Value.int .u8)) rfl (by simp [hL.hlen]) hL.hnone (fun ad had t u hu => hgrow0.cell (hL.hcells ad had t u hu) (by simp)) (ints_oneCell _ _) (by omega) ?_; intro w1 hown1 hgrow1; simp only [Nat.zero_add, List.nil_append] at hown1))
  go_ret
  have hlt : w.heap.size < w1.heap.size := (hown1.lt _ rfl).2
  have hb1 : Below w.heap.size w w1 := ((Below.refl _ _).grown hgrow0 (Nat.le_refl _) (fun k h => by cases h)).grown hgrow1 hgrow0.size (fun k hk => by cases hk; exact Nat.le_refl _)
  refine ⟨w1.heap.size, w.heap.size, rfl, ⟨heap_alloc_new _ _, (Lies.own hown1).grown (World.grownBy_alloc _ _ none) (fun _ _ => by simp), by omega, by simp; omega⟩, by omega, Nat.le_refl _, hb1.alloc hb1.size _⟩

/-- Where the variables stand that hold the package's five errors: 0 errFlag, 1 errWide, 2 errLong, 3 errPad, 4 errShort. -/
def gvar : Nat → Nat
  | 0 => 4 | 1 => 2 | 2 => 5 | 3 => 6 | _ => 3
/-- The package's five errors, as the variables hold them. -/
structure Errs (w : World) (er : Nat → Addr) : Prop where
  cell : ∀ i, i < 5 → w.cell? ⟨gvar i, 0, none⟩ = some (.iface 319 (.pointer (some (er i))))
  row : ∀ i, i < 5 → ∃ c t, w.heap[(er i).block]? = some (.cells c t (0, 0))
  ne : ∀ i j, i < 5 → j < 5 → i ≠ j → er i ≠ er j
theorem Errs.c0 {w : World} {er : Nat → Addr} (h : Errs w er) : w.cell? ⟨4, 0, none⟩ = some (.iface 319 (.pointer (some (er 0)))) := h.cell 0 (by decide)
theorem Errs.c1 {w : World} {er : Nat → Addr} (h : Errs w er) : w.cell? ⟨2, 0, none⟩ = some (.iface 319 (.pointer (some (er 1)))) := h.cell 1 (by decide)
theorem Errs.c2 {w : World} {er : Nat → Addr} (h : Errs w er) : w.cell? ⟨5, 0, none⟩ = some (.iface 319 (.pointer (some (er 2)))) := h.cell 2 (by decide)
theorem Errs.c3 {w : World} {er : Nat → Addr} (h : Errs w er) : w.cell? ⟨6, 0, none⟩ = some (.iface 319 (.pointer (some (er 3)))) := h.cell 3 (by decide)
theorem Errs.c4 {w : World} {er : Nat → Addr} (h : Errs w er) : w.cell? ⟨3, 0, none⟩ = some (.iface 319 (.pointer (some (er 4)))) := h.cell 4 (by decide)

theorem Errs.below {B : Nat} {w w' : World} {er : Nat → Addr} (h : Errs w er) (hb : Below B w w') (hB : w.heap.size ≤ B) : Errs w' er := by
  refine ⟨fun i hi => ?_, fun i hi => ?_, h.ne⟩
  · have hc := h.cell i hi
    exact (hb.cell (Nat.lt_of_lt_of_le (World.block_lt_of_cell? w _ hc) hB)).trans hc
  · obtain ⟨c, t, hr⟩ := h.row i hi
    exact ⟨c, t, (hb.block _ (Nat.lt_of_lt_of_le (lt_of_block hr) hB)).trans hr⟩

/-- No error's block, nor a variable's, is a row that came later. -/
theorem Errs.grown {w w' : World} {er : Nat → Addr} {row : Option Nat} (h : Errs w er) (hg : w.grownBy w' row) (hne : ∀ i, i < 5 → some (gvar i) ≠ row ∧ some (er i).block ≠ row) : Errs w' er := by
  refine ⟨fun i hi => ?_, fun i hi => ?_, h.ne⟩
  · exact hg.cell (h.cell i hi) (hne i hi).1
  · obtain ⟨c, t, hr⟩ := h.row i hi
    exact ⟨c, t, (hg.block _ (lt_of_block hr) (hne i hi).2).trans hr⟩
theorem Errs.drewN {w : World} {er : Nat → Addr} (h : Errs w er) (m : Nat) : Errs (w.drewN m) er := ⟨h.cell, h.row, h.ne⟩
end Go.Proofs.YtlcjkbhcbiggcaaGreatDoor

/- Shapes and layouts, as data and in memory; the plan of a shape. -/
namespace Go.Proofs.YtlcjkbhcbiggcaaGreatDoor
open Go.RowKit
set_option maxRecDepth 100000

/-- The eight numbers of a shape. -/
@[ext] structure Shp where
  cl : Int
  wi : Int
  pl : Int
  ca : Int
  ino : Int
  qu : Int
  da : Int
  jo : Int
/-- The twelve numbers of a layout, and its shape. -/
@[ext] structure Lay where
  bo : Int
  jr : Int
  jl : Int
  le : Int
  ll : Int
  bi : Int
  bl : Int
  ta : Int
  tl : Int
  dt : Int
  dl : Int
  to : Int
  sh : Shp
/-- A shape's numbers in their order. -/
def Shp.nums (s : Shp) : List Int := [s.cl, s.wi, s.pl, s.ca, s.ino, s.qu, s.da, s.jo]
abbrev shV (s : Shp) : Value := .agg #[.int .i64 s.cl, .int .i64 s.wi, .int .i64 s.pl, .int .i64 s.ca, .int .i64 s.ino, .int .i64 s.qu, .int .i64 s.da, .int .i64 s.jo]
abbrev lyV (l : Lay) : Value := .agg #[.int .i64 l.bo, .int .i64 l.jr, .int .i64 l.jl, .int .i64 l.le, .int .i64 l.ll, .int .i64 l.bi, .int .i64 l.bl, .int .i64 l.ta, .int .i64 l.tl, .int .i64 l.dt, .int .i64 l.dl, .int .i64 l.to, .int .i64 l.sh.cl, .int .i64 l.sh.wi, .int .i64 l.sh.pl, .int .i64 l.sh.ca, .int .i64 l.sh.ino, .int .i64 l.sh.qu, .int .i64 l.sh.da, .int .i64 l.sh.jo]
/-- The shape of zeros. -/
def shZ : Shp := ⟨0, 0, 0, 0, 0, 0, 0, 0⟩
/-- The layout of zeros. -/
def lyZ : Lay := ⟨0, 0, 0, 0, 0, 0, 0, 0, 0, 0, 0, 0, shZ⟩
/-- The numbers are in their bounds. -/
structure InB (s : Shp) : Prop where
  cl0 : 1 ≤ s.cl
  cl1 : s.cl ≤ 8
  wi0 : 1 ≤ s.wi
  wi1 : s.wi ≤ 8
  pl0 : 1 ≤ s.pl
  pl1 : s.pl ≤ 8
  ca0 : 1 ≤ s.ca
  ca1 : s.ca ≤ 64
  ino0 : 2 ≤ s.ino
  ino1 : s.ino ≤ 256
  qu0 : 0 ≤ s.qu
  qu1 : s.qu ≤ 524288
  da0 : 1 ≤ s.da
  da1 : s.da ≤ 4096
  jo0 : 27 ≤ s.jo
  jo1 : s.jo ≤ 512
instance (s : Shp) : Decidable (InB s) :=
  decidable_of_iff (1 ≤ s.cl ∧ s.cl ≤ 8 ∧ 1 ≤ s.wi ∧ s.wi ≤ 8 ∧ 1 ≤ s.pl ∧ s.pl ≤ 8 ∧ 1 ≤ s.ca ∧ s.ca ≤ 64 ∧ 2 ≤ s.ino ∧ s.ino ≤ 256 ∧ 0 ≤ s.qu ∧ s.qu ≤ 524288 ∧ 1 ≤ s.da ∧ s.da ≤ 4096 ∧ 27 ≤ s.jo ∧ s.jo ≤ 512)
    ⟨fun ⟨a, b, c, d, e, f, g, h, i, j, k, l, m, n, o, p⟩ => ⟨a, b, c, d, e, f, g, h, i, j, k, l, m, n, o, p⟩, fun ⟨a, b, c, d, e, f, g, h, i, j, k, l, m, n, o, p⟩ => ⟨a, b, c, d, e, f, g, h, i, j, k, l, m, n, o, p⟩⟩
/-- The layout of a shape. -/
def layOf (s : Shp) : Lay :=
  ⟨1, 2, s.jo, 2 + s.jo, 1 + 3 * s.ca, 2 + s.jo + (1 + 3 * s.ca), 1, 2 + s.jo + (1 + 3 * s.ca) + 1, (s.ino + 3) / 4, 2 + s.jo + (1 + 3 * s.ca) + 1 + (s.ino + 3) / 4, s.da, 2 + s.jo + (1 + 3 * s.ca) + 1 + (s.ino + 3) / 4 + s.da, s⟩
/-- What Data must be at the least. -/
def leastD (s : Shp) : Int := (s.qu + 511) / 512 + 4 * s.ino
/-- Plan's error. -/
def planE (s : Shp) : Int := if ¬ InB s then 2 else if s.da < leastD s ∨ 4096 < (layOf s).to then 63 else 0
/-- Plan's layout. -/
def planL (s : Shp) : Lay := if planE s = 0 then layOf s else lyZ

/-- A shape in a box. -/
structure ShBox (w : World) (b : Nat) (s : Shp) : Prop where
  c0 : w.cell? ⟨b, 0, none⟩ = some (.int .i64 s.cl)
  c1 : w.cell? ⟨b, 1, none⟩ = some (.int .i64 s.wi)
  c2 : w.cell? ⟨b, 2, none⟩ = some (.int .i64 s.pl)
  c3 : w.cell? ⟨b, 3, none⟩ = some (.int .i64 s.ca)
  c4 : w.cell? ⟨b, 4, none⟩ = some (.int .i64 s.ino)
  c5 : w.cell? ⟨b, 5, none⟩ = some (.int .i64 s.qu)
  c6 : w.cell? ⟨b, 6, none⟩ = some (.int .i64 s.da)
  c7 : w.cell? ⟨b, 7, none⟩ = some (.int .i64 s.jo)
theorem ShBox.new (w : World) (s : Shp) : ShBox (w.alloc (.cells #[.int .i64 s.cl, .int .i64 s.wi, .int .i64 s.pl, .int .i64 s.ca, .int .i64 s.ino, .int .i64 s.qu, .int .i64 s.da, .int .i64 s.jo] 58)) w.heap.size s := by
  constructor <;> simp [go_sem]
theorem ShBox.later {B : Nat} {w w' : World} {b : Nat} {s : Shp} (h : ShBox w b s) (hb : Below B w w') (hB : b < B) : ShBox w' b s := by
  constructor
  · exact (hb.cell (p := ⟨b, 0, none⟩) hB).trans h.c0
  · exact (hb.cell (p := ⟨b, 1, none⟩) hB).trans h.c1
  · exact (hb.cell (p := ⟨b, 2, none⟩) hB).trans h.c2
  · exact (hb.cell (p := ⟨b, 3, none⟩) hB).trans h.c3
  · exact (hb.cell (p := ⟨b, 4, none⟩) hB).trans h.c4
  · exact (hb.cell (p := ⟨b, 5, none⟩) hB).trans h.c5
  · exact (hb.cell (p := ⟨b, 6, none⟩) hB).trans h.c6
  · exact (hb.cell (p := ⟨b, 7, none⟩) hB).trans h.c7
/-- A layout in a box. -/
structure LyBox (w : World) (b : Nat) (l : Lay) : Prop where
  c0 : w.cell? ⟨b, 0, none⟩ = some (.int .i64 l.bo)
  c1 : w.cell? ⟨b, 1, none⟩ = some (.int .i64 l.jr)
  c2 : w.cell? ⟨b, 2, none⟩ = some (.int .i64 l.jl)
  c3 : w.cell? ⟨b, 3, none⟩ = some (.int .i64 l.le)
  c4 : w.cell? ⟨b, 4, none⟩ = some (.int .i64 l.ll)
  c5 : w.cell? ⟨b, 5, none⟩ = some (.int .i64 l.bi)
  c6 : w.cell? ⟨b, 6, none⟩ = some (.int .i64 l.bl)
  c7 : w.cell? ⟨b, 7, none⟩ = some (.int .i64 l.ta)
  c8 : w.cell? ⟨b, 8, none⟩ = some (.int .i64 l.tl)
  c9 : w.cell? ⟨b, 9, none⟩ = some (.int .i64 l.dt)
  c10 : w.cell? ⟨b, 10, none⟩ = some (.int .i64 l.dl)
  c11 : w.cell? ⟨b, 11, none⟩ = some (.int .i64 l.to)
  c12 : w.cell? ⟨b, 12, none⟩ = some (.int .i64 l.sh.cl)
  c13 : w.cell? ⟨b, 13, none⟩ = some (.int .i64 l.sh.wi)
  c14 : w.cell? ⟨b, 14, none⟩ = some (.int .i64 l.sh.pl)
  c15 : w.cell? ⟨b, 15, none⟩ = some (.int .i64 l.sh.ca)
  c16 : w.cell? ⟨b, 16, none⟩ = some (.int .i64 l.sh.ino)
  c17 : w.cell? ⟨b, 17, none⟩ = some (.int .i64 l.sh.qu)
  c18 : w.cell? ⟨b, 18, none⟩ = some (.int .i64 l.sh.da)
  c19 : w.cell? ⟨b, 19, none⟩ = some (.int .i64 l.sh.jo)
theorem LyBox.new (w : World) (l : Lay) : LyBox (w.alloc (.cells #[.int .i64 l.bo, .int .i64 l.jr, .int .i64 l.jl, .int .i64 l.le, .int .i64 l.ll, .int .i64 l.bi, .int .i64 l.bl, .int .i64 l.ta, .int .i64 l.tl, .int .i64 l.dt, .int .i64 l.dl, .int .i64 l.to, .int .i64 l.sh.cl, .int .i64 l.sh.wi, .int .i64 l.sh.pl, .int .i64 l.sh.ca, .int .i64 l.sh.ino, .int .i64 l.sh.qu, .int .i64 l.sh.da, .int .i64 l.sh.jo] 60)) w.heap.size l := by
  constructor <;> simp [go_sem]
theorem LyBox.later {B : Nat} {w w' : World} {b : Nat} {l : Lay} (h : LyBox w b l) (hb : Below B w w') (hB : b < B) : LyBox w' b l := by
  constructor
  · exact (hb.cell (p := ⟨b, 0, none⟩) hB).trans h.c0
  · exact (hb.cell (p := ⟨b, 1, none⟩) hB).trans h.c1
  · exact (hb.cell (p := ⟨b, 2, none⟩) hB).trans h.c2
  · exact (hb.cell (p := ⟨b, 3, none⟩) hB).trans h.c3
  · exact (hb.cell (p := ⟨b, 4, none⟩) hB).trans h.c4
  · exact (hb.cell (p := ⟨b, 5, none⟩) hB).trans h.c5
  · exact (hb.cell (p := ⟨b, 6, none⟩) hB).trans h.c6
  · exact (hb.cell (p := ⟨b, 7, none⟩) hB).trans h.c7
  · exact (hb.cell (p := ⟨b, 8, none⟩) hB).trans h.c8
  · exact (hb.cell (p := ⟨b, 9, none⟩) hB).trans h.c9
  · exact (hb.cell (p := ⟨b, 10, none⟩) hB).trans h.c10
  · exact (hb.cell (p := ⟨b, 11, none⟩) hB).trans h.c11
  · exact (hb.cell (p := ⟨b, 12, none⟩) hB).trans h.c12
  · exact (hb.cell (p := ⟨b, 13, none⟩) hB).trans h.c13
  · exact (hb.cell (p := ⟨b, 14, none⟩) hB).trans h.c14
  · exact (hb.cell (p := ⟨b, 15, none⟩) hB).trans h.c15
  · exact (hb.cell (p := ⟨b, 16, none⟩) hB).trans h.c16
  · exact (hb.cell (p := ⟨b, 17, none⟩) hB).trans h.c17
  · exact (hb.cell (p := ⟨b, 18, none⟩) hB).trans h.c18
  · exact (hb.cell (p := ⟨b, 19, none⟩) hB).trans h.c19
/-- The table of the bounds, as it is laid. -/
structure Bds (w : World) : Prop where
  c0 : w.cell? ⟨0, 0, none⟩ = some (.int .i64 1)
  c1 : w.cell? ⟨0, 1, none⟩ = some (.int .i64 8)
  c2 : w.cell? ⟨0, 2, none⟩ = some (.int .i64 1)
  c3 : w.cell? ⟨0, 3, none⟩ = some (.int .i64 8)
  c4 : w.cell? ⟨0, 4, none⟩ = some (.int .i64 1)
  c5 : w.cell? ⟨0, 5, none⟩ = some (.int .i64 8)
  c6 : w.cell? ⟨0, 6, none⟩ = some (.int .i64 1)
  c7 : w.cell? ⟨0, 7, none⟩ = some (.int .i64 64)
  c8 : w.cell? ⟨0, 8, none⟩ = some (.int .i64 2)
  c9 : w.cell? ⟨0, 9, none⟩ = some (.int .i64 256)
  c10 : w.cell? ⟨0, 10, none⟩ = some (.int .i64 0)
  c11 : w.cell? ⟨0, 11, none⟩ = some (.int .i64 524288)
  c12 : w.cell? ⟨0, 12, none⟩ = some (.int .i64 1)
  c13 : w.cell? ⟨0, 13, none⟩ = some (.int .i64 4096)
  c14 : w.cell? ⟨0, 14, none⟩ = some (.int .i64 27)
  c15 : w.cell? ⟨0, 15, none⟩ = some (.int .i64 512)
theorem Bds.lt {w : World} (h : Bds w) : 0 < w.heap.size := World.block_lt_of_cell? w _ h.c0
theorem Bds.later {B : Nat} {w w' : World} (h : Bds w) (hb : Below B w w') (hB : w.heap.size ≤ B) : Bds w' := by
  have hl := Nat.lt_of_lt_of_le h.lt hB
  constructor
  · exact (hb.cell (p := ⟨0, 0, none⟩) hl).trans h.c0
  · exact (hb.cell (p := ⟨0, 1, none⟩) hl).trans h.c1
  · exact (hb.cell (p := ⟨0, 2, none⟩) hl).trans h.c2
  · exact (hb.cell (p := ⟨0, 3, none⟩) hl).trans h.c3
  · exact (hb.cell (p := ⟨0, 4, none⟩) hl).trans h.c4
  · exact (hb.cell (p := ⟨0, 5, none⟩) hl).trans h.c5
  · exact (hb.cell (p := ⟨0, 6, none⟩) hl).trans h.c6
  · exact (hb.cell (p := ⟨0, 7, none⟩) hl).trans h.c7
  · exact (hb.cell (p := ⟨0, 8, none⟩) hl).trans h.c8
  · exact (hb.cell (p := ⟨0, 9, none⟩) hl).trans h.c9
  · exact (hb.cell (p := ⟨0, 10, none⟩) hl).trans h.c10
  · exact (hb.cell (p := ⟨0, 11, none⟩) hl).trans h.c11
  · exact (hb.cell (p := ⟨0, 12, none⟩) hl).trans h.c12
  · exact (hb.cell (p := ⟨0, 13, none⟩) hl).trans h.c13
  · exact (hb.cell (p := ⟨0, 14, none⟩) hl).trans h.c14
  · exact (hb.cell (p := ⟨0, 15, none⟩) hl).trans h.c15
theorem newBox (w : World) (o : Obj) : Below w.heap.size w (w.alloc o) := (Below.refl _ w).alloc (Nat.le_refl _) o

theorem ShBox.all {w : World} {b : Nat} {s : Shp} (h : ShBox w b s) : w.cell? ⟨b, 0, none⟩ = some (.int .i64 s.cl) ∧ w.cell? ⟨b, 1, none⟩ = some (.int .i64 s.wi) ∧ w.cell? ⟨b, 2, none⟩ = some (.int .i64 s.pl) ∧ w.cell? ⟨b, 3, none⟩ = some (.int .i64 s.ca) ∧ w.cell? ⟨b, 4, none⟩ = some (.int .i64 s.ino) ∧ w.cell? ⟨b, 5, none⟩ = some (.int .i64 s.qu) ∧ w.cell? ⟨b, 6, none⟩ = some (.int .i64 s.da) ∧ w.cell? ⟨b, 7, none⟩ = some (.int .i64 s.jo) := ⟨h.c0, h.c1, h.c2, h.c3, h.c4, h.c5, h.c6, h.c7⟩
end Go.Proofs.YtlcjkbhcbiggcaaGreatDoor

/- What the listed variables give the walks: the five errors of package bits, each a pointer of its own; the table of bounds of package plan. -/
namespace Go.Proofs.YtlcjkbhcbiggcaaGreatDoor
open Go.ChangeShapes Go.WideShapes Go.ChangeAt Go.RowKit
set_option maxRecDepth 100000

abbrev laid7 {H : Type} : List (String × DataW H) := [("errors.errorType", Rows.laid_errors_errorType), ("annex/bits.errShort", Rows.laid_annex_bits_errShort), ("annex/bits.errWide", Rows.laid_annex_bits_errWide), ("annex/bits.errFlag", Rows.laid_annex_bits_errFlag), ("annex/bits.errLong", Rows.laid_annex_bits_errLong), ("annex/bits.errPad", Rows.laid_annex_bits_errPad), ("annex/plan.bounds", Rows.laid_annex_plan_bounds)]
abbrev laid6 {H : Type} : List (String × DataW H) := [("annex/bits.errShort", Rows.laid_annex_bits_errShort), ("annex/bits.errWide", Rows.laid_annex_bits_errWide), ("annex/bits.errFlag", Rows.laid_annex_bits_errFlag), ("annex/bits.errLong", Rows.laid_annex_bits_errLong), ("annex/bits.errPad", Rows.laid_annex_bits_errPad), ("annex/plan.bounds", Rows.laid_annex_plan_bounds)]
theorem laid_met6 {W : World} (h : laidMetH Tryz.prog laid7 W) : laidMet Tryz.prog laid6 W := h.1

theorem star : "*" ++ "errors.errorString" = "*errors.errorString" := by decide
theorem row96 (u : TypeId) (h : Tryz.prog.typeName? 3 u = some "*errors.errorString") : u = 319 :=
  typeName_ptr_named (nm := "errors.errorString") (by rw [star]; kernel_rfl) (by kernel_rfl) (by decide) u (by rw [star]; exact h)
theorem cells122 : Tryz.prog.cellsOf 339 = 1 := by kernel_rfl
theorem cells9 : Tryz.prog.cellsOf 9 = 1 := by kernel_rfl
theorem gN0 : Tryz.prog.globalNamed "annex/bits.errShort" = some 3 := by kernel_rfl
theorem gT0 : (Tryz.prog.globals[3]?).map (·.type) = some 125 := by kernel_rfl
theorem gN1 : Tryz.prog.globalNamed "annex/bits.errWide" = some 2 := by kernel_rfl
theorem gT1 : (Tryz.prog.globals[2]?).map (·.type) = some 125 := by kernel_rfl
theorem gN2 : Tryz.prog.globalNamed "annex/bits.errFlag" = some 4 := by kernel_rfl
theorem gT2 : (Tryz.prog.globals[4]?).map (·.type) = some 125 := by kernel_rfl
theorem gN3 : Tryz.prog.globalNamed "annex/bits.errLong" = some 5 := by kernel_rfl
theorem gT3 : (Tryz.prog.globals[5]?).map (·.type) = some 125 := by kernel_rfl
theorem gN4 : Tryz.prog.globalNamed "annex/bits.errPad" = some 6 := by kernel_rfl
theorem gT4 : (Tryz.prog.globals[6]?).map (·.type) = some 125 := by kernel_rfl

/-- The five errors' addresses, by the variables' numbers. -/
def erOf (a0 a1 a2 a3 a4 : Addr) : Nat → Addr
  | 4 => a0 | 1 => a1 | 0 => a2 | 2 => a3 | _ => a4

theorem gN : Tryz.prog.globalNamed "annex/plan.bounds" = some 0 := by kernel_rfl
theorem gT : (Tryz.prog.globals[0]?).map (·.type) = some 177 := by kernel_rfl
theorem cellsP : Tryz.prog.cellsOf 176 = 2 := by kernel_rfl
theorem cellsA : Tryz.prog.cellsOf 177 = 16 := by kernel_rfl
theorem cells3 : Tryz.prog.cellsOf 3 = 1 := by kernel_rfl

theorem pair_of {H : Type} {enc : TypeId × Value → H} {W : World} {fuel : Nat} {c c' : Value} {y : DataW H × List MemPlace} {a b : Int}
    (hf : DataW.trod enc Tryz.prog W 0 (fun _ => true) false fuel 176 [c, c'] = some y) (hy : y.1 = .agg [.lit (.int .i64 a), .lit (.int .i64 b)]) : c = .int .i64 a ∧ c' = .int .i64 b := by
  obtain ⟨xs, n, _, hx, hl, hn, hfs⟩ := DataW.trod_struct Tryz.underlying176 hf
  match xs, hn with
  | [y0, y1], _ =>
    have f0 : DataW.trod enc Tryz.prog W 0 (fun _ => true) false n 3 (([c, c'].drop 0).take (Tryz.prog.cellsOf 3)) = some y0 := hfs 0 _ rfl
    have f1 : DataW.trod enc Tryz.prog W 0 (fun _ => true) false n 3 (([c, c'].drop 1).take (Tryz.prog.cellsOf 3)) = some y1 := hfs 1 _ rfl
    rw [cells3] at f0 f1
    obtain ⟨X, e0, h0, _⟩ := DataW.trod_int Tryz.underlying3 f0
    obtain ⟨K, e1, h1, _⟩ := DataW.trod_int Tryz.underlying3 f1
    subst hx
    simp at e0 e1 hy
    obtain ⟨hy0, hy1⟩ := hy
    rw [h0] at hy0
    rw [h1] at hy1
    simp at hy0 hy1
    subst e0 e1 hy0 hy1
    exact ⟨rfl, rfl⟩

theorem bds_of_laid {W : World} (h : laidMetH Tryz.prog laid7 W) : Bds W := by
  have h := laid_met6 h
  obtain ⟨ps, ⟨g0, t0, cs0, f0, p0, q0, hg0, ht0, hv0, hd0, ⟨g1, t1, cs1, f1, p1, q1, hg1, ht1, hv1, hd1, ⟨g2, t2, cs2, f2, p2, q2, hg2, ht2, hv2, hd2, ⟨g3, t3, cs3, f3, p3, q3, hg3, ht3, hv3, hd3, ⟨g4, t4, cs4, f4, p4, q4, hg4, ht4, hv4, hd4, ⟨g5, t5, cs5, f5, p5, q5, hg5, ht5, hv5, hd5, _, e5⟩, e4⟩, e3⟩, e2⟩, e1⟩, e0⟩, hnd, hrows⟩ := h
  clear hnd hrows e0 e1 e2 e3 e4 hd0 hd1 hd2 hd3 hd4 hv0 hv1 hv2 hv3 hv4 ht0 ht1 ht2 ht3 ht4 hg0 hg1 hg2 hg3 hg4
  obtain rfl := Option.some.inj (gN.symm.trans hg5)
  obtain rfl := Option.some.inj (gT.symm.trans ht5)
  obtain ⟨l5⟩ := cs5
  obtain ⟨xs, m, _, hx, hl, hn, hfs⟩ := DataW.trod_array Tryz.underlying177 hd5
  rw [cellsA] at hl
  simp only [cellsP] at hfs
  have hc := fun i => World.var?_cell hg5 hv5 i
  simp only [Prod.mk.injEq] at hx
  obtain ⟨hx, _⟩ := hx
  match xs, hn with
  | [y0, y1, y2, y3, y4, y5, y6, y7], _ =>
    match l5, hl with
    | [c0, c1, c2, c3, c4, c5, c6, c7, c8, c9, c10, c11, c12, c13, c14, c15], _ =>
      simp only [Rows.laid_annex_plan_bounds, List.map_cons, List.map_nil, DataW.agg.injEq, List.cons.injEq] at hx
      obtain ⟨x0, x1, x2, x3, x4, x5, x6, x7, _⟩ := hx
      have k0 := pair_of (c := c0) (c' := c1) (hfs 0 (by decide)) x0.symm
      have k1 := pair_of (c := c2) (c' := c3) (hfs 1 (by decide)) x1.symm
      have k2 := pair_of (c := c4) (c' := c5) (hfs 2 (by decide)) x2.symm
      have k3 := pair_of (c := c6) (c' := c7) (hfs 3 (by decide)) x3.symm
      have k4 := pair_of (c := c8) (c' := c9) (hfs 4 (by decide)) x4.symm
      have k5 := pair_of (c := c10) (c' := c11) (hfs 5 (by decide)) x5.symm
      have k6 := pair_of (c := c12) (c' := c13) (hfs 6 (by decide)) x6.symm
      have k7 := pair_of (c := c14) (c' := c15) (hfs 7 (by decide)) x7.symm
      exact ⟨(hc 0).trans (by rw [k0.1]; rfl), (hc 1).trans (by rw [k0.2]; rfl), (hc 2).trans (by rw [k1.1]; rfl), (hc 3).trans (by rw [k1.2]; rfl), (hc 4).trans (by rw [k2.1]; rfl), (hc 5).trans (by rw [k2.2]; rfl), (hc 6).trans (by rw [k3.1]; rfl), (hc 7).trans (by rw [k3.2]; rfl), (hc 8).trans (by rw [k4.1]; rfl), (hc 9).trans (by rw [k4.2]; rfl), (hc 10).trans (by rw [k5.1]; rfl), (hc 11).trans (by rw [k5.2]; rfl), (hc 12).trans (by rw [k6.1]; rfl), (hc 13).trans (by rw [k6.2]; rfl), (hc 14).trans (by rw [k7.1]; rfl), (hc 15).trans (by rw [k7.2]; rfl)⟩
theorem errs_of_laid {W : World} (h : laidMetH Tryz.prog laid7 W) : ∃ er, Errs W er := by
  have h := laid_met6 h
  obtain ⟨ps, ⟨g0, t0, cs0, f0, p0, q0, hg0, ht0, hv0, hd0, ⟨g1, t1, cs1, f1, p1, q1, hg1, ht1, hv1, hd1, ⟨g2, t2, cs2, f2, p2, q2, hg2, ht2, hv2, hd2, ⟨g3, t3, cs3, f3, p3, q3, hg3, ht3, hv3, hd3, ⟨g4, t4, cs4, f4, p4, q4, hg4, ht4, hv4, hd4, ⟨g5, t5, cs5, f5, p5, q5, hg5, ht5, hv5, hd5, _, e5⟩, e4⟩, e3⟩, e2⟩, e1⟩, e0⟩, hnd, hrows⟩ := h
  obtain rfl := Option.some.inj (gN0.symm.trans hg0)
  obtain rfl := Option.some.inj (gT0.symm.trans ht0)
  obtain rfl := Option.some.inj (gN1.symm.trans hg1)
  obtain rfl := Option.some.inj (gT1.symm.trans ht1)
  obtain rfl := Option.some.inj (gN2.symm.trans hg2)
  obtain rfl := Option.some.inj (gT2.symm.trans ht2)
  obtain rfl := Option.some.inj (gN3.symm.trans hg3)
  obtain rfl := Option.some.inj (gT3.symm.trans ht3)
  obtain rfl := Option.some.inj (gN4.symm.trans hg4)
  obtain rfl := Option.some.inj (gT4.symm.trans ht4)
  subst e5; subst e4; subst e3; subst e2; subst e1; subst e0
  obtain ⟨l0⟩ := cs0
  obtain ⟨l1⟩ := cs1
  obtain ⟨l2⟩ := cs2
  obtain ⟨l3⟩ := cs3
  obtain ⟨l4⟩ := cs4
  have ok0 : ∀ u v, l0 = [.iface u v] → Value.okWide Tryz.prog W .any 0 u v := fun u v e => by
    subst e
    exact (hrows 3 0 (by simp [MemPlace.row])).2 u v (by simpa using World.var?_cell hg0 hv0 0)
  have ok1 : ∀ u v, l1 = [.iface u v] → Value.okWide Tryz.prog W .any 0 u v := fun u v e => by
    subst e
    exact (hrows 2 0 (by simp [MemPlace.row])).2 u v (by simpa using World.var?_cell hg1 hv1 0)
  have ok2 : ∀ u v, l2 = [.iface u v] → Value.okWide Tryz.prog W .any 0 u v := fun u v e => by
    subst e
    exact (hrows 4 0 (by simp [MemPlace.row])).2 u v (by simpa using World.var?_cell hg2 hv2 0)
  have ok3 : ∀ u v, l3 = [.iface u v] → Value.okWide Tryz.prog W .any 0 u v := fun u v e => by
    subst e
    exact (hrows 5 0 (by simp [MemPlace.row])).2 u v (by simpa using World.var?_cell hg3 hv3 0)
  have ok4 : ∀ u v, l4 = [.iface u v] → Value.okWide Tryz.prog W .any 0 u v := fun u v e => by
    subst e
    exact (hrows 6 0 (by simp [MemPlace.row])).2 u v (by simpa using World.var?_cell hg4 hv4 0)
  obtain ⟨a0, s0, rfl, hc0, _, _, rfl⟩ := errorString_of_trod Tryz.underlying125 row96 Tryz.underlying319 Tryz.underlying339 rfl rfl Tryz.underlying9 cells122 cells9 hd0 ok0
  obtain ⟨a1, s1, rfl, hc1, _, _, rfl⟩ := errorString_of_trod Tryz.underlying125 row96 Tryz.underlying319 Tryz.underlying339 rfl rfl Tryz.underlying9 cells122 cells9 hd1 ok1
  obtain ⟨a2, s2, rfl, hc2, _, _, rfl⟩ := errorString_of_trod Tryz.underlying125 row96 Tryz.underlying319 Tryz.underlying339 rfl rfl Tryz.underlying9 cells122 cells9 hd2 ok2
  obtain ⟨a3, s3, rfl, hc3, _, _, rfl⟩ := errorString_of_trod Tryz.underlying125 row96 Tryz.underlying319 Tryz.underlying339 rfl rfl Tryz.underlying9 cells122 cells9 hd3 ok3
  obtain ⟨a4, s4, rfl, hc4, _, _, rfl⟩ := errorString_of_trod Tryz.underlying125 row96 Tryz.underlying319 Tryz.underlying339 rfl rfl Tryz.underlying9 cells122 cells9 hd4 ok4
  obtain ⟨c0, u0, hb0⟩ := (hrows a0.block a0.off (by simp [MemPlace.row])).1
  obtain ⟨c1, u1, hb1⟩ := (hrows a1.block a1.off (by simp [MemPlace.row])).1
  obtain ⟨c2, u2, hb2⟩ := (hrows a2.block a2.off (by simp [MemPlace.row])).1
  obtain ⟨c3, u3, hb3⟩ := (hrows a3.block a3.off (by simp [MemPlace.row])).1
  obtain ⟨c4, u4, hb4⟩ := (hrows a4.block a4.off (by simp [MemPlace.row])).1
  have w0 := by simpa using World.var?_cell hg0 hv0 0
  have w1 := by simpa using World.var?_cell hg1 hv1 0
  have w2 := by simpa using World.var?_cell hg2 hv2 0
  have w3 := by simpa using World.var?_cell hg3 hv3 0
  have w4 := by simpa using World.var?_cell hg4 hv4 0
  have n01 : a0 ≠ a1 := by rintro rfl; simp [MemPlace.row] at hnd
  have n02 : a0 ≠ a2 := by rintro rfl; simp [MemPlace.row] at hnd
  have n03 : a0 ≠ a3 := by rintro rfl; simp [MemPlace.row] at hnd
  have n04 : a0 ≠ a4 := by rintro rfl; simp [MemPlace.row] at hnd
  have n12 : a1 ≠ a2 := by rintro rfl; simp [MemPlace.row] at hnd
  have n13 : a1 ≠ a3 := by rintro rfl; simp [MemPlace.row] at hnd
  have n14 : a1 ≠ a4 := by rintro rfl; simp [MemPlace.row] at hnd
  have n23 : a2 ≠ a3 := by rintro rfl; simp [MemPlace.row] at hnd
  have n24 : a2 ≠ a4 := by rintro rfl; simp [MemPlace.row] at hnd
  have n34 : a3 ≠ a4 := by rintro rfl; simp [MemPlace.row] at hnd
  refine ⟨erOf a0 a1 a2 a3 a4, ?_, ?_, ?_⟩
  · intro i hi
    match i, hi with
    | 0, _ => exact w2
    | 1, _ => exact w1
    | 2, _ => exact w3
    | 3, _ => exact w4
    | 4, _ => exact w0
  · intro i hi
    match i, hi with
    | 0, _ => exact ⟨_, _, hb2⟩
    | 1, _ => exact ⟨_, _, hb1⟩
    | 2, _ => exact ⟨_, _, hb3⟩
    | 3, _ => exact ⟨_, _, hb4⟩
    | 4, _ => exact ⟨_, _, hb0⟩
  · intro i j hi hj hne
    match i, hi, j, hj with
    | 0, _, 0, _ => exact absurd rfl hne
    | 0, _, 1, _ => exact n12.symm
    | 0, _, 2, _ => exact n23
    | 0, _, 3, _ => exact n24
    | 0, _, 4, _ => exact n02.symm
    | 1, _, 0, _ => exact n12
    | 1, _, 1, _ => exact absurd rfl hne
    | 1, _, 2, _ => exact n13
    | 1, _, 3, _ => exact n14
    | 1, _, 4, _ => exact n01.symm
    | 2, _, 0, _ => exact n23.symm
    | 2, _, 1, _ => exact n13.symm
    | 2, _, 2, _ => exact absurd rfl hne
    | 2, _, 3, _ => exact n34
    | 2, _, 4, _ => exact n03.symm
    | 3, _, 0, _ => exact n24.symm
    | 3, _, 1, _ => exact n14.symm
    | 3, _, 2, _ => exact n34.symm
    | 3, _, 3, _ => exact absurd rfl hne
    | 3, _, 4, _ => exact n04.symm
    | 4, _, 0, _ => exact n02
    | 4, _, 1, _ => exact n01
    | 4, _, 2, _ => exact n03
    | 4, _, 3, _ => exact n04
    | 4, _, 4, _ => exact absurd rfl hne
end Go.Proofs.YtlcjkbhcbiggcaaGreatDoor

/- The witness's world; what the rows ask besides. -/
namespace Go.Proofs.YtlcjkbhcbiggcaaGreatDoor
open Go.ChangeShapes Go.WideShapes Go.ChangeAt Go.RowKit
set_option maxRecDepth 100000

theorem own : ownKnob Tryz.prog.godebug = none := by kernel_rfl
theorem laidOut : laidOutB Tryz.prog = true := by kernel_rfl
theorem door_met (os : Os) (args : Array Value) : laidMetH Tryz.prog laid7 ((World.doorLaid Tryz.prog 400 os).forCall (fun _ _ => 0) ⟨#[], args, []⟩).memory :=
  laidMetH_of_parts3 (fuel := 8) (laidMet_of_run' 8 (by kernel_rfl) (by kernel_rfl)) (by kernel_rfl) (by kernel_rfl)
end Go.Proofs.YtlcjkbhcbiggcaaGreatDoor

/- numbers, parts, inBounds, layOut, leastData by their contracts. -/
namespace Go.Proofs.YtlcjkbhcbiggcaaGreatDoor
open Go.RowKit
set_option maxRecDepth 100000

theorem setCells_row (b : Nat) (t : TypeId) : ∀ (vs pre mid : List Value) (w : World), w.heap[b]? = some (.cells (pre ++ mid).toArray t (0, 0)) → mid.length = vs.length → (w.setCells b pre.length vs).heap[b]? = some (.cells (pre ++ vs).toArray t (0, 0))
  | [], pre, mid, w, h, hl => by
    obtain rfl : mid = [] := List.eq_nil_of_length_eq_zero hl
    exact h
  | v :: vs, pre, [], w, h, hl => by simp at hl
  | v :: vs, pre, m :: mid, w, h, hl => by
    have h1 : (w.setCell ⟨b, pre.length, none⟩ v).heap[b]? = some (.cells ((pre ++ [v]) ++ mid).toArray t (0, 0)) := by
      rw [heap_setCell_same w b _ _ t v h]; simp
    have h2 := setCells_row b t vs (pre ++ [v]) mid _ h1 (by simpa using hl)
    simpa [World.setCells] using h2
theorem setCells_below {B : Nat} {a : World} (b : Nat) (hb : B ≤ b) : ∀ (vs : List Value) (o : Nat) {w : World}, Below B a w → Below B a (w.setCells b o vs)
  | [], _, _, h => h
  | v :: vs, o, _, h => setCells_below b hb vs (o + 1) (h.setCell (p := ⟨b, o, none⟩) hb v)
theorem res2 {P : Program} {fn : Func} {p u : Tmp} {ty : TypeId} (h : fn.results = #[.cell p ty, .tmp u]) (tmps : Array Value) (w : World) (g : Nat) (t : TypeId) (cs : Array Value) (fr : Nat × Nat) (d : TypeDesc)
    (hp : tmps.getD p undef = .pointer (some ⟨g, 0, none⟩)) (hg : w.heap[g]? = some (.cells cs t fr))
    (hu : P.underlying ty = some d) (hd : (match d with | .struct _ | .array _ _ => true | _ => false) = true) (hi : (P.info? ty).map (·.size) = some cs.size) :
    (results fn tmps).run P w = .ok (.tuple #[.agg cs, tmps.getD u undef]) w := by
  rw [results_cell_tmp h, hp]
  simp [asAddr, run_loadVar_row w g t ty cs fr d hg hu hd hi, Result.andThen]

theorem heap_new2 (w : World) (p q : Obj) : ((w.alloc p).alloc q).heap[w.heap.size + 1]? = some q := by simpa using heap_alloc_new (w.alloc p) q

set_option maxHeartbeats 1000000 in
theorem numbers_any (s : Shp) (w : World) :
    Calls Tryz.prog 113 #[shV s] w fun e w' => e = .returned (.agg #[.int .i64 s.cl, .int .i64 s.wi, .int .i64 s.pl, .int .i64 s.ca, .int .i64 s.ino, .int .i64 s.qu, .int .i64 s.da, .int .i64 s.jo]) ∧ Below w.heap.size w w' := by
  go_enter Tryz.func113, Tryz.ntmps113
  go_wp2
  refine bodyPost_ret (results_cell_row rfl _ _ (w.heap.size + 1) 36 _ (0, 0) _ rfl (heap_new2 w _ _) Tryz.underlying36 rfl (by kernel_rfl)) rfl ?_
  exact ⟨rfl, (newBox w _).trans ((newBox _ _).mono (by simp))⟩

theorem tdiv_up (n k : Int) (hn : 0 ≤ n) (hk : 0 < k) : (n + k - 1).tdiv k = (n + k - 1) / k := Int.tdiv_eq_ediv_of_nonneg (by omega)
theorem parts_any (n k : Int) (w : World) (hn : 0 ≤ n) (hk : 0 < k) (hn1 : n ≤ 1000000) (hk1 : k ≤ 1000000) :
    Calls Tryz.prog 114 #[.int .i64 n, .int .i64 k] w fun e w' => e = .returned (.int .i64 ((n + k - 1) / k)) ∧ w' = w := by
  have e := tdiv_up n k hn hk
  have b0 : 0 ≤ (n + k - 1) / k := Int.ediv_nonneg (by omega) (by omega)
  have b1 : (n + k - 1) / k ≤ 2000000 := Int.le_trans (Int.ediv_le_self _ (by omega)) (by omega)
  have k0 : (k == 0) = false := by simpa using (by omega : ¬ k = 0)
  go_enter Tryz.func114, Tryz.ntmps114
  go_wp2
  go_ret
  exact ⟨rfl, rfl⟩

set_option maxHeartbeats 1000000 in
theorem leastData_any (s : Shp) (h : InB s) (w : World) :
    Calls Tryz.prog 64 #[shV s] w fun e w' => e = .returned (.int .i64 (leastD s)) ∧ Below w.heap.size w w' := by
  have q0 := h.qu0
  have q1 := h.qu1
  have i0 := h.ino0
  have i1 := h.ino1
  have d0 : 0 ≤ (s.qu + 512 - 1) / 512 := by omega
  have d1 : (s.qu + 512 - 1) / 512 ≤ 2000 := by omega
  clear h
  go_enter Tryz.func64, Tryz.ntmps64
  go_wp2
  go_quiet ((go_at_call 114; refine (parts_any s.qu 512 _ q0 (by omega) (by omega) (by omega)).mono ?_; rintro e w4 ⟨rfl, rfl⟩; exact ⟨rfl, _, rfl⟩))
  go_wp2
  go_ret
  refine ⟨?_, below_drewN (newBox w _) _⟩
  unfold leastD
  rw [show s.qu + 512 - 1 = s.qu + 511 by omega]
  rfl
end Go.Proofs.YtlcjkbhcbiggcaaGreatDoor

/- A layout laid into a new box, and read out of it, in one step. -/
namespace Go.Proofs.YtlcjkbhcbiggcaaGreatDoor
open Go.RowKit
set_option maxRecDepth 100000

theorem ly_size : (Tryz.prog.info? 60).map (·.size) = some 20 := by kernel_rfl
theorem st_new (w : World) (x0 x1 x2 x3 x4 x5 x6 x7 x8 x9 x10 x11 x12 x13 x14 x15 x16 x17 x18 x19 : Int) : (Instr.storeAt 60 (.pointer (some ⟨w.heap.size, 0, none⟩)) (.agg #[.int .i64 x0, .int .i64 x1, .int .i64 x2, .int .i64 x3, .int .i64 x4, .int .i64 x5, .int .i64 x6, .int .i64 x7, .int .i64 x8, .int .i64 x9, .int .i64 x10, .int .i64 x11, .int .i64 x12, .int .i64 x13, .int .i64 x14, .int .i64 x15, .int .i64 x16, .int .i64 x17, .int .i64 x18, .int .i64 x19])).run Tryz.prog (w.alloc (.cells #[.int .i64 0, .int .i64 0, .int .i64 0, .int .i64 0, .int .i64 0, .int .i64 0, .int .i64 0, .int .i64 0, .int .i64 0, .int .i64 0, .int .i64 0, .int .i64 0, .int .i64 0, .int .i64 0, .int .i64 0, .int .i64 0, .int .i64 0, .int .i64 0, .int .i64 0, .int .i64 0] 60)) = .ok () (w.alloc (.cells #[.int .i64 x0, .int .i64 x1, .int .i64 x2, .int .i64 x3, .int .i64 x4, .int .i64 x5, .int .i64 x6, .int .i64 x7, .int .i64 x8, .int .i64 x9, .int .i64 x10, .int .i64 x11, .int .i64 x12, .int .i64 x13, .int .i64 x14, .int .i64 x15, .int .i64 x16, .int .i64 x17, .int .i64 x18, .int .i64 x19] 60)) :=
  run_storeAt_new w 60 _ _ ly_size rfl (by simp [Value.oneCell'])
theorem st_drew (w : World) (x0 x1 x2 x3 x4 x5 x6 x7 x8 x9 x10 x11 x12 x13 x14 x15 x16 x17 x18 x19 : Int) : (Instr.storeAt 60 (.pointer (some ⟨w.heap.size, 0, none⟩)) (.agg #[.int .i64 x0, .int .i64 x1, .int .i64 x2, .int .i64 x3, .int .i64 x4, .int .i64 x5, .int .i64 x6, .int .i64 x7, .int .i64 x8, .int .i64 x9, .int .i64 x10, .int .i64 x11, .int .i64 x12, .int .i64 x13, .int .i64 x14, .int .i64 x15, .int .i64 x16, .int .i64 x17, .int .i64 x18, .int .i64 x19])).run Tryz.prog (w.alloc (.cells #[.int .i64 0, .int .i64 0, .int .i64 0, .int .i64 0, .int .i64 0, .int .i64 0, .int .i64 0, .int .i64 0, .int .i64 0, .int .i64 0, .int .i64 0, .int .i64 0, .int .i64 0, .int .i64 0, .int .i64 0, .int .i64 0, .int .i64 0, .int .i64 0, .int .i64 0, .int .i64 0] 60)).drew = .ok () (w.alloc (.cells #[.int .i64 x0, .int .i64 x1, .int .i64 x2, .int .i64 x3, .int .i64 x4, .int .i64 x5, .int .i64 x6, .int .i64 x7, .int .i64 x8, .int .i64 x9, .int .i64 x10, .int .i64 x11, .int .i64 x12, .int .i64 x13, .int .i64 x14, .int .i64 x15, .int .i64 x16, .int .i64 x17, .int .i64 x18, .int .i64 x19] 60)).drew :=
  run_storeAt_new w.drew 60 _ _ ly_size rfl (by simp [Value.oneCell'])
theorem ld_row (w : World) (b : Nat) (cs : Array Value) (hs : cs.size = 20) (h : w.heap[b]? = some (.cells cs 60 (0, 0))) : (Instr.loadAt 60 (.pointer (some ⟨b, 0, none⟩))).run Tryz.prog w = .ok (.agg cs) w := by
  simp only [Instr.loadAt, Instr.sureAddr, Sem.run_bind, Sem.run_pure, Result.andThen]
  exact run_loadVar_row w b 60 60 cs (0, 0) _ h Tryz.underlying60 rfl (by rw [hs]; exact ly_size)
theorem ld_new (w : World) (x0 x1 x2 x3 x4 x5 x6 x7 x8 x9 x10 x11 x12 x13 x14 x15 x16 x17 x18 x19 : Int) : (Instr.loadAt 60 (.pointer (some ⟨w.heap.size, 0, none⟩))).run Tryz.prog (w.alloc (.cells #[.int .i64 x0, .int .i64 x1, .int .i64 x2, .int .i64 x3, .int .i64 x4, .int .i64 x5, .int .i64 x6, .int .i64 x7, .int .i64 x8, .int .i64 x9, .int .i64 x10, .int .i64 x11, .int .i64 x12, .int .i64 x13, .int .i64 x14, .int .i64 x15, .int .i64 x16, .int .i64 x17, .int .i64 x18, .int .i64 x19] 60)) = .ok (.agg #[.int .i64 x0, .int .i64 x1, .int .i64 x2, .int .i64 x3, .int .i64 x4, .int .i64 x5, .int .i64 x6, .int .i64 x7, .int .i64 x8, .int .i64 x9, .int .i64 x10, .int .i64 x11, .int .i64 x12, .int .i64 x13, .int .i64 x14, .int .i64 x15, .int .i64 x16, .int .i64 x17, .int .i64 x18, .int .i64 x19]) (w.alloc (.cells #[.int .i64 x0, .int .i64 x1, .int .i64 x2, .int .i64 x3, .int .i64 x4, .int .i64 x5, .int .i64 x6, .int .i64 x7, .int .i64 x8, .int .i64 x9, .int .i64 x10, .int .i64 x11, .int .i64 x12, .int .i64 x13, .int .i64 x14, .int .i64 x15, .int .i64 x16, .int .i64 x17, .int .i64 x18, .int .i64 x19] 60)) :=
  ld_row _ _ _ rfl (heap_alloc_last w _)
theorem ld_drew (w : World) (x0 x1 x2 x3 x4 x5 x6 x7 x8 x9 x10 x11 x12 x13 x14 x15 x16 x17 x18 x19 : Int) : (Instr.loadAt 60 (.pointer (some ⟨w.heap.size, 0, none⟩))).run Tryz.prog (w.alloc (.cells #[.int .i64 x0, .int .i64 x1, .int .i64 x2, .int .i64 x3, .int .i64 x4, .int .i64 x5, .int .i64 x6, .int .i64 x7, .int .i64 x8, .int .i64 x9, .int .i64 x10, .int .i64 x11, .int .i64 x12, .int .i64 x13, .int .i64 x14, .int .i64 x15, .int .i64 x16, .int .i64 x17, .int .i64 x18, .int .i64 x19] 60)).drew = .ok (.agg #[.int .i64 x0, .int .i64 x1, .int .i64 x2, .int .i64 x3, .int .i64 x4, .int .i64 x5, .int .i64 x6, .int .i64 x7, .int .i64 x8, .int .i64 x9, .int .i64 x10, .int .i64 x11, .int .i64 x12, .int .i64 x13, .int .i64 x14, .int .i64 x15, .int .i64 x16, .int .i64 x17, .int .i64 x18, .int .i64 x19]) (w.alloc (.cells #[.int .i64 x0, .int .i64 x1, .int .i64 x2, .int .i64 x3, .int .i64 x4, .int .i64 x5, .int .i64 x6, .int .i64 x7, .int .i64 x8, .int .i64 x9, .int .i64 x10, .int .i64 x11, .int .i64 x12, .int .i64 x13, .int .i64 x14, .int .i64 x15, .int .i64 x16, .int .i64 x17, .int .i64 x18, .int .i64 x19] 60)).drew :=
  ld_row _ _ _ rfl (heap_alloc_last w _)
/-- A layout's store, its operands evaluated. -/
def LyStore (p v : Value) (o : Oper) (a : Act) (w : World) (next : Act → World → Prop) (Q : Exit → Act → World → Prop) : Prop :=
  Oper.wp Tryz.prog { o with op := .store 60 (.const p) (.const v) } a w next Q
theorem ly_store (d : Option Tmp) (x y : Operand) (t : TypeId) (p : String) (f : Array Edge) (g : Option (Nat × Bool)) (a : Act) (w : World) (next : Act → World → Prop) (Q : Exit → Act → World → Prop) :
    Oper.wp Tryz.prog ⟨d, .store 60 x y, t, p, f, g⟩ a w next Q = LyStore (a.eval x) (a.eval y) ⟨d, .assign x, t, p, f, g⟩ a w next Q := rfl
theorem LyStore.new (x0 x1 x2 x3 x4 x5 x6 x7 x8 x9 x10 x11 x12 x13 x14 x15 x16 x17 x18 x19 : Int) (o : Oper) (a : Act) (w : World) (next : Act → World → Prop) (Q : Exit → Act → World → Prop) :
    LyStore (.pointer (some ⟨w.heap.size, 0, none⟩)) (.agg #[.int .i64 x0, .int .i64 x1, .int .i64 x2, .int .i64 x3, .int .i64 x4, .int .i64 x5, .int .i64 x6, .int .i64 x7, .int .i64 x8, .int .i64 x9, .int .i64 x10, .int .i64 x11, .int .i64 x12, .int .i64 x13, .int .i64 x14, .int .i64 x15, .int .i64 x16, .int .i64 x17, .int .i64 x18, .int .i64 x19]) o a (w.alloc (.cells #[.int .i64 0, .int .i64 0, .int .i64 0, .int .i64 0, .int .i64 0, .int .i64 0, .int .i64 0, .int .i64 0, .int .i64 0, .int .i64 0, .int .i64 0, .int .i64 0, .int .i64 0, .int .i64 0, .int .i64 0, .int .i64 0, .int .i64 0, .int .i64 0, .int .i64 0, .int .i64 0] 60)) next Q = next (a.put o.dst undef) (w.alloc (.cells #[.int .i64 x0, .int .i64 x1, .int .i64 x2, .int .i64 x3, .int .i64 x4, .int .i64 x5, .int .i64 x6, .int .i64 x7, .int .i64 x8, .int .i64 x9, .int .i64 x10, .int .i64 x11, .int .i64 x12, .int .i64 x13, .int .i64 x14, .int .i64 x15, .int .i64 x16, .int .i64 x17, .int .i64 x18, .int .i64 x19] 60)) := by
  unfold LyStore Oper.wp execOp
  simp only [Act.eval, Sem.run_bind, st_new, Result.andThen_ok, Sem.run_pure]
  rfl
theorem LyStore.drew (x0 x1 x2 x3 x4 x5 x6 x7 x8 x9 x10 x11 x12 x13 x14 x15 x16 x17 x18 x19 : Int) (o : Oper) (a : Act) (w : World) (next : Act → World → Prop) (Q : Exit → Act → World → Prop) :
    LyStore (.pointer (some ⟨w.heap.size, 0, none⟩)) (.agg #[.int .i64 x0, .int .i64 x1, .int .i64 x2, .int .i64 x3, .int .i64 x4, .int .i64 x5, .int .i64 x6, .int .i64 x7, .int .i64 x8, .int .i64 x9, .int .i64 x10, .int .i64 x11, .int .i64 x12, .int .i64 x13, .int .i64 x14, .int .i64 x15, .int .i64 x16, .int .i64 x17, .int .i64 x18, .int .i64 x19]) o a (w.alloc (.cells #[.int .i64 0, .int .i64 0, .int .i64 0, .int .i64 0, .int .i64 0, .int .i64 0, .int .i64 0, .int .i64 0, .int .i64 0, .int .i64 0, .int .i64 0, .int .i64 0, .int .i64 0, .int .i64 0, .int .i64 0, .int .i64 0, .int .i64 0, .int .i64 0, .int .i64 0, .int .i64 0] 60)).drew next Q = next (a.put o.dst undef) (w.alloc (.cells #[.int .i64 x0, .int .i64 x1, .int .i64 x2, .int .i64 x3, .int .i64 x4, .int .i64 x5, .int .i64 x6, .int .i64 x7, .int .i64 x8, .int .i64 x9, .int .i64 x10, .int .i64 x11, .int .i64 x12, .int .i64 x13, .int .i64 x14, .int .i64 x15, .int .i64 x16, .int .i64 x17, .int .i64 x18, .int .i64 x19] 60)).drew := by
  unfold LyStore Oper.wp execOp
  simp only [Act.eval, Sem.run_bind, st_drew, Result.andThen_ok, Sem.run_pure]
  rfl
theorem LyStore.row {w : World} {b : Nat} {cs : Array Value} (h : w.heap[b]? = some (.cells cs 60 (0, 0))) (hs : cs.size = 20) (x0 x1 x2 x3 x4 x5 x6 x7 x8 x9 x10 x11 x12 x13 x14 x15 x16 x17 x18 x19 : Int) (o : Oper) (a : Act) (next : Act → World → Prop) (Q : Exit → Act → World → Prop) :
    LyStore (.pointer (some ⟨b, 0, none⟩)) (.agg #[.int .i64 x0, .int .i64 x1, .int .i64 x2, .int .i64 x3, .int .i64 x4, .int .i64 x5, .int .i64 x6, .int .i64 x7, .int .i64 x8, .int .i64 x9, .int .i64 x10, .int .i64 x11, .int .i64 x12, .int .i64 x13, .int .i64 x14, .int .i64 x15, .int .i64 x16, .int .i64 x17, .int .i64 x18, .int .i64 x19]) o a w next Q = next (a.put o.dst undef) (w.setRow b #[.int .i64 x0, .int .i64 x1, .int .i64 x2, .int .i64 x3, .int .i64 x4, .int .i64 x5, .int .i64 x6, .int .i64 x7, .int .i64 x8, .int .i64 x9, .int .i64 x10, .int .i64 x11, .int .i64 x12, .int .i64 x13, .int .i64 x14, .int .i64 x15, .int .i64 x16, .int .i64 x17, .int .i64 x18, .int .i64 x19]) := by
  have e : (Instr.storeAt 60 (.pointer (some ⟨b, 0, none⟩)) (.agg #[.int .i64 x0, .int .i64 x1, .int .i64 x2, .int .i64 x3, .int .i64 x4, .int .i64 x5, .int .i64 x6, .int .i64 x7, .int .i64 x8, .int .i64 x9, .int .i64 x10, .int .i64 x11, .int .i64 x12, .int .i64 x13, .int .i64 x14, .int .i64 x15, .int .i64 x16, .int .i64 x17, .int .i64 x18, .int .i64 x19])).run Tryz.prog w = .ok () (w.setRow b #[.int .i64 x0, .int .i64 x1, .int .i64 x2, .int .i64 x3, .int .i64 x4, .int .i64 x5, .int .i64 x6, .int .i64 x7, .int .i64 x8, .int .i64 x9, .int .i64 x10, .int .i64 x11, .int .i64 x12, .int .i64 x13, .int .i64 x14, .int .i64 x15, .int .i64 x16, .int .i64 x17, .int .i64 x18, .int .i64 x19]) := by
    simp only [Instr.storeAt, Instr.sureAddr, Sem.run_bind, Sem.run_pure, Result.andThen]
    exact run_storeVar_row w b 60 60 cs #[.int .i64 x0, .int .i64 x1, .int .i64 x2, .int .i64 x3, .int .i64 x4, .int .i64 x5, .int .i64 x6, .int .i64 x7, .int .i64 x8, .int .i64 x9, .int .i64 x10, .int .i64 x11, .int .i64 x12, .int .i64 x13, .int .i64 x14, .int .i64 x15, .int .i64 x16, .int .i64 x17, .int .i64 x18, .int .i64 x19] h ly_size hs (by simp [Value.oneCell'])
  unfold LyStore Oper.wp execOp
  simp only [Act.eval, Sem.run_bind, e, Result.andThen_ok, Sem.run_pure]
  rfl
/-- A layout's load, its operand evaluated. -/
def LyLoad (p : Value) (o : Oper) (a : Act) (w : World) (next : Act → World → Prop) (Q : Exit → Act → World → Prop) : Prop :=
  Oper.wp Tryz.prog { o with op := .load 60 (.const p) } a w next Q
theorem ly_load (d : Option Tmp) (x : Operand) (t : TypeId) (p : String) (f : Array Edge) (g : Option (Nat × Bool)) (a : Act) (w : World) (next : Act → World → Prop) (Q : Exit → Act → World → Prop) :
    Oper.wp Tryz.prog ⟨d, .load 60 x, t, p, f, g⟩ a w next Q = LyLoad (a.eval x) ⟨d, .assign x, t, p, f, g⟩ a w next Q := rfl
theorem LyLoad.row {w : World} {b : Nat} {cs : Array Value} (h : w.heap[b]? = some (.cells cs 60 (0, 0))) (hs : cs.size = 20) (o : Oper) (a : Act) (next : Act → World → Prop) (Q : Exit → Act → World → Prop) :
    LyLoad (.pointer (some ⟨b, 0, none⟩)) o a w next Q = next (a.put o.dst (.agg cs)) w := by
  unfold LyLoad Oper.wp execOp
  simp only [Act.eval, Sem.run_bind, ld_row w b cs hs h, Result.andThen_ok, Sem.run_pure]
  rfl
theorem LyLoad.new (x0 x1 x2 x3 x4 x5 x6 x7 x8 x9 x10 x11 x12 x13 x14 x15 x16 x17 x18 x19 : Int) (o : Oper) (a : Act) (w : World) (next : Act → World → Prop) (Q : Exit → Act → World → Prop) :
    LyLoad (.pointer (some ⟨w.heap.size, 0, none⟩)) o a (w.alloc (.cells #[.int .i64 x0, .int .i64 x1, .int .i64 x2, .int .i64 x3, .int .i64 x4, .int .i64 x5, .int .i64 x6, .int .i64 x7, .int .i64 x8, .int .i64 x9, .int .i64 x10, .int .i64 x11, .int .i64 x12, .int .i64 x13, .int .i64 x14, .int .i64 x15, .int .i64 x16, .int .i64 x17, .int .i64 x18, .int .i64 x19] 60)) next Q = next (a.put o.dst (.agg #[.int .i64 x0, .int .i64 x1, .int .i64 x2, .int .i64 x3, .int .i64 x4, .int .i64 x5, .int .i64 x6, .int .i64 x7, .int .i64 x8, .int .i64 x9, .int .i64 x10, .int .i64 x11, .int .i64 x12, .int .i64 x13, .int .i64 x14, .int .i64 x15, .int .i64 x16, .int .i64 x17, .int .i64 x18, .int .i64 x19])) (w.alloc (.cells #[.int .i64 x0, .int .i64 x1, .int .i64 x2, .int .i64 x3, .int .i64 x4, .int .i64 x5, .int .i64 x6, .int .i64 x7, .int .i64 x8, .int .i64 x9, .int .i64 x10, .int .i64 x11, .int .i64 x12, .int .i64 x13, .int .i64 x14, .int .i64 x15, .int .i64 x16, .int .i64 x17, .int .i64 x18, .int .i64 x19] 60)) :=
  LyLoad.row (heap_alloc_last w _) rfl o a next Q
theorem LyLoad.drew (x0 x1 x2 x3 x4 x5 x6 x7 x8 x9 x10 x11 x12 x13 x14 x15 x16 x17 x18 x19 : Int) (o : Oper) (a : Act) (w : World) (next : Act → World → Prop) (Q : Exit → Act → World → Prop) :
    LyLoad (.pointer (some ⟨w.heap.size, 0, none⟩)) o a (w.alloc (.cells #[.int .i64 x0, .int .i64 x1, .int .i64 x2, .int .i64 x3, .int .i64 x4, .int .i64 x5, .int .i64 x6, .int .i64 x7, .int .i64 x8, .int .i64 x9, .int .i64 x10, .int .i64 x11, .int .i64 x12, .int .i64 x13, .int .i64 x14, .int .i64 x15, .int .i64 x16, .int .i64 x17, .int .i64 x18, .int .i64 x19] 60)).drew next Q = next (a.put o.dst (.agg #[.int .i64 x0, .int .i64 x1, .int .i64 x2, .int .i64 x3, .int .i64 x4, .int .i64 x5, .int .i64 x6, .int .i64 x7, .int .i64 x8, .int .i64 x9, .int .i64 x10, .int .i64 x11, .int .i64 x12, .int .i64 x13, .int .i64 x14, .int .i64 x15, .int .i64 x16, .int .i64 x17, .int .i64 x18, .int .i64 x19])) (w.alloc (.cells #[.int .i64 x0, .int .i64 x1, .int .i64 x2, .int .i64 x3, .int .i64 x4, .int .i64 x5, .int .i64 x6, .int .i64 x7, .int .i64 x8, .int .i64 x9, .int .i64 x10, .int .i64 x11, .int .i64 x12, .int .i64 x13, .int .i64 x14, .int .i64 x15, .int .i64 x16, .int .i64 x17, .int .i64 x18, .int .i64 x19] 60)).drew :=
  LyLoad.row (w := (w.alloc _).drew) (heap_alloc_last w _) rfl o a next Q
end Go.Proofs.YtlcjkbhcbiggcaaGreatDoor

/- Plain words on worlds and blocks, which the contracts of the device use. -/
namespace Go.Proofs.YtlcjkbhcbiggcaaGreatDoor
open Go.RowKit
set_option maxRecDepth 100000

/-- The world has grown; of the old blocks only those of F may have turned. -/
structure Turns (F : Nat → Prop) (w w' : World) : Prop where
  os : w'.os = w.os
  tape : w'.tape = w.tape
  output : w'.output = w.output
  size : w.heap.size ≤ w'.heap.size
  block : ∀ i, i < w.heap.size → ¬ F i → w'.heap[i]? = w.heap[i]?

theorem Turns.refl (F : Nat → Prop) (w : World) : Turns F w w := ⟨rfl, rfl, rfl, Nat.le_refl _, fun _ _ _ => rfl⟩
theorem Turns.trans {F G : Nat → Prop} {a b c : World} (h : Turns F a b) (k : Turns G b c) (hG : ∀ i, i < a.heap.size → G i → F i) : Turns F a c :=
  ⟨k.os.trans h.os, k.tape.trans h.tape, k.output.trans h.output, Nat.le_trans h.size k.size, fun i hi hF => (k.block i (Nat.lt_of_lt_of_le hi h.size) (fun g => hF (hG i hi g))).trans (h.block i hi hF)⟩
theorem Turns.mono {F G : Nat → Prop} {a b : World} (h : Turns F a b) (hF : ∀ i, i < a.heap.size → F i → G i) : Turns G a b :=
  ⟨h.os, h.tape, h.output, h.size, fun i hi hG => h.block i hi (fun f => hG (hF i hi f))⟩
theorem Below.turns {w w' : World} (h : Below w.heap.size w w') (F : Nat → Prop) : Turns F w w' := ⟨h.os, h.tape, h.output, h.size, fun i hi _ => h.block i hi⟩
theorem Turns.below {F : Nat → Prop} {B : Nat} {w w' : World} (h : Turns F w w') (hF : ∀ i, F i → B ≤ i) (hB : B ≤ w.heap.size) : Below B w w' :=
  ⟨h.os, h.tape, h.output, h.size, fun i hi => h.block i (Nat.lt_of_lt_of_le hi hB) (fun f => by have := hF i f; omega)⟩
theorem Turns.alloc (F : Nat → Prop) (w : World) (o : Obj) : Turns F w (w.alloc o) := Below.turns ((Below.refl _ w).alloc (Nat.le_refl _) o) F
theorem Turns.drewN (F : Nat → Prop) (w : World) (m : Nat) : Turns F w (w.drewN m) := ⟨rfl, rfl, rfl, Nat.le_refl _, fun _ _ _ => rfl⟩
theorem Turns.setCell {F : Nat → Prop} (w : World) {b : Nat} (o : Nat) (v : Value) (hF : F b) : Turns F w (w.setCell ⟨b, o, none⟩ v) :=
  ⟨rfl, rfl, rfl, by simp [World.setCell], fun i _ hi => Below.heap_setCell _ _ _ _ (fun e => hi (by subst e; exact hF))⟩
theorem Turns.cell (w : World) (b o : Nat) (v : Value) : Turns (fun i => i = b) w (w.setCell ⟨b, o, none⟩ v) := Turns.setCell w o v rfl
theorem Turns.grown {F : Nat → Prop} {w w' : World} {row : Option Nat} (h : w.grownBy w' row) (hF : ∀ b, row = some b → F b) : Turns F w w' :=
  ⟨h.os, h.tape, h.output, h.size, fun i hi hn => h.block i hi (fun e => hn (hF i e.symm))⟩

/-- A row of bytes that fills its block. -/
abbrev bl (bs : List Int) : Obj := .cells (bs.map (Value.int .u8)).toArray 5 (0, 0)
theorem heap_lt {w : World} {g : Nat} {o : Obj} (h : w.heap[g]? = some o) : g < w.heap.size := (Array.getElem?_eq_some_iff.1 h).1
theorem Lies.full {w : World} {g n : Nat} {bs : List Int} (h : w.heap[g]? = some (bl bs)) (hn : bs.length = n) : Lies w (some ⟨g, 0, none⟩) n n bs := by
  refine ⟨hn, Nat.le_refl _, (fun h => by cases h), fun ad had t u hu => ?_⟩
  obtain rfl := Option.some.inj had
  rw [Addr.add_lit, Nat.zero_add]
  simp only [World.cell?, h]
  simpa using hu
theorem Lies.piece {w : World} {g o n c : Nat} {bs : List Int} (h : w.heap[g]? = some (bl bs)) (hn : o + n ≤ bs.length) (hc : n ≤ c) : Lies w (some ⟨g, o, none⟩) n c ((bs.drop o).take n) := by
  refine ⟨by simp; omega, hc, (fun h => by cases h), fun ad had t u hu => ?_⟩
  obtain rfl := Option.some.inj had
  rw [Addr.add_lit]
  simp only [World.cell?, h]
  rw [List.map_take, List.map_drop, List.getElem?_take] at hu
  by_cases ht : t < n
  · rw [if_pos ht, List.getElem?_drop] at hu
    simpa using hu
  · rw [if_neg ht] at hu; cases hu
/-- What is read of blocks that did not turn is as before. -/
theorem Lies.turns {F : Nat → Prop} {w w' : World} {ao : Option Addr} {n c : Nat} {bs : List Int} (h : Lies w ao n c bs) (ht : Turns F w w') (hF : ∀ ad, ao = some ad → ¬ F ad.block) : Lies w' ao n c bs :=
  ⟨h.hlen, h.hle, h.hnone, fun ad had t u hu => by
    have hc := h.hcells ad had t u hu
    have hlt := World.block_lt_of_cell? w _ hc
    rw [add_block] at hlt
    have e := World.cell?_of_block (w := w) (w' := w') (a := ad.add t) (by rw [add_block]; exact ht.block _ hlt (hF ad had))
    exact e.trans hc⟩
theorem own_turns {F : Nat → Prop} {w w' : World} {base e size n : Nat} {v : Value} {xs : List Value} (h : w.ownsRow base e size v n xs) (ht : Turns F w w') (hF : ∀ b, v.ownBlock = some b → ¬ F b) : w'.ownsRow base e size v n xs := by
  refine ⟨h.1, ?_⟩
  rcases h.2 with h2 | ⟨g, cap, cur, hv, hg, hb, r⟩
  · exact Or.inl h2
  · subst hv
    exact Or.inr ⟨g, cap, cur, rfl, hg, (ht.block g (heap_lt hb) (hF g rfl)).trans hb, r⟩
theorem map_turns {H : Type} {F : Nat → Prop} {w w' : World} {P : Program} {k : TypeId} {R : Value → Option (DataW H × List MemPlace)} {b n : Nat} {D : DataW H} (h : w.ownsMap P k R b n D) (ht : Turns F w w') (hF : ¬ F b) : w'.ownsMap P k R b n D := by
  have hlt := h.lt
  obtain ⟨es, clock, hb, r⟩ := h
  exact ⟨es, clock, (ht.block b hlt hF).trans hb, r⟩
end Go.Proofs.YtlcjkbhcbiggcaaGreatDoor
