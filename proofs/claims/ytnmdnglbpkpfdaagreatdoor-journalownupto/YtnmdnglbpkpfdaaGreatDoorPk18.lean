/- The witness's world; what the rows ask besides. -/
import Derived.Test.YtnmdnglbpkpfdaaGreatDoorCards
import Derived.Test.YtnmdnglbpkpfdaaGreatDoorTie
import Derived.Test.YtnmdnglbpkpfdaaGreatDoorPk17
import Derived.ProofKit
import Derived.LaidMore
import Derived.OpenShut
import Derived.SizedLaws
import Derived.Stop.Joined
import Derived.SevenTiedAt
import Derived.Deep.DeepHandedRow
import Derived.Deep.DeepWitnessRowRef
import Derived.Test.YtnmdnglbpkpfdaaGreatDoorPk13
import Derived.Deep.Slices
import Derived.Test.YtnmdnglbpkpfdaaGreatDoorPk15
namespace Go.Proofs.YtnmdnglbpkpfdaaGreatDoor
open Go.ChangeShapes Go.WideShapes Go.ChangeAt Go.RowKit
set_option maxRecDepth 100000
theorem own : ownKnob Tryz.prog.godebug = none := by kernel_rfl
theorem laidOut : laidOutB Tryz.prog = true := by kernel_rfl
theorem door_met (os : Os) (args : Array Value) : laidMetH Tryz.prog laidA ((World.doorLaid Tryz.prog 400 os).forCall (fun _ _ => 0) ⟨#[], args, []⟩).memory :=
  laidMetH_of_parts3 (fuel := 8) (laidMet_of_run' 8 (by kernel_rfl) (by kernel_rfl)) (by kernel_rfl) (by kernel_rfl)
end Go.Proofs.YtnmdnglbpkpfdaaGreatDoor

/- Edits that came in, opened once. -/
namespace Go.Proofs.YtnmdnglbpkpfdaaGreatDoor
open Go.ChangeShapes Go.WideShapes Go.ChangeAt Go.RowKit Go.Deep
set_option maxRecDepth 100000
theorem cells3 : Tryz.prog.cellsOf 3 = 1 := by kernel_rfl
theorem cells5 : Tryz.prog.cellsOf 5 = 1 := by kernel_rfl
theorem cells33 : Tryz.prog.cellsOf 56 = 1 := by kernel_rfl
theorem cellsPt : Tryz.prog.cellsOf 58 = 2 := by kernel_rfl
end Go.Proofs.YtnmdnglbpkpfdaaGreatDoor

/- A journal and what its device holds, through commits. -/
namespace Go.Proofs.YtnmdnglbpkpfdaaGreatDoor
open Go.RowKit Go.Maps
set_option maxRecDepth 100000
theorem ovl_pos {k st sz : Nat} {T : List TxL} (hne : T ≠ []) (hok : ∀ x ∈ T, TxOk k st sz x) : ∃ b, (ovl T b).isSome = true := by
  induction T using snoc_ind with
  | h0 => exact absurd rfl hne
  | h1 T x _ =>
    have hx := (hok x (by simp)).ne
    refine ⟨(x[0]'hx).1, ?_⟩
    rw [ovl_snoc]
    have : (txAt x (x[0]'hx).1).isSome = true := by
      unfold txAt
      rw [Option.isSome_map, List.find?_isSome]
      exact ⟨x[0]'hx, List.getElem_mem hx, by simp⟩
    obtain ⟨v, hv⟩ := Option.isSome_iff_exists.1 this
    rw [hv]
    rfl
theorem Cont.pos {k st sz : Nat} {a : List (Nat × Nat)} {fa : Nat → List Int} {T : List TxL} (h : Cont a fa T) (hne : T ≠ []) (hok : ∀ x ∈ T, TxOk k st sz x) : 0 < a.length := by
  obtain ⟨b, hb⟩ := ovl_pos hne hok
  rw [← h b, Option.isSome_map] at hb
  cases a with
  | nil => simp [lk] at hb
  | cons => simp
end Go.Proofs.YtnmdnglbpkpfdaaGreatDoor

/- Check of a journal with nothing away; the parts of JournalSteps. -/
namespace Go.Proofs.YtnmdnglbpkpfdaaGreatDoor
open Go.RowKit Go.Maps
set_option maxRecDepth 100000
theorem Jn.same {w w' : World} {d : Nat} {S S' : DevS} {k N : Nat} {G : Nat → Prop} {jb st sz : Nat} {seq : Int} {place : Nat} {free : Int} {bm nd : Nat} {a : List (Nat × Nat)} {fa : Nat → List Int} (h : Jn w d S k N G jb st sz seq place free bm nd a fa) (q : Same0 w w' d S' k N G) : Jn w' d S' k N G jb st sz seq place free bm nd a fa :=
  ⟨q.1, (q.2.block jb (heap_lt h.J) h.gj).trans h.J, h.A.turns q.2 h.ga, h.VA.turns q.2 h.gva, h.gj, h.ga, h.gva, h.ja⟩
/-- What a transaction of a fill leaves behind its Commit. -/
theorem Kp.commit {w w' : World} {G : Nat → Prop} {d : Nat} {S : DevS} {k N jb st sz : Nat} {seq : Int} {place : Nat} {free : Int} {bm nd : Nat} {a : List (Nat × Nat)} {fa : Nat → List Int} {tb wm ns : Nat} {m : List (Nat × Nat)} {f : Nat → List Int} {sv : Value} {last : Int} (X : Tx w d S k N G jb st sz seq place free bm nd a fa tb wm ns m f sv last) (t : Turns (fun i => G i ∨ i = bm ∨ i = jb ∨ i = tb) w w') : Kp G w w' := Kp.turns t (fun x cs ty fz g hx ht e => by
  rcases e with e | e | e | e
  · exact g e
  · exact mp_cells X.A hx e
  · exact jty_jb X.J hx ht e
  · exact jty_tb X.T hx ht e)
end Go.Proofs.YtnmdnglbpkpfdaaGreatDoor

/- Puts that came in, and how much they weigh. -/
namespace Go.Proofs.YtnmdnglbpkpfdaaGreatDoor
open Go.ChangeShapes Go.WideShapes Go.ChangeAt Go.RowKit Go.Deep
set_option maxRecDepth 100000
theorem bulk_one {H : Type} (d : DataW H) : 1 ≤ Rows.uptoBulk d := by
  cases d with
  | lit l => cases l <;> simp [Rows.uptoBulk]
  | nil => simp [Rows.uptoBulk]
  | ptr d => simp [Rows.uptoBulk]
  | slice elems spare => simp [Rows.uptoBulk]
  | agg parts => simp [Rows.uptoBulk]
  | iface t d => simp [Rows.uptoBulk]
  | map entries => simp [Rows.uptoBulk]
  | held h => simp [Rows.uptoBulk]
theorem bulk_length {H : Type} (l : List (DataW H)) : l.length ≤ Rows.uptoBulkAll l := by
  induction l with
  | nil => simp
  | cons x r ih => have := bulk_one x; simp only [Rows.uptoBulkAll, List.length_cons]; omega
theorem bulk_slice {H : Type} (el sp : List (DataW H)) : Rows.uptoBulkAll el + 1 ≤ Rows.uptoBulk (.slice el sp) := by
  simp only [Rows.uptoBulk]; omega
theorem bulk_at {H : Type} : ∀ (l : List (DataW H)) (j : Nat) (x : DataW H), l[j]? = some x → Rows.uptoBulk x ≤ Rows.uptoBulkAll l
  | [], j, x, h => by simp at h
  | y :: l, 0, x, h => by simp at h; subst h; simp only [Rows.uptoBulkAll]; omega
  | y :: l, j + 1, x, h => by
    have := bulk_at l j x (by simpa using h)
    simp only [Rows.uptoBulkAll]; omega
theorem bulk_three {H : Type} : ∀ (l : List (DataW H)), (∀ d ∈ l, 3 ≤ Rows.uptoBulk d) → 3 * l.length ≤ Rows.uptoBulkAll l
  | [], _ => by simp
  | x :: l, h => by
    have h1 := h x (by simp)
    have h2 := bulk_three l (fun d hd => h d (by simp [hd]))
    simp only [Rows.uptoBulkAll, List.length_cons]
    omega
theorem view_bytesB {H : Type} {enc : TypeId × Value → H} {W : World} {fuel : Nat} {cs : List Value} {y : DataW H × List MemPlace}
    (hf : DataW.trod enc Tryz.prog W 0 (fun _ => true) true fuel 56 cs = some y) :
    ∃ a0 len cap Z, cs = [.slice a0 len cap] ∧ Lies W a0 len cap Z ∧ (∀ x ∈ Z, 0 ≤ x ∧ x ≤ 255) ∧ len + 1 ≤ Rows.uptoBulk y.1 := by
  rcases open_ints Tryz.underlying56 Tryz.underlying5 cells5 hf with ⟨hcs, hx⟩ | ⟨a, len, cap, zs, hcs, _, hl, hm, hz, hx, hcell, hwz⟩
  · exact ⟨_, _, _, [], hcs, Lies.nil W, (fun n hn => by cases hn), by have := bulk_one y.1; omega⟩
  · simp only [if_true] at hz
    refine ⟨_, _, _, zs.take len, hcs, ⟨(by simp; omega), hl, (fun h => by cases h), fun ad had t u hu => ?_⟩, fun n hn => bounds_u8 (hwz n (List.mem_of_mem_take hn)), ?_⟩
    · obtain rfl := Option.some.inj had
      have ht : t < len := by
        have := (List.getElem?_eq_some_iff.1 hu).1
        simp at this; omega
      rw [hcell t (by omega)]
      rw [List.map_take, List.getElem?_take, if_pos ht, List.getElem?_map, Option.map_eq_some_iff] at hu
      obtain ⟨x, hx, rfl⟩ := hu
      simp [List.getD, hx]
    · have e1 := bulk_slice (H := H) (lits .u8 (zs.take len)) (lits .u8 (zs.drop len))
      have e2 := bulk_length (H := H) (lits .u8 (zs.take len))
      have e3 : (lits (H := H) .u8 (zs.take len)).length = len := by simp [lits]; omega
      rw [hx]
      show len + 1 ≤ Rows.uptoBulk (.slice (lits .u8 (zs.take len)) (lits .u8 (zs.drop len)))
      omega
theorem pt_ofB {H : Type} {enc : TypeId × Value → H} {W : World} {fuel : Nat} {cs : List Value} {y : DataW H × List MemPlace} {a : Addr}
    (hc : W.cells? 0 a 2 = some cs) (hf : DataW.trod enc Tryz.prog W 0 (fun _ => true) true fuel 58 cs = some y) :
    ∃ o : Pt, (∀ j v, o.cells[j]? = some v → W.cell? (a.add j) = some v) ∧ (Rows.uptoBulk y.1 ≤ 1048576 → PtIn W o) ∧ 3 ≤ Rows.uptoBulk y.1 := by
  obtain ⟨xs, n, _, hy, hl, hn, hfs⟩ := DataW.trod_struct Tryz.underlying58 hf
  rw [cellsPt] at hl
  obtain ⟨_, hlen, hcell⟩ := World.cells?_some hc
  match cs, hl with
  | [c0, c1], _ =>
    match xs, hn with
    | [y0, y1], _ =>
      have f0 : DataW.trod enc Tryz.prog W 0 (fun _ => true) true n 3 (([c0, c1].drop 0).take (Tryz.prog.cellsOf 3)) = some y0 := hfs 0 _ rfl
      have f1 : DataW.trod enc Tryz.prog W 0 (fun _ => true) true n 56 (([c0, c1].drop 1).take (Tryz.prog.cellsOf 56)) = some y1 := hfs 1 _ rfl
      rw [cells3] at f0
      rw [cells33] at f1
      obtain ⟨K0, e0, _, _⟩ := DataW.trod_int Tryz.underlying3 f0
      obtain ⟨da, dn, dc, Z, e1, hL, hs, hb⟩ := view_bytesB f1
      simp at e0 e1
      subst e0 e1
      have e0 := bulk_one y0.1
      have e1 : Rows.uptoBulk y.1 = Rows.uptoBulk y0.1 + Rows.uptoBulk y1.1 + 1 := by
        rw [hy]
        simp [Rows.uptoBulk, Rows.uptoBulkAll]
      refine ⟨⟨K0, da, dn, dc, Z⟩, fun j v hv => ?_, fun hall => ⟨hL, hs, ?_⟩, by omega⟩
      · have hj : j < 2 := (List.getElem?_eq_some_iff.1 hv).1
        rw [hcell j hj]
        exact hv
      · show dn ≤ _
        omega
theorem view_ptsB {H : Type} {enc : TypeId × Value → H} {W : World} {fuel : Nat} {cs : List Value} {y : DataW H × List MemPlace}
    (hf : DataW.trod enc Tryz.prog W 0 (fun _ => true) true fuel 23 cs = some y) (hall : Rows.uptoBulk y.1 ≤ 1048576) :
    ∃ a0 len cap ps, cs = [.slice a0 len cap] ∧ len ≤ 400000 ∧ PtLies W a0 len ps := by
  rcases open_slice Tryz.underlying23 hf with ⟨hcs, hx⟩ | ⟨a, len, cap, m, n, D, Pl, hcs, _, hl, hm, hmm, hx, hel⟩
  · exact ⟨none, 0, 0, [], by rw [hcs], by omega, rfl, fun j s h => by simp at h⟩
  · simp only [if_true] at hmm
    subst hmm
    rw [cellsPt] at hel
    have hbk : ∀ i, i < len → Rows.uptoBulk (D i) ≤ Rows.uptoBulk y.1 := fun i hi => by
      rw [hx]
      show Rows.uptoBulk (D i) ≤ Rows.uptoBulk (.slice ((List.range len).map D) ((List.range (m - len)).map fun j => D (len + j)))
      have h1 := bulk_slice (H := H) ((List.range len).map D) ((List.range (m - len)).map fun j => D (len + j))
      have h2 := bulk_at ((List.range len).map D) i (D i) (by simp [hi])
      omega
    have hinh : Inhabited Pt := ⟨⟨0, none, 0, 0, []⟩⟩
    obtain ⟨X, hX⟩ := choose_lt (α := Pt) (p := fun i x => (∀ j v, x.cells[j]? = some v → W.cell? ((a.add (i * 2)).add j) = some v) ∧ PtIn W x ∧ 3 ≤ Rows.uptoBulk (D i)) (n := len) (fun i hi => by
      obtain ⟨cs', h1, h2⟩ := hel i (by omega)
      obtain ⟨d, hd, hI, h3⟩ := pt_ofB h1 h2
      exact ⟨d, hd, hI (Nat.le_trans (hbk i hi) hall), h3⟩)
    refine ⟨some a, len, m, (List.range len).map X, by rw [hcs], ?_, ⟨by simp, fun j s hj => ?_⟩⟩
    · have h1 := bulk_slice (H := H) ((List.range len).map D) ((List.range (m - len)).map fun j => D (len + j))
      have h2 : 3 * len ≤ Rows.uptoBulkAll ((List.range len).map D) := by
        have := bulk_three ((List.range len).map D) (fun d hd => by
          obtain ⟨i, hi, rfl⟩ := List.mem_map.1 hd
          exact (hX i (List.mem_range.1 hi)).2.2)
        simpa using this
      rw [hx] at hall
      have h3 : Rows.uptoBulk (.slice ((List.range len).map D) ((List.range (m - len)).map fun j => D (len + j))) ≤ 1048576 := hall
      omega
    · have hjl : j < len := by
        have := (List.getElem?_eq_some_iff.1 hj).1
        simpa using this
      obtain ⟨h0, hI, _⟩ := hX j hjl
      simp [hjl] at hj
      subst hj
      have q00 := (hX 0 (by omega)).1 0 _ rfl
      obtain ⟨b', o, spot⟩ := a
      have hspot : spot = none := by simpa [Addr.add] using World.cell?_spot q00
      subst hspot
      refine ⟨hI, b', o, rfl, fun t v hv => ?_⟩
      have := h0 t v hv
      rw [Addr.add_lit, Addr.add_lit] at this
      exact this
end Go.Proofs.YtnmdnglbpkpfdaaGreatDoor
