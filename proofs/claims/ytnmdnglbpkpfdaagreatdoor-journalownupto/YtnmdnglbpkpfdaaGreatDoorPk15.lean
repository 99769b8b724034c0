/- A town of any shape: place, open, by their contracts. -/
import Derived.Test.YtnmdnglbpkpfdaaGreatDoorPk13
import Derived.Test.YtnmdnglbpkpfdaaGreatDoorPk14
import Derived.Test.YtnmdnglbpkpfdaaGreatDoorPk09
import Derived.Deep.AppendLies
namespace Go.Proofs.YtnmdnglbpkpfdaaGreatDoor
open Go.RowKit Go.Maps
set_option maxRecDepth 100000
theorem Tg.form {w : World} {G : Nat → Prop} {tw db st sz n : Nat} {ov wv : Value} {os : List Nat} {xs : List It} (h : Tg w G tw db st sz ov wv os xs) (ho : os.length = n) (hx : xs.length = n) (hn : 0 < n) : ∃ go co gw cw, ov = .slice (some ⟨go, 0, none⟩) n co ∧ wv = .slice (some ⟨gw, 0, none⟩) n cw := by
  have r1 := h.o.row
  rw [ho] at r1
  have r2 := h.x.row
  rw [hx] at r2
  obtain ⟨go, co, e1, _⟩ := (row_nat r1).resolve_left (fun q => by omega)
  obtain ⟨gw, cw, e2, _⟩ := (row_nat r2).resolve_left (fun q => by omega)
  exact ⟨go, co, gw, cw, e1, e2⟩
structure TgC (w : World) (tw n go co gw cw k o : Nat) (x : It) : Prop where
  c3 : w.cell? ⟨tw, 3, none⟩ = some (.slice (some ⟨go, 0, none⟩) n co)
  c4 : w.cell? ⟨tw, 4, none⟩ = some (.slice (some ⟨gw, 0, none⟩) n cw)
  ck : w.cell? ⟨go, k, none⟩ = some (.int .i64 (o : Nat))
  cx : w.cell? ⟨gw, k, none⟩ = some (.slice (some ⟨x.g, 0, none⟩) 512 x.cap)
theorem Tg.cells {w : World} {G : Nat → Prop} {tw db st sz n go co gw cw k o : Nat} {os : List Nat} {x : It} {xs : List It} (h : Tg w G tw db st sz (.slice (some ⟨go, 0, none⟩) n co) (.slice (some ⟨gw, 0, none⟩) n cw) os xs) (hol : os.length = n) (hx : xs.length = n) (hk : k < n) (ho : os[k]? = some o) (hxk : xs[k]? = some x) : TgC w tw n go co gw cw k o x := by
  have r1 := h.o.row
  rw [hol] at r1
  have r2 := h.x.row
  rw [hx] at r2
  refine ⟨by simp [World.cell?, h.box], by simp [World.cell?, h.box], ?_, ?_⟩
  · rw [r1.cellAt k (by omega), List.getElem?_map, ho]; rfl
  · rw [r2.cellAt k (by omega), List.getElem?_map, hxk]; rfl
theorem Calm.ck {S : DevS} (h : Calm S) (fa : Nat → List Int) (a : List (Nat × Nat)) (st : Nat) (seq : Int) (place : Nat) : Calm (ckS S fa a st seq place) := by
  have hh : ∀ i, Calm (homeS S fa a i) := fun i => by
    induction i with
    | zero => exact h
    | succ i ih => exact ih.burnt.wrote _ _
  exact ((((hh a.length).burnt.flushed).burnt.wrote _ _).burnt).flushed
theorem Tg.to {w w' : World} {G G' : Nat → Prop} {tw db st sz : Nat} {ov wv : Value} {os : List Nat} {xs : List It} (h : Tg w G tw db st sz ov wv os xs) (k : Kp G w w') (hG : ∀ i, G' i → G i ∨ w.heap.size ≤ i) : Tg w' G' tw db st sz ov wv os xs := by
  have n : ∀ i, i < w.heap.size → ¬ G i → ¬ G' i := fun i hi hg r => (hG i r).elim hg (fun q => by omega)
  have T := h.kp k
  refine ⟨T.box, ⟨T.o.row, fun b hb => n b (h.o.row.lt b hb).2 (h.o.gr b hb)⟩, ⟨T.x.row, fun b hb => n b (h.x.row.lt b hb).2 (h.x.gr b hb), fun x hx => ?_⟩, n tw (heap_lt h.box) h.gt⟩
  have hI := h.x.it x hx
  exact ⟨(T.x.it x hx).own, n x.g (hI.own.lt x.g rfl).2 hI.ng, hI.by_⟩
end Go.Proofs.YtnmdnglbpkpfdaaGreatDoor

/- Puts that came in; what a fill's loop holds. -/
namespace Go.Proofs.YtnmdnglbpkpfdaaGreatDoor
open Go.RowKit Go.Maps
set_option maxRecDepth 100000
/-- A put that came in. -/
structure Pt where
  pb : Int
  da : Option Addr
  dn : Nat
  dc : Nat
  ds : List Int
def Pt.cells (e : Pt) : List Value := [.int .i64 e.pb, .slice e.da e.dn e.dc]
structure PtIn (w : World) (e : Pt) : Prop where
  d : Lies w e.da e.dn e.dc e.ds
  y : ∀ x ∈ e.ds, 0 ≤ x ∧ x ≤ 255
  n : e.dn ≤ 140737488355328
structure PtLies (w : World) (ao : Option Addr) (n : Nat) (ps : List Pt) : Prop where
  hlen : ps.length = n
  hcells : ∀ (j : Nat) e, ps[j]? = some e → PtIn w e ∧ ∃ g p, ao = some ⟨g, p, none⟩ ∧ ∀ t v, e.cells[t]? = some v → w.cell? ⟨g, p + j * 2 + t, none⟩ = some v
end Go.Proofs.YtnmdnglbpkpfdaaGreatDoor

/- The steps of a fill. -/
namespace Go.Proofs.YtnmdnglbpkpfdaaGreatDoor
open Go.RowKit Go.Maps
set_option maxRecDepth 100000
theorem Tg.turnN {w w' : World} {G : Nat → Prop} {tw db st sz : Nat} {ov wv : Value} {os : List Nat} {xs : List It} {g : Nat} {cs : Array Value} {fz : Nat × Nat} (h : Tg w G tw db st sz ov wv os xs) (hg : w.heap[g]? = some (.cells cs 56 fz)) (hn : wv.ownBlock ≠ some g) (u : Turns (fun i => i = g) w w') : Tg w' G tw db st sz ov wv os xs :=
  ⟨(u.block tw (heap_lt h.box) (fun e => by rw [← e, h.box] at hg; simp at hg)).trans h.box, h.o.turn1 hg (by decide) u, h.x.turnN hg hn u, h.gt⟩
section
variable {w w' : World} {G : Nat → Prop} {d : Nat} {S : DevS} {k N jb st sz : Nat} {seq : Int} {place : Nat} {free : Int} {bm nd : Nat} {a : List (Nat × Nat)} {fa : Nat → List Int} {tb wm ns : Nat} {m : List (Nat × Nat)} {f : Nat → List Int} {sv : Value} {last : Int} {tw : Nat} {ov wv : Value} {os : List Nat} {xs : List It} {nv : Value} {ys : List It} {sn : Value} {ks : List Nat}
end
end Go.Proofs.YtnmdnglbpkpfdaaGreatDoor
