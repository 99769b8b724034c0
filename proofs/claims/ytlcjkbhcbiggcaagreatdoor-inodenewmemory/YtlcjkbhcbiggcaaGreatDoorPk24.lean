/- The statements' shape, its layout; a journal on a new device of its size. -/
import Derived.Test.YtlcjkbhcbiggcaaGreatDoorPk22
import Derived.Test.YtlcjkbhcbiggcaaGreatDoorPk23
namespace Go.Proofs.YtlcjkbhcbiggcaaGreatDoor
open Go.RowKit Go.Maps
set_option maxRecDepth 100000

def shp9 (N : Nat) : Shp := ⟨1, 1, 1, 1, N, 0, 4 * N, 27⟩
/-- How many blocks there are. -/
def tot9 (N : Nat) : Nat := 34 + (N + 3) / 4 + 4 * N
def lay9 (N : Nat) : Lay := ⟨1, 2, 27, 29, 4, 33, 1, 34, ((N + 3) / 4 : Nat), (34 + (N + 3) / 4 : Nat), (4 * N : Nat), tot9 N, shp9 N⟩
theorem plan9_e {N : Nat} (h1 : 2 ≤ N) (h2 : N ≤ 256) : planE (shp9 N) = 0 := by
  have hi : InB (shp9 N) := by constructor <;> simp [shp9] <;> omega
  unfold planE
  rw [if_neg (by simpa using hi), if_neg]
  simp [shp9, leastD, layOf]
  omega
theorem plan9_l {N : Nat} (h1 : 2 ≤ N) (h2 : N ≤ 256) : planL (shp9 N) = lay9 N := by
  unfold planL
  rw [if_pos (plan9_e h1 h2)]
  simp [layOf, shp9, lay9, tot9]
theorem num9_any (x : Int) (w : World) : Calls Tryz.prog 31 #[.int .i64 x] w fun e w' => e = .returned (.int .i64 x) ∧ w' = w := by
  go_enter Tryz.func31, Tryz.ntmps31
  go_wp2
  go_ret
  exact ⟨rfl, rfl⟩
theorem shape9_any (N : Nat) (hN : N ≤ 256) (w : World) : Calls Tryz.prog 30 #[.int .i64 N] w fun e w' => e = .returned (shV (shp9 N)) ∧ Below w.heap.size w w' := by
  have hN' : (N : Int) ≤ 256 := by omega
  go_enter Tryz.func30, Tryz.ntmps30
  go_wp2
  refine bodyPost_ret (res1 rfl _ _ w.heap.size 58 _ (0, 0) _ rfl (heap_alloc_last w _) Tryz.underlying58 rfl (by kernel_rfl)) rfl ?_
  exact ⟨rfl, (Below.refl _ w).alloc (Nat.le_refl _) _⟩
theorem plan9_ok {N : Nat} (h1 : 2 ≤ N) (h2 : N ≤ 256) (w : World) (hB : Bds w) :
    Calls Tryz.prog 29 #[shV (shp9 N)] w fun e w' => e = .returned (.tuple #[lyV (lay9 N), .int .i64 0]) ∧ Below w.heap.size w w' := by
  refine (plan_any (shp9 N) w hB).mono ?_
  rintro e w' ⟨rfl, b⟩
  refine ⟨?_, b⟩
  rw [plan9_l h1 h2, plan9_e h1 h2]
/-- What a new device holds; behind Format. -/
def S9 (K : Nat) : DevS := fresh (List.replicate (512 * K) 0)
def F9 (K : Nat) : DevS := fmtS (S9 K) 2 27
theorem S9_good {K : Nat} (h1 : 1 ≤ K) (h2 : K ≤ 4096) : Good (S9 K) K := Good.fresh (by simp) h1 h2 (fun x hx => by have := List.eq_of_mem_replicate hx; omega)
theorem F9_calm (K : Nat) : Calm (F9 K) := Calm.fmt ⟨rfl, rfl⟩ 2 27
theorem rdB_zeros9 (n x : Nat) (h : x < n) : rdB (S9 n) x = zB := by
  show (none : Option (List Int)).getD (((List.replicate (512 * n) (0 : Int)).drop (512 * x)).take 512) = zB
  rw [Option.getD_none, List.drop_replicate, List.take_replicate, Nat.min_eq_left (by omega)]
  rfl
theorem F9_out {K x : Nat} (h1 : 29 ≤ K) (h2 : K ≤ 4096) (hx : x < K) (ho : x < 2 ∨ 29 ≤ x) : rdB (F9 K) x = zB := by
  unfold F9
  rw [rdB_fmt (S9_good (by omega) h2) (by omega) (by omega), if_neg (by omega), if_neg (by omega), rdB_zeros9 K x hx]
theorem Good.reads9 {S : DevS} {k : Nat} (h : Good S k) (b : Nat) (hb : b < k) : (rdB S b).length = 512 ∧ ∀ x ∈ rdB S b, 0 ≤ x ∧ x ≤ 255 := by
  unfold rdB
  cases hn : newest S.pend b with
  | none =>
    refine ⟨?_, fun x hx => h.by_ x ?_⟩
    · show ((S.last.drop (512 * b)).take 512).length = 512
      have := h.len
      simp
      omega
    · exact List.mem_of_mem_drop (List.mem_of_mem_take (show x ∈ (S.last.drop (512 * b)).take 512 from hx))
  | some d =>
    unfold newest at hn
    rw [Option.map_eq_some_iff] at hn
    obtain ⟨p, hp, rfl⟩ := hn
    have hm := List.mem_of_find?_eq_some hp
    exact (h.pend p (List.mem_reverse.1 hm)).2
theorem format9 {w : World} {d K : Nat} {F : Nat → Prop} (h1 : 29 ≤ K) (hD : Dev w d 0 (S9 K) K 0 F) :
    Calls Tryz.prog 33 #[.pointer (some ⟨d, 0, none⟩), .int .i64 2, .int .i64 27] w fun e w' => e = .returned (.int .i64 0) ∧ Dev w' d 0 (F9 K) K 27 (grow F w w') ∧ Turns F w w' :=
  format_ok hD 2 27 (by omega) h1 ⟨rfl, Or.inl rfl⟩ (by omega)
theorem open9 {w : World} {d K N : Nat} {F : Nat → Prop} {er : Nat → Addr} (h1 : 29 ≤ K) (h2 : K ≤ 4096) (hD : Dev w d 0 (F9 K) K N F) (hEF : ∀ w', Turns F w w' → Errs w' er) (fa : Nat → List Int) :
    Calls Tryz.prog 80 #[.pointer (some ⟨d, 0, none⟩), .int .i64 2, .int .i64 27] w fun e w' => ∃ jb bm, e = .returned (.tuple #[.pointer (some ⟨jb, 0, none⟩), .int .i64 0, .int .i64 0]) ∧ w.heap.size ≤ jb ∧ w.heap.size ≤ bm ∧ (∃ G, Jn w' d (F9 K) K N G jb 2 27 ((1 : Nat) : Int) 0 26 bm 0 [] fa ∧ ∀ i, G i → F i ∨ w.heap.size ≤ i) ∧ Turns F w w' := by
  have hg := S9_good (K := K) (by omega) h2
  have hr2 : rdB (F9 K) 2 = jheadB 1 0 := by unfold F9; rw [rdB_fmt hg (by omega) (by omega), if_pos rfl]
  have hr3 : rdB (F9 K) (2 + 1 + 0 % (27 - 1)) = zB := by unfold F9; rw [rdB_fmt hg (by omega) (by omega), if_neg (by omega), if_pos (by omega)]
  have hh := head_back 1 0 ((27 : Nat) - 1) (by omega) (by omega) (by omega) (by omega)
  refine (open_empty hD 2 27 (by omega) h1 (F9_calm K).on hEF 1 0 ?_ ?_ (by omega) (by omega) ?_ (fun b hb => hD.good.reads9 b hb)).mono ?_
  · rw [hr2]; exact ⟨hh.1, hh.2.1⟩
  · rw [hr2]; exact hh.2.2
  · rw [hr3]; exact zB_begs
  · rintro e w' ⟨jb, bm, rfl, l1, l2, J, M, ⟨G, D', hG, nj, nb⟩, t⟩
    exact ⟨jb, bm, rfl, l1, l2, ⟨G, ⟨D', J, M, (fun p hp => by cases hp), nj, nb, (fun p hp => by cases hp), fun e => by rw [e] at J; exact mp_cells M J rfl⟩, hG⟩, t⟩
end Go.Proofs.YtlcjkbhcbiggcaaGreatDoor

/- A world of the statements; open. -/
namespace Go.Proofs.YtlcjkbhcbiggcaaGreatDoor
open Go.RowKit Go.Maps
set_option maxRecDepth 100000

def wA (l : Lay) (d j t : Option Addr) : Array Value := #[.int .i64 l.bo, .int .i64 l.jr, .int .i64 l.jl, .int .i64 l.le, .int .i64 l.ll, .int .i64 l.bi, .int .i64 l.bl, .int .i64 l.ta, .int .i64 l.tl, .int .i64 l.dt, .int .i64 l.dl, .int .i64 l.to, .int .i64 l.sh.cl, .int .i64 l.sh.wi, .int .i64 l.sh.pl, .int .i64 l.sh.ca, .int .i64 l.sh.ino, .int .i64 l.sh.qu, .int .i64 l.sh.da, .int .i64 l.sh.jo, .bool false, .pointer d, .pointer j, .pointer t, .pointer none, .pointer none, .pointer none, .bool false, .slice none 0 0]
/-- A world in memory. -/
def Wb (w : World) (b : Nat) (l : Lay) (d j t : Option Addr) : Prop := w.heap[b]? = some (.cells (wA l d j t) 69 (0, 0))
structure WbC (w : World) (b : Nat) (l : Lay) (d j t : Option Addr) : Prop where
  c1 : w.cell? ⟨b, 1, none⟩ = some (.int .i64 l.jr)
  c2 : w.cell? ⟨b, 2, none⟩ = some (.int .i64 l.jl)
  c7 : w.cell? ⟨b, 7, none⟩ = some (.int .i64 l.ta)
  c8 : w.cell? ⟨b, 8, none⟩ = some (.int .i64 l.tl)
  c16 : w.cell? ⟨b, 16, none⟩ = some (.int .i64 l.sh.ino)
  c20 : w.cell? ⟨b, 20, none⟩ = some (.bool false)
  c21 : w.cell? ⟨b, 21, none⟩ = some (.pointer d)
  c22 : w.cell? ⟨b, 22, none⟩ = some (.pointer j)
  c23 : w.cell? ⟨b, 23, none⟩ = some (.pointer t)
  c27 : w.cell? ⟨b, 27, none⟩ = some (.bool false)
  c28 : w.cell? ⟨b, 28, none⟩ = some (.slice none 0 0)
  fz : ∀ o, w.frozen? ⟨b, o, none⟩ = false
  ly : w.rangeAt b 0 [.int .i64 l.bo, .int .i64 l.jr, .int .i64 l.jl, .int .i64 l.le, .int .i64 l.ll, .int .i64 l.bi, .int .i64 l.bl, .int .i64 l.ta, .int .i64 l.tl, .int .i64 l.dt, .int .i64 l.dl, .int .i64 l.to, .int .i64 l.sh.cl, .int .i64 l.sh.wi, .int .i64 l.sh.pl, .int .i64 l.sh.ca, .int .i64 l.sh.ino, .int .i64 l.sh.qu, .int .i64 l.sh.da, .int .i64 l.sh.jo]
theorem Wb.cells {w : World} {b : Nat} {l : Lay} {d j t : Option Addr} (h : Wb w b l d j t) : WbC w b l d j t := by
  unfold Wb at h
  refine ⟨?_, ?_, ?_, ?_, ?_, ?_, ?_, ?_, ?_, ?_, ?_, fun o => by simp [World.frozen?, h], fun k v hv => ?_⟩
  case refine_12 =>
    have hk : k < 20 := (List.getElem?_eq_some_iff.1 hv).1
    rw [Nat.zero_add]
    unfold World.cell?
    rw [h]
    show (Array.mk _)[k]? = _
    rw [← Array.getElem?_toList]
    exact (List.getElem?_append_left (l₁ := ([.int .i64 l.bo, .int .i64 l.jr, .int .i64 l.jl, .int .i64 l.le, .int .i64 l.ll, .int .i64 l.bi, .int .i64 l.bl, .int .i64 l.ta, .int .i64 l.tl, .int .i64 l.dt, .int .i64 l.dl, .int .i64 l.to, .int .i64 l.sh.cl, .int .i64 l.sh.wi, .int .i64 l.sh.pl, .int .i64 l.sh.ca, .int .i64 l.sh.ino, .int .i64 l.sh.qu, .int .i64 l.sh.da, .int .i64 l.sh.jo] : List Value)) (l₂ := ([.bool false, .pointer d, .pointer j, .pointer t, .pointer none, .pointer none, .pointer none, .bool false, .slice none 0 0] : List Value)) hk).trans hv
  all_goals simp [World.cell?, h, wA]
theorem Wb.below {w w' : World} {b : Nat} {l : Lay} {d j t : Option Addr} (h : Wb w b l d j t) (q : Below w.heap.size w w') : Wb w' b l d j t := (q.block b (heap_lt h)).trans h
theorem Wb.turns {F : Nat → Prop} {w w' : World} {b : Nat} {l : Lay} {d j t : Option Addr} (h : Wb w b l d j t) (q : Turns F w w') (hF : ¬ F b) : Wb w' b l d j t := (q.block b (heap_lt h) hF).trans h
theorem Wb.setJ {w : World} {b : Nat} {l : Lay} {d j t : Option Addr} (h : Wb w b l d j t) (j' : Option Addr) : Wb (w.setCell ⟨b, 22, none⟩ (.pointer j')) b l d j' t := by
  unfold Wb at h ⊢
  rw [heap_setCell_same _ _ _ _ _ _ h]
  rfl
theorem Wb.setT {w : World} {b : Nat} {l : Lay} {d j t : Option Addr} (h : Wb w b l d j t) (t' : Option Addr) : Wb (w.setCell ⟨b, 23, none⟩ (.pointer t')) b l d j t' := by
  unfold Wb at h ⊢
  rw [heap_setCell_same _ _ _ _ _ _ h]
  rfl
theorem Wb.setD {w : World} {b : Nat} {l : Lay} {d j t : Option Addr} (h : Wb w b l d j t) : Wb (w.setCell ⟨b, 27, none⟩ (.bool false)) b l d j t := by
  unfold Wb at h ⊢
  rw [heap_setCell_same _ _ _ _ _ _ h]
  rfl
theorem Wb.setS {w : World} {b : Nat} {l : Lay} {d j t : Option Addr} (h : Wb w b l d j t) : Wb (w.setCell ⟨b, 28, none⟩ (.slice none 0 0)) b l d j t := by
  unfold Wb at h ⊢
  rw [heap_setCell_same _ _ _ _ _ _ h]
  rfl
theorem Jn.moved {w w' : World} {d : Nat} {S : DevS} {k N : Nat} {G X : Nat → Prop} {jb st sz : Nat} {seq : Int} {place : Nat} {free : Int} {bm : Nat} {fa : Nat → List Int} (h : Jn w d S k N G jb st sz seq place free bm 0 [] fa) (t : Turns X w w') (hX : ∀ i, G i → ¬ X i) (nj : ¬ X jb) (nb : ¬ X bm) : Jn w' d S k N G jb st sz seq place free bm 0 [] fa :=
  ⟨h.D.turns t hX, (t.block jb (heap_lt h.J) nj).trans h.J, h.A.turns t nb, (fun p hp => by cases hp), h.gj, h.ga, (fun p hp => by cases hp), h.ja⟩
/-- What open leaves: a transaction on an empty journal. -/
structure OpR (w w' : World) (wb : Nat) (l : Lay) (d K : Nat) (F : Nat → Prop) : Prop where
  ex : ∃ c F', Wb w' wb l (some ⟨c.d, 0, none⟩) (some ⟨c.jb, 0, none⟩) (some ⟨c.tb, 0, none⟩) ∧ Tv w' c 0 F' (fun _ => zB) [] 0 ∧ (∀ i, F' i → F i ∨ w.heap.size ≤ i) ∧ c.k = K ∧ c.st = 2 ∧ c.sz = 27 ∧ c.seq = 1 ∧ c.sv = .slice none 0 0 ∧ c.last = 0
  tr : Turns (fun i => F i ∨ i = wb) w w'
set_option maxHeartbeats 4000000 in
theorem open9_ok {w : World} {wb d K : Nat} {l : Lay} {F : Nat → Prop} {er : Nat → Addr} (h1 : 29 ≤ K) (h2 : K ≤ 4096) (hW : Wb w wb l (some ⟨d, 0, none⟩) none none) (hj : l.jr = 2) (hjl : l.jl = 27) (hD : Dev w d 0 (F9 K) K 27 F) (hF : ¬ F wb) (hEF : ∀ w', Turns F w w' → Errs w' er) :
    Calls Tryz.prog 36 #[.pointer (some ⟨wb, 0, none⟩)] w fun e w' => e = .returned (.bool true) ∧ OpR w w' wb l d K F := by
  have k1 : w.cell? ⟨wb, 1, none⟩ = some (.int .i64 2) := by rw [← hj]; exact hW.cells.c1
  have k2 : w.cell? ⟨wb, 2, none⟩ = some (.int .i64 27) := by rw [← hjl]; exact hW.cells.c2
  have k21 := hW.cells.c21
  have HJ : Hid (l.jr = 2 ∧ l.jl = 27) := ⟨hj, hjl⟩
  clear hj hjl
  go_enter Tryz.func36, Tryz.ntmps36
  go_wp2_with fail
  go_region_held3 (fun w' => w'.cell? ⟨wb, 1, none⟩ = some (.int .i64 2) ∧ w'.cell? ⟨wb, 2, none⟩ = some (.int .i64 27) ∧ w'.cell? ⟨wb, 21, none⟩ = some (.pointer (some ⟨d, 0, none⟩)))
    (first | exact ⟨k1, k2, k21⟩ | exact ⟨y1, y2, y21⟩)
    (first | (go_at_call 80; refine (open9 (w := w.drew) h1 h2 hD.drew (fun w' t => hEF w' ((Turns.drewN F w 1).trans t (fun _ _ q => q))) (fun _ => [])).mono ?_; rintro e w3 ⟨jb, bm, rfl, ljb, lbm, ⟨G, J3, hG3⟩, t3⟩; have W3 := (Wb.turns (w := w.drew) hW t3 hF); have y1 : w3.cell? ⟨wb, 1, none⟩ = some (.int .i64 2) := (by rw [← HJ.out.1]; exact W3.cells.c1); have y2 : w3.cell? ⟨wb, 2, none⟩ = some (.int .i64 27) := (by rw [← HJ.out.2]; exact W3.cells.c2); have y21 := W3.cells.c21))
  clear y1 y2 y21 k1 k2 k21
  have hwl := heap_lt hW
  have nGw : ¬ G wb := fun q => (hG3 wb q).elim hF (fun q => by have : w.heap.size ≤ wb := q; omega)
  have njw : wb ≠ jb := fun e => by have : w.heap.size ≤ jb := ljb; omega
  have nbw : wb ≠ bm := fun e => by have : w.heap.size ≤ bm := lbm; omega
  have t03 : Turns F w w3 := (Turns.drewN F w 1).trans t3 (fun _ _ q => q)
  have k28 := W3.cells.c28
  have f28 := W3.cells.fz 28
  go_wp2_with fail
  refine (num9_any _ _).mono ?_
  rintro e wq ⟨rfl, hq⟩
  subst wq
  obtain ⟨W4, hW4⟩ : ∃ W, w3.setCell ⟨wb, 28, none⟩ (.slice none 0 0) = W := ⟨_, rfl⟩
  have B4 : Wb W4 wb l (some ⟨d, 0, none⟩) none none := by rw [← hW4]; exact W3.setS
  have t4 : Turns (fun i => i = wb) w3 W4 := by rw [← hW4]; exact Turns.cell w3 wb 28 _
  have k22 := B4.cells.c22
  have f22 := B4.cells.fz 22
  obtain ⟨W5, hW5⟩ : ∃ W, W4.setCell ⟨wb, 22, none⟩ (.pointer (some ⟨jb, 0, none⟩)) = W := ⟨_, rfl⟩
  have B5 : Wb W5 wb l (some ⟨d, 0, none⟩) (some ⟨jb, 0, none⟩) none := by rw [← hW5]; exact B4.setJ _
  have t5 : Turns (fun i => i = wb) w3 W5 := t4.trans (by rw [← hW5]; exact Turns.cell W4 wb 22 _) (fun _ _ q => q)
  have J5 := J3.moved t5 (fun i hi e => nGw (e ▸ hi)) njw.symm nbw.symm
  go_wp2_with fail
  try rw [hW4]
  go_wp2_with fail
  try rw [hW5]
  go_wp2_with fail
  refine (Tx.begin J5 (F9_calm K).on (fun _ => [])).mono ?_
  rintro e w6 ⟨tb, wm, rfl, ltb, lwm, X6, t6⟩
  have B6 : Wb w6 wb l (some ⟨d, 0, none⟩) (some ⟨jb, 0, none⟩) none := B5.turns t6 (fun q => q.elim nGw njw)
  have k23 := B6.cells.c23
  have f23 := B6.cells.fz 23
  have z5 := t5.size
  have ntw : wb ≠ tb := fun e => by have := heap_lt B5; omega
  have nmw : wb ≠ wm := fun e => by have := heap_lt B5; omega
  obtain ⟨W7, hW7⟩ : ∃ W, w6.setCell ⟨wb, 23, none⟩ (.pointer (some ⟨tb, 0, none⟩)) = W := ⟨_, rfl⟩
  have B7 : Wb W7 wb l (some ⟨d, 0, none⟩) (some ⟨jb, 0, none⟩) (some ⟨tb, 0, none⟩) := by rw [← hW7]; exact B6.setT _
  have k20 := B7.cells.c20
  have k23' := B7.cells.c23
  have k27 := B7.cells.c27
  have f27 := B7.cells.fz 27
  obtain ⟨W8, hW8⟩ : ∃ W, W7.setCell ⟨wb, 27, none⟩ (.bool false) = W := ⟨_, rfl⟩
  have B8 : Wb W8 wb l (some ⟨d, 0, none⟩) (some ⟨jb, 0, none⟩) (some ⟨tb, 0, none⟩) := by rw [← hW8]; exact B7.setD
  have k27' := B8.cells.c27
  have t8 : Turns (fun i => i = wb) w6 W8 := (show Turns (fun i => i = wb) w6 W7 by rw [← hW7]; exact Turns.cell w6 wb 23 _).trans (by rw [← hW8]; exact Turns.cell W7 wb 27 _) (fun _ _ q => q)
  clear k22 f22 k28 f28
  go_wp2_with fail
  try rw [hW7]
  go_wp2_with fail
  try rw [hW8]
  go_wp2_with fail
  try rw [hW8]
  go_wp2_with fail
  go_ret
  have hGl := J5.D.lt
  have t58 : Turns (fun i => (G i ∨ i = jb) ∨ i = wb) W5 W8 := (t6.mono (fun _ _ q => Or.inl q)).trans t8 (fun _ _ q => Or.inr q)
  obtain ⟨c, hc⟩ : ∃ c : Kc, c = ⟨d, F9 K, K, 27, G, jb, 2, 27, 1, 0, 26, bm, 0, [], (fun _ => []), tb, wm, .slice none 0 0, 0⟩ := ⟨_, rfl⟩
  have hft : ∀ i, foot c [] i → G i ∨ i = jb ∨ i = tb ∨ i = bm ∨ i = wm := by
    intro i hi
    rw [hc] at hi
    rcases hi with q | q | q | q | q | ⟨p, hp, _⟩ | ⟨p, hp, _⟩
    · exact Or.inl q
    · exact Or.inr (Or.inl q)
    · exact Or.inr (Or.inr (Or.inl q))
    · exact Or.inr (Or.inr (Or.inr (Or.inl q)))
    · exact Or.inr (Or.inr (Or.inr (Or.inr q)))
    · cases hp
    · cases hp
  have hX : ∀ i, foot c [] i → ¬ i = wb := by
    intro i hi e
    rcases hft i hi with q | q | q | q | q
    · exact nGw (e ▸ q)
    · exact njw (e ▸ q)
    · exact ntw (e ▸ q)
    · exact nbw (e ▸ q)
    · exact nmw (e ▸ q)
  have X6c : Tx w6 c.d c.S c.k c.N c.G c.jb c.st c.sz (c.seq : Int) c.place c.free c.bm c.nd c.a c.fa c.tb c.wm 0 [] (fun _ => []) c.sv c.last := by rw [hc]; exact X6
  have X8 := X6c.keep t8 hX
  have lj : jb < W8.heap.size := by have := heap_lt X8.J; rw [hc] at this; exact this
  have lt' : tb < W8.heap.size := by have := heap_lt X8.T; rw [hc] at this; exact this
  have lb : bm < W8.heap.size := by have := X8.A.lt; rw [hc] at this; exact this
  have lm : wm < W8.heap.size := by have := X8.M.lt; rw [hc] at this; exact this
  have hsz := t58.size
  refine ⟨rfl, ⟨c, foot c [], by rw [hc]; exact B8, ⟨⟨0, [], (fun _ => []), ⟨X8, (fun p hp => by cases hp)⟩, Nat.le_refl _, rfl, fun _ q => q, fun b hb => ?_⟩, ?_, fun i hi => ?_, fun b _ => ⟨rfl, zB_by⟩⟩, fun i hi => ?_, by rw [hc], by rw [hc], by rw [hc], by rw [hc], by rw [hc], by rw [hc]⟩, ?_⟩
  · rw [hc] at hb ⊢
    show rdB (F9 K) b = zB
    exact F9_out h1 h2 hb.1 hb.2
  · rw [hc]
    refine ⟨⟨[], 1, 0, Lg.fmt (S9_good (by omega) h2) (by omega) h1, fun b => rfl⟩, (fun p hp => by cases hp), (by decide : ((0 : Nat) : Int) + 26 ≤ (27 : Nat)), F9_calm K, (by decide : 27 ≤ 100 + 100000 * 0), (by decide : 1 ≤ 1 + 0)⟩
  · rcases hft i hi with q | q | q | q | q
    · have := hGl i q; omega
    · omega
    · omega
    · omega
    · omega
  · rcases hft i hi with q | q | q | q | q
    · exact hG3 i q
    · exact Or.inr (by rw [q]; exact ljb)
    · exact Or.inr (by have := t03.size; omega)
    · exact Or.inr (by rw [q]; exact lbm)
    · exact Or.inr (by have := t03.size; omega)
  · refine ((t03.mono (fun _ _ q => Or.inl q)).trans t5 (fun _ _ q => Or.inr q)).trans t58 (fun i hi q => ?_)
    rcases q with (q | q) | q
    · exact Or.inl ((hG3 i q).resolve_right (fun r => by have : w.heap.size ≤ i := r; omega))
    · have : w.heap.size ≤ jb := ljb
      omega
    · exact Or.inr q
end Go.Proofs.YtlcjkbhcbiggcaaGreatDoor

/- begin. -/
namespace Go.Proofs.YtlcjkbhcbiggcaaGreatDoor
open Go.RowKit Go.Maps
set_option maxRecDepth 100000

theorem LyB.to {w : World} {b : Nat} {l : Lay} (h : LyB w b l) : w.cell? ⟨b, 11, none⟩ = some (.int .i64 l.to) := by unfold LyB at h; simp [World.cell?, h]
theorem LyB.jr {w : World} {b : Nat} {l : Lay} (h : LyB w b l) : w.cell? ⟨b, 1, none⟩ = some (.int .i64 l.jr) := by unfold LyB at h; simp [World.cell?, h]
theorem LyB.jl {w : World} {b : Nat} {l : Lay} (h : LyB w b l) : w.cell? ⟨b, 2, none⟩ = some (.int .i64 l.jl) := by unfold LyB at h; simp [World.cell?, h]
/-- A world of the statements: its box, its transaction, its table. -/
structure St (w0 w : World) (wb N : Nat) (c : Kc) (i : Nat) (F : Nat → Prop) (v : Nat → List Int) (ks : List Nat) (m : Nat) (T : Nat → Rec) : Prop where
  B : Wb w wb (lay9 N) (some ⟨c.d, 0, none⟩) (some ⟨c.jb, 0, none⟩) (some ⟨c.tb, 0, none⟩)
  tv : Tv w c i F v ks m
  R : Tab (lay9 N) 34 N v T
  k : c.k = tot9 N
  st : c.st = 2
  sz : c.sz = 27
  n1 : 2 ≤ N
  n2 : N ≤ 256
  nF : ¬ F wb
  new : w0.heap.size ≤ wb
  fnew : ∀ i, F i → w0.heap.size ≤ i
  bel : Below w0.heap.size w0 w
theorem St.geo {w0 w : World} {wb N : Nat} {c : Kc} {i : Nat} {F : Nat → Prop} {v : Nat → List Int} {ks : List Nat} {m : Nat} {T : Nat → Rec} (h : St w0 w wb N c i F v ks m T) : Geo (lay9 N) c 34 N := by
  have := h.n1
  have := h.n2
  refine ⟨⟨?_, ?_, ?_, ?_⟩, rfl, rfl, h.n2, by omega, fun n hn => ?_⟩
  · show (0 : Int) ≤ ((34 + (N + 3) / 4 : Nat) : Int); omega
  · show ((34 + (N + 3) / 4 : Nat) : Int) ≤ 4096; omega
  · show (0 : Int) ≤ ((4 * N : Nat) : Int); omega
  · show ((4 * N : Nat) : Int) ≤ 4096; omega
  · unfold Kc.out
    rw [h.k, h.st, h.sz]
    unfold tot9
    omega
theorem rit0 (l : Lay) : Rit l rec0 := ⟨⟨Int.le_refl 0, (by decide : (0 : Int) ≤ 1099511627776), Int.le_refl 0, (by decide : (0 : Int) ≤ 2), Int.le_refl 0, (by decide : (0 : Int) ≤ 69632), Int.le_refl 0, (by decide : (0 : Int) ≤ 4611686018427387904), fun _ _ => ⟨Int.le_refl 0, (by decide : (0 : Int) ≤ 8192)⟩, Int.le_refl 0, (by decide : (0 : Int) ≤ 8192)⟩, fun _ => rfl, fun h => absurd rfl h⟩
theorem tab0 (l : Lay) (N : Nat) : Tab l 34 N (fun _ => zB) (fun _ => rec0) := by
  refine ⟨fun n _ => ?_, fun _ _ => rit0 l⟩
  rw [rec0_b]
  show (((List.replicate 512 (0 : Int)).drop (n % 4 * 128)).take 128) = _
  rw [List.drop_replicate, List.take_replicate]
  congr 1
  omega
/-- What begin leaves. -/
def BgR (w w' : World) (N : Nat) (e : Ending) : Prop := ∃ wb c F, e = .returned (.pointer (some ⟨wb, 0, none⟩)) ∧ St w w' wb N c 0 F (fun _ => zB) [] 0 (fun _ => rec0) ∧ c.seq = 1 ∧ c.sv = .slice none 0 0 ∧ c.last = 0
attribute [local go_sem ↓ 100000] ly_store ly_load ly_ex
attribute [local go_sem] LyStore.new LyStore.drew LyLoad.new LyLoad.drew
set_option maxHeartbeats 4000000 in
theorem begin9_ok {N : Nat} (h1 : 2 ≤ N) (h2 : N ≤ 256) (w : World) (hB : Bds w) {er : Nat → Addr} (hE : Errs w er) :
    Calls Tryz.prog 9 #[.int .i64 (N : Nat), .bool false] w fun e w' => BgR w w' N e := by
  go_enter Tryz.func9, Tryz.ntmps9
  go_wp2_with fail
  refine (shape9_any N h2 w).mono ?_
  rintro e w1 ⟨rfl, b1⟩
  go_wp2_with fail
  refine (plan9_ok h1 h2 w1 (hB.later b1 (Nat.le_refl _))).mono ?_
  rintro e w2 ⟨rfl, b2⟩
  have b02 := b1.trans (b2.mono b1.size)
  obtain ⟨l, hl⟩ : ∃ l, lay9 N = l := ⟨_, rfl⟩
  have HL : Hid (lay9 N = l) := hl
  have hto : l.to = (tot9 N : Nat) := by rw [← hl]; rfl
  have hjr : l.jr = 2 := by rw [← hl]; rfl
  have hjl : l.jl = 27 := by rw [← hl]; rfl
  rw [hl]
  clear hl b1 b2
  obtain ⟨W3, hW3⟩ : ∃ W, w2.alloc (.cells #[.int .i64 l.bo, .int .i64 l.jr, .int .i64 l.jl, .int .i64 l.le, .int .i64 l.ll, .int .i64 l.bi, .int .i64 l.bl, .int .i64 l.ta, .int .i64 l.tl, .int .i64 l.dt, .int .i64 l.dl, .int .i64 l.to, .int .i64 l.sh.cl, .int .i64 l.sh.wi, .int .i64 l.sh.pl, .int .i64 l.sh.ca, .int .i64 l.sh.ino, .int .i64 l.sh.qu, .int .i64 l.sh.da, .int .i64 l.sh.jo] 60) = W := ⟨_, rfl⟩
  have b3 : Below w2.heap.size w2 W3 := by rw [← hW3]; exact (Below.refl _ w2).alloc (Nat.le_refl _) _
  have L3 : LyB W3 w2.heap.size l := by rw [← hW3]; exact LyB.new w2 l
  have b03 := b02.trans (b3.mono b02.size)
  have k11 : W3.cell? ⟨w2.heap.size, 11, none⟩ = some (.int .i64 (tot9 N : Nat)) := by rw [← hto]; exact L3.to
  have HG : Hid (l.to = (tot9 N : Nat) ∧ l.jr = 2 ∧ l.jl = 27) := ⟨hto, hjr, hjl⟩
  clear hto hjr hjl
  go_wp2_with fail
  try rw [hW3]
  go_wp2_with fail
  refine (num9_any _ _).mono ?_
  rintro e wq ⟨rfl, hq⟩
  subst wq
  go_wp2_with fail
  have x3 := L3.ex
  have x3d := LyB.ex (w := W3.drew) L3
  have hK1 : 29 ≤ tot9 N := by unfold tot9; omega
  have hK2 : tot9 N ≤ 4096 := by unfold tot9; omega
  obtain ⟨K, hK⟩ : ∃ K, tot9 N = K := ⟨_, rfl⟩
  have HK : Hid (tot9 N = K) := hK
  rw [hK] at k11 hK1 hK2
  clear hK
  go_region_held3 (fun w' => (LyEx (.pointer (some ⟨w2.heap.size, 0, none⟩))).run Tryz.prog w' = .ok (.value (lyV l)) w' ∧ w'.cell? ⟨w2.heap.size, 11, none⟩ = some (.int .i64 (K : Nat)))
    (first | exact ⟨x3, k11⟩ | exact ⟨x3d, k11⟩ | exact ⟨x4, k4⟩ | exact ⟨x5 _, k5 _⟩)
    (first | (go_at_call 32; refine (new_good K W3.drew (by omega) hK2).mono ?_; rintro e w4 ⟨db, rfl, D4, b4⟩; have L4 := LyB.below (w := W3.drew) L3 b4; have x4 := L4.ex; have k4 : w4.cell? ⟨w2.heap.size, 11, none⟩ = some (.int .i64 (K : Nat)) := (by rw [← HK.out, ← HG.out.1]; exact L4.to); have x5 := fun o => LyB.ex (L4.below ((Below.refl _ w4).alloc (Nat.le_refl _) o)); have k5 : ∀ o, (w4.alloc o).cell? ⟨w2.heap.size, 11, none⟩ = some (.int .i64 (K : Nat)) := (fun o => by rw [← HK.out, ← HG.out.1]; exact (L4.below ((Below.refl _ w4).alloc (Nat.le_refl _) o)).to)))
  clear x3 x3d x4 k4 x5 k5 k11
  obtain ⟨W5, hW5⟩ : ∃ W, w4.alloc (.cells #[.int .i64 l.bo, .int .i64 l.jr, .int .i64 l.jl, .int .i64 l.le, .int .i64 l.ll, .int .i64 l.bi, .int .i64 l.bl, .int .i64 l.ta, .int .i64 l.tl, .int .i64 l.dt, .int .i64 l.dl, .int .i64 l.to, .int .i64 l.sh.cl, .int .i64 l.sh.wi, .int .i64 l.sh.pl, .int .i64 l.sh.ca, .int .i64 l.sh.ino, .int .i64 l.sh.qu, .int .i64 l.sh.da, .int .i64 l.sh.jo, .bool false, .pointer (some ⟨db, 0, none⟩), .pointer none, .pointer none, .pointer none, .pointer none, .pointer none, .bool false, .slice none 0 0] 69) = W := ⟨_, rfl⟩
  have b5 : Below w4.heap.size w4 W5 := by rw [← hW5]; exact (Below.refl _ w4).alloc (Nat.le_refl _) _
  have B5 : Wb W5 w4.heap.size l (some ⟨db, 0, none⟩) none none := by rw [← hW5]; exact heap_alloc_last w4 _
  have L5 := L4.below b5
  have D5 := D4.below b5
  have b34 : Below W3.heap.size W3 w4 := (Below.drew (Below.refl _ W3)).trans b4
  have b04 := b03.trans (b34.mono b03.size)
  have b05 := b04.trans (b5.mono b04.size)
  have z4 : w2.heap.size < W3.heap.size := heap_lt L3
  have z34 := b34.size
  have nGw : ¬ grow (fun _ => False) W3.drew w4 w4.heap.size := fun q => q.elim id (fun q => by omega)
  have nGl : ¬ grow (fun _ => False) W3.drew w4 w2.heap.size := fun q => q.elim id (fun q => by have : W3.heap.size ≤ w2.heap.size := q.1; omega)
  have q21 := B5.cells.c21
  have q1 : W5.cell? ⟨w2.heap.size, 1, none⟩ = some (.int .i64 2) := by rw [← HG.out.2.1]; exact L5.jr
  have q2 : W5.cell? ⟨w2.heap.size, 2, none⟩ = some (.int .i64 27) := by rw [← HG.out.2.2]; exact L5.jl
  obtain ⟨wb, hwb⟩ : ∃ wb, w4.heap.size = wb := ⟨_, rfl⟩
  rw [hW5]
  rw [hwb] at B5 nGw q21 ⊢
  clear hW5
  go_wp2_with fail
  have D5d : Dev W5.drew db 0 (S9 K) K 0 (grow (fun _ => False) W3.drew w4) := D5.drew
  go_region_held3 (fun w' => w'.cell? ⟨wb, 21, none⟩ = some (.pointer (some ⟨db, 0, none⟩)) ∧ w'.cell? ⟨w2.heap.size, 1, none⟩ = some (.int .i64 2) ∧ w'.cell? ⟨w2.heap.size, 2, none⟩ = some (.int .i64 27))
    (first | exact ⟨q21, q1, q2⟩ | exact ⟨y21, y1, y2⟩)
    (first | (go_at_call 33; refine (format9 hK1 D5d).mono ?_; rintro e w6 ⟨rfl, D6, t6⟩; have B6 := Wb.turns (w := W5.drew) B5 t6 nGw; have L6 : LyB w6 w2.heap.size l := (t6.block _ (heap_lt L5) nGl).trans L5; have y21 := B6.cells.c21; have y1 : w6.cell? ⟨w2.heap.size, 1, none⟩ = some (.int .i64 2) := (by rw [← HG.out.2.1]; exact L6.jr); have y2 : w6.cell? ⟨w2.heap.size, 2, none⟩ = some (.int .i64 27) := (by rw [← HG.out.2.2]; exact L6.jl)))
  clear q21 q1 q2 y21 y1 y2
  go_wp2_with fail
  refine (num9_any _ _).mono ?_
  rintro e wq ⟨rfl, hq⟩
  subst wq
  have z6 := t6.size
  have z5 : w4.heap.size < W5.heap.size := by rw [hwb]; exact heap_lt B5
  have F4 : ∀ i, grow (fun _ => False) W3.drew w4 i → w.heap.size ≤ i := fun i q => q.elim False.elim (fun q => by have := b03.size; have : W3.heap.size ≤ i := q.1; omega)
  have t56 : Turns (grow (fun _ => False) W3.drew w4) W5 w6 := (Turns.drewN _ W5 1).trans t6 (fun _ _ q => q)
  have b06 : Below w.heap.size w w6 := b05.trans (t56.below F4 b05.size)
  have F6 : ∀ i, grow (grow (fun _ => False) W3.drew w4) W5.drew w6 i → w.heap.size ≤ i := fun i q => q.elim (F4 i) (fun q => by have := b05.size; have : W5.heap.size ≤ i := q.1; omega)
  have n6 : ¬ grow (grow (fun _ => False) W3.drew w4) W5.drew w6 wb := fun q => q.elim nGw (fun q => by have : W5.heap.size ≤ wb := q.1; omega)
  go_wp2_with fail
  refine (open9_ok hK1 hK2 B6 HG.out.2.1 HG.out.2.2 D6 n6 (fun w' t => hE.below (b06.trans (t.below F6 b06.size)) (Nat.le_refl _))).mono ?_
  rintro e w7 ⟨rfl, R7⟩
  go_wp2_with fail
  go_ret
  obtain ⟨c, F', B7, T7, f7, hk, hst, hsz, hsq, hsv, hla⟩ := R7.ex
  have hwbw : w.heap.size ≤ wb := by have := b04.size; omega
  have b07 : Below w.heap.size w w7 := b06.trans (R7.tr.below (fun i q => q.elim (F6 i) (fun e => e ▸ hwbw)) b06.size)
  have hcd : Wb w7 wb (lay9 N) (some ⟨c.d, 0, none⟩) (some ⟨c.jb, 0, none⟩) (some ⟨c.tb, 0, none⟩) := by rw [HL.out]; exact B7
  refine ⟨wb, c, F', rfl, ⟨hcd, T7, tab0 _ _, by rw [hk, HK.out], hst, hsz, h1, h2, ?_, hwbw, fun i hi => (f7 i hi).elim (F6 i) (fun q => by have := b06.size; omega), b07⟩, hsq, hsv, hla⟩
  intro q
  rcases f7 wb q with q | q
  · exact n6 q
  · have : W5.heap.size ≤ w6.heap.size := t56.size
    omega
end Go.Proofs.YtlcjkbhcbiggcaaGreatDoor

/- What a call leaves, in one word; the table behind it. -/
namespace Go.Proofs.YtlcjkbhcbiggcaaGreatDoor
open Go.RowKit Go.Maps
set_option maxRecDepth 100000

/-- What a call leaves that has written nothing, or one slot. -/
def Rz (w w' : World) (B : Nat) (c : Kc) (i : Nat) (F : Nat → Prop) (v : Nat → List Int) (ks : List Nat) (m ta : Nat) : Option (Nat × Rec) → Prop
  | none => Tv w' c i F v ks m ∧ Turns F w w'
  | some (n, r) => WrB w w' B c i F v ks m ta n r
theorem Rz.tr {w w' : World} {B : Nat} {c : Kc} {i : Nat} {F : Nat → Prop} {v : Nat → List Int} {ks : List Nat} {m ta : Nat} : ∀ {o : Option (Nat × Rec)}, Rz w w' B c i F v ks m ta o → Turns F w w'
  | none, h => h.2
  | some _, h => WrB.tr h
theorem Rz.from {w0 w w' : World} {B : Nat} {c : Kc} {i : Nat} {F : Nat → Prop} {v : Nat → List Int} {ks : List Nat} {m ta : Nat} (t : Turns F w0 w) : ∀ {o : Option (Nat × Rec)}, Rz w w' B c i F v ks m ta o → Rz w0 w' B c i F v ks m ta o
  | none, h => ⟨h.1, t.trans h.2 (fun _ _ q => q)⟩
  | some _, h => WrB.from h t
theorem Rz.mono {w w' : World} {B B' : Nat} {c : Kc} {i : Nat} {F : Nat → Prop} {v : Nat → List Int} {ks : List Nat} {m ta : Nat} (hB : B' ≤ B) : ∀ {o : Option (Nat × Rec)}, Rz w w' B c i F v ks m ta o → Rz w w' B' c i F v ks m ta o
  | none, h => h
  | some _, h => WrB.mono h hB
theorem Rz.on {w w' w'' : World} {B : Nat} {c : Kc} {i : Nat} {F : Nat → Prop} {v : Nat → List Int} {ks : List Nat} {m ta : Nat} (b : Below w'.heap.size w' w'') : ∀ {o : Option (Nat × Rec)}, Rz w w' B c i F v ks m ta o → Rz w w'' B c i F v ks m ta o
  | none, h => ⟨h.1.below b, h.2.trans (Below.turns b F) (fun _ _ q => q)⟩
  | some _, h => WrB.on h b
theorem Rz.row {w w' w'' : World} {B b : Nat} {c : Kc} {i : Nat} {F : Nat → Prop} {v : Nat → List Int} {ks : List Nat} {m ta : Nat} (t : Turns (fun j => j = b) w' w'') (hF : ∀ i, F i → i < w.heap.size) (hb : w.heap.size ≤ b) (hB : b < B) : ∀ {o : Option (Nat × Rec)}, Rz w w' B c i F v ks m ta o → Rz w w'' B c i F v ks m ta o
  | none, h => ⟨h.1.keep t (fun j hj e => by have := hF j hj; omega), h.2.trans t (fun j hj e => by omega)⟩
  | some _, h => WrB.row h t hF hb hB
/-- The table with one slot written. -/
def updT (T : Nat → Rec) : Option (Nat × Rec) → Nat → Rec
  | none => T
  | some (n, r) => fun k => if k = n then r else T k
theorem splice_in (bs r : List Int) (p : Nat) (hb : bs.length = 512) (hr : r.length = 128) (hp : p < 4) : ((splice bs (p * 128) r).drop (p * 128)).take 128 = r := by
  unfold splice
  rw [List.drop_append_of_le_length (by simp; omega), List.drop_eq_nil_of_le (by simp; omega), List.nil_append, List.take_append_of_le_length (by omega), List.take_of_length_le (by omega)]
theorem splice_off (bs r : List Int) (p q : Nat) (hb : bs.length = 512) (hr : r.length = 128) (hp : p < 4) (_hq : q < 4) (hn : q ≠ p) : ((splice bs (p * 128) r).drop (q * 128)).take 128 = (bs.drop (q * 128)).take 128 := by
  apply List.ext_getElem?
  intro j
  by_cases hj : j < 128
  · rw [List.getElem?_take_of_lt hj, List.getElem?_take_of_lt hj, List.getElem?_drop, List.getElem?_drop]
    unfold splice
    rcases Nat.lt_or_gt_of_ne hn with h | h
    · rw [List.getElem?_append_left (by simp; omega), List.getElem?_take_of_lt (by omega)]
    · rw [List.getElem?_append_right (by simp; omega), List.getElem?_append_right (by simp; omega), List.getElem?_drop]
      congr 1
      simp only [List.length_take, hb, hr]
      omega
  · rw [List.getElem?_eq_none (by simp; omega), List.getElem?_eq_none (by simp; omega)]
theorem Tab.put {l : Lay} {ta N : Nat} {v : Nat → List Int} {T : Nat → Rec} (h : Tab l ta N v T) {n : Nat} (hl : (v (ta + n / 4)).length = 512) {r : Rec} (hr : Rit l r) : Tab l ta N (updF v (ta + n / 4) (splice (v (ta + n / 4)) (n % 4 * 128) (recB r))) (updT T (some (n, r))) := by
  refine ⟨fun k hk => ?_, fun k hk => ?_⟩
  · unfold updF updT
    by_cases e : k = n
    · subst e
      simp only [if_true]
      rw [splice_in _ _ _ hl (recB_len r) (by omega)]
    · simp only [e, if_false]
      by_cases e2 : ta + k / 4 = ta + n / 4
      · rw [if_pos e2, splice_off _ _ _ _ hl (recB_len r) (by omega) (by omega) (by omega), ← e2]
        exact h.rc k hk
      · rw [if_neg e2]
        exact h.rc k hk
  · unfold updT
    by_cases e : k = n
    · simp only [e, if_true]
      exact hr
    · simp only [e, if_false]
      exact h.ok k hk
/-- What a step leaves of a world. -/
def keyO (ks : List Nat) : Option (Nat × Rec) → List Nat
  | none => ks
  | some (n, _) => kput ks (34 + n / 4)
theorem St.step {w0 w w' : World} {wb N : Nat} {c : Kc} {i : Nat} {F : Nat → Prop} {v : Nat → List Int} {ks : List Nat} {m : Nat} {T : Nat → Rec} (h : St w0 w wb N c i F v ks m T) {B : Nat} (hB : w.heap.size ≤ B) {o : Option (Nat × Rec)} (ho : ∀ n r, o = some (n, r) → n < N ∧ Rit (lay9 N) r) (hz : Rz w w' B c i F v ks m 34 o) :
    ∃ F' v', St w0 w' wb N c i F' v' (keyO ks o) (m + 1) (updT T o) ∧ Turns F w w' ∧ (∀ i, F' i → F i ∨ w.heap.size ≤ i) := by
  have hb := h.bel
  have tr := hz.tr
  have hbl := hb.trans (tr.below h.fnew hb.size)
  have hbox := h.B.turns tr h.nF
  have hwl := heap_lt h.B
  cases o with
  | none => exact ⟨F, v, { h with B := hbox, tv := hz.1.later (fun _ q => q) hz.1.lt (Nat.le_succ _), bel := hbl }, tr, fun _ q => Or.inl q⟩
  | some p =>
    obtain ⟨n, r⟩ := p
    obtain ⟨hn, hr⟩ := ho n r rfl
    obtain ⟨F', T', f1, f2⟩ := WrB.ex hz
    have hl := (h.tv.len _ (h.geo.out n hn)).1
    refine ⟨F', _, { h with B := hbox, tv := T', R := h.R.put hl hr, bel := hbl, nF := fun q => ?_, fnew := fun j hj => ?_ }, tr, fun j hj => (f1 j hj).elim Or.inl (fun q => Or.inr (Nat.le_trans hB q))⟩
    · rcases f1 wb q with q | q
      · exact h.nF q
      · omega
    · rcases f1 j hj with q | q
      · exact h.fnew j q
      · have := hb.size
        omega
theorem St.below {w0 w w' : World} {wb N : Nat} {c : Kc} {i : Nat} {F : Nat → Prop} {v : Nat → List Int} {ks : List Nat} {m : Nat} {T : Nat → Rec} (h : St w0 w wb N c i F v ks m T) (b : Below w.heap.size w w') : St w0 w' wb N c i F v ks m T :=
  { h with B := h.B.below b, tv := h.tv.below b, bel := h.bel.trans (b.mono h.bel.size) }
theorem St.keep {X : Nat → Prop} {w0 w w' : World} {wb N : Nat} {c : Kc} {i : Nat} {F : Nat → Prop} {v : Nat → List Int} {ks : List Nat} {m : Nat} {T : Nat → Rec} (h : St w0 w wb N c i F v ks m T) (t : Turns X w w') (hX : ∀ i, F i → ¬ X i) (hw : ¬ X wb) (hb : Below w0.heap.size w w') : St w0 w' wb N c i F v ks m T :=
  { h with B := h.B.turns t hw, tv := h.tv.keep t hX, bel := h.bel.trans hb }
end Go.Proofs.YtlcjkbhcbiggcaaGreatDoor

/- news, gets, frees. -/
namespace Go.Proofs.YtlcjkbhcbiggcaaGreatDoor
open Go.RowKit Go.Maps
set_option maxRecDepth 100000

/-- What New may answer. -/
def NwO (N : Nat) (T : Nat → Rec) (k : Int) (seq : Nat) (x : Ino) (q : Int) (o : Option (Nat × Rec)) : Prop :=
  (o = none ∧ x = ino0 ∧ ((q = 1 ∧ kindB k = false) ∨ (q = 92 ∧ kindB k = true ∧ ∀ n, n < N → canT (T n) = false))) ∨ ∃ n, kindB k = true ∧ n < N ∧ canT (T n) = true ∧ (∀ j, j < n → canT (T j) = false) ∧ o = some (n, recOf ((T n).gen + 1) (inoN ((T n).gen + 1) n k seq)) ∧ x = inoN ((T n).gen + 1) n k seq ∧ q = 0
theorem NwR.o {w w' : World} {c : Kc} {i : Nat} {F : Nat → Prop} {v : Nat → List Int} {ks : List Nat} {m ta N : Nat} {T : Nat → Rec} {k : Int} {e : Ending} (h : NwR w w' c i F v ks m ta N T k e) : ∃ x q o, e = .returned (.tuple #[inV x, .int .i64 q]) ∧ Hid (NwO N T k c.seq x q o) ∧ Rz w w' w.heap.size c i F v ks m ta o := by
  rcases h with ⟨q, h1, h2, h3, h4⟩ | ⟨n, h1, h2, h3, h4, h5, h6⟩
  · exact ⟨ino0, q, none, h2, Or.inl ⟨rfl, rfl, h1⟩, h3, h4⟩
  · exact ⟨_, 0, some (n, _), h5, Or.inr ⟨n, h1, h2, h3, h4, rfl, rfl, rfl⟩, h6⟩
/-- What Get may answer. -/
def GtO (N : Nat) (T : Nat → Rec) (id : Int) (x : Ino) (q : Int) : Prop := ((∀ n, ¬ Has T N id n) ∧ x = ino0 ∧ q = 91) ∨ ∃ n, Has T N id n ∧ x = (T n).ino id ∧ q = 0
theorem GtR.o {w w' : World} {c : Kc} {i : Nat} {F : Nat → Prop} {v : Nat → List Int} {ks : List Nat} {m N ta : Nat} {T : Nat → Rec} {id : Int} {e : Ending} (h : GtR w w' c i F v ks m N T id e) : ∃ x q o, e = .returned (.tuple #[inV x, .int .i64 q]) ∧ Hid (GtO N T id x q ∧ o = none) ∧ Rz w w' w.heap.size c i F v ks m ta o := by
  obtain ⟨h1, h2, h3⟩ := h
  rcases h3 with ⟨h3, rfl⟩ | ⟨n, h3, rfl⟩
  · exact ⟨_, _, none, rfl, ⟨Or.inl ⟨h3, rfl, rfl⟩, rfl⟩, h1, h2⟩
  · exact ⟨_, _, none, rfl, ⟨Or.inr ⟨n, h3, rfl, rfl⟩, rfl⟩, h1, h2⟩
/-- What Free may answer. -/
def FrO (N : Nat) (T : Nat → Rec) (id : Int) (q : Int) (o : Option (Nat × Rec)) : Prop := ((∀ n, ¬ Has T N id n) ∧ o = none ∧ q = 91) ∨ ∃ n, Has T N id n ∧ o = some (n, { rec0 with gen := (T n).gen }) ∧ q = 0
theorem FrR.o {w w' : World} {c : Kc} {i : Nat} {F : Nat → Prop} {v : Nat → List Int} {ks : List Nat} {m ta N : Nat} {T : Nat → Rec} {id : Int} {e : Ending} (h : FrR w w' c i F v ks m ta N T id e) : ∃ q o, e = .returned (.int .i64 q) ∧ Hid (FrO N T id q o) ∧ Rz w w' w.heap.size c i F v ks m ta o := by
  rcases h with ⟨h1, h2, h3, h4⟩ | ⟨n, h1, h2, h3⟩
  · exact ⟨91, none, h2, Or.inl ⟨h1, rfl, rfl⟩, h3, h4⟩
  · exact ⟨0, some (n, _), h2, Or.inr ⟨n, h1, rfl, rfl⟩, h3⟩
theorem St.cells {w0 w : World} {wb N : Nat} {c : Kc} {i : Nat} {F : Nat → Prop} {v : Nat → List Int} {ks : List Nat} {m : Nat} {T : Nat → Rec} (h : St w0 w wb N c i F v ks m T) : w.cell? ⟨wb, 23, none⟩ = some (.pointer (some ⟨c.tb, 0, none⟩)) ∧ (LyEx (.pointer (some ⟨wb, 0, none⟩))).run Tryz.prog w = .ok (.value (lyV (lay9 N))) w :=
  ⟨h.B.cells.c23, LyEx.mid h.B.cells.ly rfl⟩
theorem St.drew {w0 w : World} {wb N : Nat} {c : Kc} {i : Nat} {F : Nat → Prop} {v : Nat → List Int} {ks : List Nat} {m : Nat} {T : Nat → Rec} (h : St w0 w wb N c i F v ks m T) : St w0 w.drew wb N c i F v ks m T := h.below (Below.drew (Below.refl _ w))
attribute [local go_sem ↓ 100000] in_store in_load ly_ex in_ex
attribute [local go_sem] InStore.newI
set_option maxHeartbeats 4000000 in
theorem news9_any {w0 w : World} {wb N : Nat} {c : Kc} {i : Nat} {F : Nat → Prop} {v : Nat → List Int} {ks : List Nat} {m : Nat} {T : Nat → Rec} (h : St w0 w wb N c i F v ks m T) (k : Int) (hsq : (c.seq : Int) ≤ 4611686018427387904) (hroom : ∀ n, n < N → canT (T n) = true → (∀ j, j < n → canT (T j) = false) → 34 + n / 4 ∈ ks ∨ ks.length < 24) (hm : m ≤ 1000000) :
    Calls Tryz.prog 18 #[.pointer (some ⟨wb, 0, none⟩), .int .i64 k] w fun e w' => ∃ x q o, e = .returned (.tuple #[inV x, .int .i64 q]) ∧ Hid (NwO N T k c.seq x q o) ∧ Rz w w' w.heap.size c i F v ks m 34 o := by
  obtain ⟨W1, hW1⟩ : ∃ W, w.alloc (.cells #[.int .i64 0, .int .i64 0, .int .i64 0, .int .i64 0, .int .i64 0, .int .i64 0, .int .i64 0, .int .i64 0, .int .i64 0, .int .i64 0, .int .i64 0, .int .i64 0, .int .i64 0] 38) = W := ⟨_, rfl⟩
  have b1 : Below w.heap.size w W1 := by rw [← hW1]; exact (Below.refl _ w).alloc (Nat.le_refl _) _
  have I1 : InBox W1 w.heap.size ino0 := by rw [← hW1]; exact heap_alloc_last w _
  have h1 := h.below b1
  obtain ⟨k1, x1⟩ := h1.cells
  obtain ⟨k1d, x1d⟩ := h1.drew.cells
  have z1 : W1.heap.size = w.heap.size + 1 := by rw [← hW1]; simp
  have hF := h.tv.lt
  go_enter Tryz.func18, Tryz.ntmps18
  go_wp2_with fail
  try rw [hW1]
  go_wp2_with fail
  obtain ⟨WA, hWA⟩ : ∃ W, (W1.alloc (.cells #[.int .i64 0, .int .i64 0, .int .i64 0, .int .i64 0, .int .i64 0, .int .i64 0, .int .i64 0, .int .i64 0, .int .i64 0, .int .i64 0, .int .i64 0, .int .i64 0, .int .i64 0] 38)).drew = W := ⟨_, rfl⟩
  have bA : Below W1.heap.size W1 WA := by rw [← hWA]; exact Below.drew ((Below.refl _ W1).alloc (Nat.le_refl _) _)
  have hA := h1.below bA
  have XA : InBox WA (w.heap.size + 1) ino0 := by rw [← hWA, ← z1]; exact heap_alloc_last W1 _
  have IA := I1.below bA
  obtain ⟨kA, xA⟩ := hA.cells
  have kA2 : (W1.alloc (.cells #[.int .i64 0, .int .i64 0, .int .i64 0, .int .i64 0, .int .i64 0, .int .i64 0, .int .i64 0, .int .i64 0, .int .i64 0, .int .i64 0, .int .i64 0, .int .i64 0, .int .i64 0] 38)).cell? ⟨wb, 23, none⟩ = some (.pointer (some ⟨c.tb, 0, none⟩)) := (h1.below ((Below.refl _ W1).alloc (Nat.le_refl _) _)).cells.1
  have xA2 := (h1.below ((Below.refl _ W1).alloc (Nat.le_refl _) (.cells #[.int .i64 0, .int .i64 0, .int .i64 0, .int .i64 0, .int .i64 0, .int .i64 0, .int .i64 0, .int .i64 0, .int .i64 0, .int .i64 0, .int .i64 0, .int .i64 0, .int .i64 0] 38))).cells.2
  go_region_held3 (fun w' => w'.cell? ⟨wb, 23, none⟩ = some (.pointer (some ⟨c.tb, 0, none⟩)) ∧ (LyEx (.pointer (some ⟨wb, 0, none⟩))).run Tryz.prog w' = .ok (.value (lyV (lay9 N))) w')
    (first | exact ⟨k1, x1⟩ | exact ⟨k1d, x1d⟩ | exact ⟨kA, xA⟩ | exact ⟨kA2, xA2⟩ | exact ⟨k2, x2⟩ | exact ⟨k3 _, x3 _⟩ | exact ⟨k4, x4⟩)
    (first
      | (go_at_call 48; refine (new_any h1.drew.tv h.geo h.R k hsq hroom hm).mono ?_; rintro e w2 r2; obtain ⟨x, q, o, rfl, HO, z2⟩ := r2.o; have t2 := z2.tr; have B2 := h1.drew.B.turns t2 h.nF; have k2 := B2.cells.c23; have x2 := LyEx.mid B2.cells.ly rfl; have k3 := fun o' => (Wb.below B2 ((Below.refl _ w2).alloc (Nat.le_refl _) o')).cells.c23; have x3 := fun o' => LyEx.mid (Wb.below B2 ((Below.refl _ w2).alloc (Nat.le_refl _) o')).cells.ly rfl)
      | (go_at_call 48; refine (new_any hA.tv h.geo h.R k hsq hroom hm).mono ?_; rintro e w2 r2; obtain ⟨x, q, o, rfl, HO, z2⟩ := r2.o; have t2 := z2.tr; have B2 := hA.B.turns t2 h.nF; have k2 := B2.cells.c23; have x2 := LyEx.mid B2.cells.ly rfl; have X2 : InBox w2 (w.heap.size + 1) ino0 := (t2.block _ (heap_lt XA) (fun q => (by have := hF _ q; omega))).trans XA; have st2 := InStore.row (cs := inA x) X2 rfl (inA_size _) (inA_one _); have B4 : Wb (w2.setRow (w.heap.size + 1) (inA x)) wb (lay9 N) (some ⟨c.d, 0, none⟩) (some ⟨c.jb, 0, none⟩) (some ⟨c.tb, 0, none⟩) := B2.turns (Turns.row1 w2 (w.heap.size + 1) (inA x)) (fun e => (by have := heap_lt h.B; omega)); have k4 := B4.cells.c23; have x4 := LyEx.mid B4.cells.ly rfl))
  all_goals
    (first
      | (have X3 : InBox (w2.alloc (.cells (inA x) 38)) w2.heap.size x := heap_alloc_last w2 _
         have I2 : InBox w2 w.heap.size ino0 := (t2.block _ (heap_lt I1) (fun q => (by have := hF _ q; omega))).trans I1
         have I3 := I2.below ((Below.refl _ w2).alloc (Nat.le_refl _) (.cells (inA x) 38))
         have z3 : Rz w (w2.alloc (.cells (inA x) 38)) (w.heap.size + 1) c i F v ks m 34 o := Rz.mono (show w.heap.size + 1 ≤ W1.drew.heap.size by show w.heap.size + 1 ≤ W1.heap.size; omega) (Rz.on ((Below.refl _ w2).alloc (Nat.le_refl _) _) (Rz.from (Below.turns (Below.drew b1) F) z2))
         have zx : w.heap.size < w2.heap.size := heap_lt I2
         obtain ⟨W3, hW3⟩ : ∃ W, w2.alloc (.cells (inA x) 38) = W := ⟨_, rfl⟩
         obtain ⟨xb, hxb⟩ : ∃ xb, w2.heap.size = xb := ⟨_, rfl⟩
         rw [hW3] at X3 I3 z3 ⊢
         rw [hxb] at X3 zx ⊢)
      | (have X3 : InBox (w2.setRow (w.heap.size + 1) (inA x)) (w.heap.size + 1) x := setRow_heap _ _ _ _ _ _ X2
         have I2 : InBox w2 w.heap.size ino0 := (t2.block _ (heap_lt IA) (fun q => (by have := hF _ q; omega))).trans IA
         have I3 : InBox (w2.setRow (w.heap.size + 1) (inA x)) w.heap.size ino0 := ((Turns.row1 w2 (w.heap.size + 1) (inA x)).block _ (heap_lt I2) (by omega)).trans I2
         have zA := heap_lt XA
         have z3 : Rz w (w2.setRow (w.heap.size + 1) (inA x)) (w.heap.size + 1) c i F v ks m 34 o := Rz.mono (by omega) (Rz.row (Turns.row1 w2 (w.heap.size + 1) (inA x)) hF (by omega) zA (Rz.from (Below.turns (b1.trans (bA.mono b1.size)) F) z2))
         obtain ⟨W3, hW3⟩ : ∃ W, w2.setRow (w.heap.size + 1) (inA x) = W := ⟨_, rfl⟩
         obtain ⟨xb, hxb⟩ : ∃ xb, w.heap.size + 1 = xb := ⟨_, rfl⟩
         have zx : w.heap.size < w.heap.size + 1 := by omega
         rw [hW3] at X3 I3 z3 ⊢
         rw [hxb] at X3 zx ⊢))
    (try clear k2)
    (try clear x2)
    (try clear k3)
    (try clear x3)
    (try clear k4)
    (try clear x4)
    clear k1 x1 k1d x1d kA xA kA2 xA2 hW3 hxb
    have e3 := InLoad.row (w := W3.drew) X3 (inA_size _)
    have e4 := InStore.row (w := W3.drew) (cs := inA x) I3 rfl (inA_size _) (inA_one _)
    have tb := Turns.row1 W3.drew w.heap.size (inA x)
    have z4 : Rz w W3.drew (w.heap.size + 1) c i F v ks m 34 o := Rz.on (Below.drew (Below.refl _ W3)) z3
    go_wp2_with fail
    go_region_law ((go_simp; go_at_call 31; refine (num9_any _ _).mono ?_; rintro e wq ⟨rfl, hq⟩; subst wq; dsimp only))
    all_goals go_wp2_with fail
    all_goals refine bodyPost_ret (res2 rfl _ _ w.heap.size 38 _ (0, 0) _ rfl (setRow_heap W3.drew _ _ _ _ _ I3) Tryz.underlying38 rfl in_size) rfl ?_
    all_goals exact ⟨x, q, o, rfl, HO, Rz.mono (Nat.le_succ _) (Rz.row tb hF (Nat.le_refl _) (Nat.lt_succ_self _) z4)⟩
set_option maxHeartbeats 4000000 in
theorem gets9_any {w0 w : World} {wb N : Nat} {c : Kc} {i : Nat} {F : Nat → Prop} {v : Nat → List Int} {ks : List Nat} {m : Nat} {T : Nat → Rec} (h : St w0 w wb N c i F v ks m T) (k : Int) :
    Calls Tryz.prog 21 #[.pointer (some ⟨wb, 0, none⟩), .int .i64 k] w fun e w' => ∃ x q o, e = .returned (.tuple #[inV x, .int .i64 q]) ∧ Hid (GtO N T k x q ∧ o = none) ∧ Rz w w' w.heap.size c i F v ks m 34 o := by
  obtain ⟨W1, hW1⟩ : ∃ W, w.alloc (.cells #[.int .i64 0, .int .i64 0, .int .i64 0, .int .i64 0, .int .i64 0, .int .i64 0, .int .i64 0, .int .i64 0, .int .i64 0, .int .i64 0, .int .i64 0, .int .i64 0, .int .i64 0] 38) = W := ⟨_, rfl⟩
  have b1 : Below w.heap.size w W1 := by rw [← hW1]; exact (Below.refl _ w).alloc (Nat.le_refl _) _
  have I1 : InBox W1 w.heap.size ino0 := by rw [← hW1]; exact heap_alloc_last w _
  have h1 := h.below b1
  obtain ⟨k1, x1⟩ := h1.cells
  obtain ⟨k1d, x1d⟩ := h1.drew.cells
  have z1 : W1.heap.size = w.heap.size + 1 := by rw [← hW1]; simp
  have hF := h.tv.lt
  go_enter Tryz.func21, Tryz.ntmps21
  go_wp2_with fail
  try rw [hW1]
  go_wp2_with fail
  obtain ⟨WA, hWA⟩ : ∃ W, (W1.alloc (.cells #[.int .i64 0, .int .i64 0, .int .i64 0, .int .i64 0, .int .i64 0, .int .i64 0, .int .i64 0, .int .i64 0, .int .i64 0, .int .i64 0, .int .i64 0, .int .i64 0, .int .i64 0] 38)).drew = W := ⟨_, rfl⟩
  have bA : Below W1.heap.size W1 WA := by rw [← hWA]; exact Below.drew ((Below.refl _ W1).alloc (Nat.le_refl _) _)
  have hA := h1.below bA
  have XA : InBox WA (w.heap.size + 1) ino0 := by rw [← hWA, ← z1]; exact heap_alloc_last W1 _
  have IA := I1.below bA
  obtain ⟨kA, xA⟩ := hA.cells
  have kA2 : (W1.alloc (.cells #[.int .i64 0, .int .i64 0, .int .i64 0, .int .i64 0, .int .i64 0, .int .i64 0, .int .i64 0, .int .i64 0, .int .i64 0, .int .i64 0, .int .i64 0, .int .i64 0, .int .i64 0] 38)).cell? ⟨wb, 23, none⟩ = some (.pointer (some ⟨c.tb, 0, none⟩)) := (h1.below ((Below.refl _ W1).alloc (Nat.le_refl _) _)).cells.1
  have xA2 := (h1.below ((Below.refl _ W1).alloc (Nat.le_refl _) (.cells #[.int .i64 0, .int .i64 0, .int .i64 0, .int .i64 0, .int .i64 0, .int .i64 0, .int .i64 0, .int .i64 0, .int .i64 0, .int .i64 0, .int .i64 0, .int .i64 0, .int .i64 0] 38))).cells.2
  go_region_held3 (fun w' => w'.cell? ⟨wb, 23, none⟩ = some (.pointer (some ⟨c.tb, 0, none⟩)) ∧ (LyEx (.pointer (some ⟨wb, 0, none⟩))).run Tryz.prog w' = .ok (.value (lyV (lay9 N))) w')
    (first | exact ⟨k1, x1⟩ | exact ⟨k1d, x1d⟩ | exact ⟨kA, xA⟩ | exact ⟨kA2, xA2⟩ | exact ⟨k2, x2⟩ | exact ⟨k3 _, x3 _⟩ | exact ⟨k4, x4⟩)
    (first
      | (go_at_call 50; refine (get_any h1.drew.tv h.geo h.R k).mono ?_; rintro e w2 r2; obtain ⟨x, q, o, rfl, HO, z2⟩ := r2.o (ta := 34); have t2 := z2.tr; have B2 := h1.drew.B.turns t2 h.nF; have k2 := B2.cells.c23; have x2 := LyEx.mid B2.cells.ly rfl; have k3 := fun o' => (Wb.below B2 ((Below.refl _ w2).alloc (Nat.le_refl _) o')).cells.c23; have x3 := fun o' => LyEx.mid (Wb.below B2 ((Below.refl _ w2).alloc (Nat.le_refl _) o')).cells.ly rfl)
      | (go_at_call 50; refine (get_any hA.tv h.geo h.R k).mono ?_; rintro e w2 r2; obtain ⟨x, q, o, rfl, HO, z2⟩ := r2.o (ta := 34); have t2 := z2.tr; have B2 := hA.B.turns t2 h.nF; have k2 := B2.cells.c23; have x2 := LyEx.mid B2.cells.ly rfl; have X2 : InBox w2 (w.heap.size + 1) ino0 := (t2.block _ (heap_lt XA) (fun q => (by have := hF _ q; omega))).trans XA; have st2 := InStore.row (cs := inA x) X2 rfl (inA_size _) (inA_one _); have B4 : Wb (w2.setRow (w.heap.size + 1) (inA x)) wb (lay9 N) (some ⟨c.d, 0, none⟩) (some ⟨c.jb, 0, none⟩) (some ⟨c.tb, 0, none⟩) := B2.turns (Turns.row1 w2 (w.heap.size + 1) (inA x)) (fun e => (by have := heap_lt h.B; omega)); have k4 := B4.cells.c23; have x4 := LyEx.mid B4.cells.ly rfl))
  all_goals
    (first
      | (have X3 : InBox (w2.alloc (.cells (inA x) 38)) w2.heap.size x := heap_alloc_last w2 _
         have I2 : InBox w2 w.heap.size ino0 := (t2.block _ (heap_lt I1) (fun q => (by have := hF _ q; omega))).trans I1
         have I3 := I2.below ((Below.refl _ w2).alloc (Nat.le_refl _) (.cells (inA x) 38))
         have z3 : Rz w (w2.alloc (.cells (inA x) 38)) (w.heap.size + 1) c i F v ks m 34 o := Rz.mono (show w.heap.size + 1 ≤ W1.drew.heap.size by show w.heap.size + 1 ≤ W1.heap.size; omega) (Rz.on ((Below.refl _ w2).alloc (Nat.le_refl _) _) (Rz.from (Below.turns (Below.drew b1) F) z2))
         have zx : w.heap.size < w2.heap.size := heap_lt I2
         obtain ⟨W3, hW3⟩ : ∃ W, w2.alloc (.cells (inA x) 38) = W := ⟨_, rfl⟩
         obtain ⟨xb, hxb⟩ : ∃ xb, w2.heap.size = xb := ⟨_, rfl⟩
         rw [hW3] at X3 I3 z3 ⊢
         rw [hxb] at X3 zx ⊢)
      | (have X3 : InBox (w2.setRow (w.heap.size + 1) (inA x)) (w.heap.size + 1) x := setRow_heap _ _ _ _ _ _ X2
         have I2 : InBox w2 w.heap.size ino0 := (t2.block _ (heap_lt IA) (fun q => (by have := hF _ q; omega))).trans IA
         have I3 : InBox (w2.setRow (w.heap.size + 1) (inA x)) w.heap.size ino0 := ((Turns.row1 w2 (w.heap.size + 1) (inA x)).block _ (heap_lt I2) (by omega)).trans I2
         have zA := heap_lt XA
         have z3 : Rz w (w2.setRow (w.heap.size + 1) (inA x)) (w.heap.size + 1) c i F v ks m 34 o := Rz.mono (by omega) (Rz.row (Turns.row1 w2 (w.heap.size + 1) (inA x)) hF (by omega) zA (Rz.from (Below.turns (b1.trans (bA.mono b1.size)) F) z2))
         obtain ⟨W3, hW3⟩ : ∃ W, w2.setRow (w.heap.size + 1) (inA x) = W := ⟨_, rfl⟩
         obtain ⟨xb, hxb⟩ : ∃ xb, w.heap.size + 1 = xb := ⟨_, rfl⟩
         have zx : w.heap.size < w.heap.size + 1 := by omega
         rw [hW3] at X3 I3 z3 ⊢
         rw [hxb] at X3 zx ⊢))
    (try clear k2)
    (try clear x2)
    (try clear k3)
    (try clear x3)
    (try clear k4)
    (try clear x4)
    clear k1 x1 k1d x1d kA xA kA2 xA2 hW3 hxb
    have e3 := InLoad.row (w := W3.drew) X3 (inA_size _)
    have e4 := InStore.row (w := W3.drew) (cs := inA x) I3 rfl (inA_size _) (inA_one _)
    have tb := Turns.row1 W3.drew w.heap.size (inA x)
    have z4 : Rz w W3.drew (w.heap.size + 1) c i F v ks m 34 o := Rz.on (Below.drew (Below.refl _ W3)) z3
    go_wp2_with fail
    go_region_law ((go_simp; go_at_call 31; refine (num9_any _ _).mono ?_; rintro e wq ⟨rfl, hq⟩; subst wq; dsimp only))
    all_goals go_wp2_with fail
    all_goals refine bodyPost_ret (res2 rfl _ _ w.heap.size 38 _ (0, 0) _ rfl (setRow_heap W3.drew _ _ _ _ _ I3) Tryz.underlying38 rfl in_size) rfl ?_
    all_goals exact ⟨x, q, o, rfl, HO, Rz.mono (Nat.le_succ _) (Rz.row tb hF (Nat.le_refl _) (Nat.lt_succ_self _) z4)⟩
end Go.Proofs.YtlcjkbhcbiggcaaGreatDoor

/- frees. -/
namespace Go.Proofs.YtlcjkbhcbiggcaaGreatDoor
open Go.RowKit Go.Maps
set_option maxRecDepth 100000

attribute [local go_sem ↓ 100000] ly_ex
set_option maxHeartbeats 4000000 in
theorem frees9_any {w0 w : World} {wb N : Nat} {c : Kc} {i : Nat} {F : Nat → Prop} {v : Nat → List Int} {ks : List Nat} {m : Nat} {T : Nat → Rec} (h : St w0 w wb N c i F v ks m T) (k : Int) (hroom : ∀ n, Has T N k n → 34 + n / 4 ∈ ks ∨ ks.length < 24) (hm : m ≤ 1000000) :
    Calls Tryz.prog 19 #[.pointer (some ⟨wb, 0, none⟩), .int .i64 k] w fun e w' => ∃ q o, e = .returned (.int .i64 q) ∧ Hid (FrO N T k q o) ∧ Rz w w' w.heap.size c i F v ks m 34 o := by
  obtain ⟨k1, x1⟩ := h.cells
  obtain ⟨k1d, x1d⟩ := h.drew.cells
  have hF := h.tv.lt
  go_enter Tryz.func19, Tryz.ntmps19
  go_wp2_with fail
  go_region_held3 (fun w' => w'.cell? ⟨wb, 23, none⟩ = some (.pointer (some ⟨c.tb, 0, none⟩)) ∧ (LyEx (.pointer (some ⟨wb, 0, none⟩))).run Tryz.prog w' = .ok (.value (lyV (lay9 N))) w')
    (first | exact ⟨k1, x1⟩ | exact ⟨k1d, x1d⟩ | exact ⟨k2, x2⟩)
    (first
      | (go_at_call 49; refine (free_any h.drew.tv h.geo h.R k hroom hm).mono ?_; rintro e w2 r2; obtain ⟨q, o, rfl, HO, z2⟩ := r2.o; have t2 := z2.tr; have B2 := h.drew.B.turns t2 h.nF; have k2 := B2.cells.c23; have x2 := LyEx.mid B2.cells.ly rfl))
  clear k1 x1 k1d x1d k2 x2
  go_wp2_with fail
  refine (num9_any _ _).mono ?_
  rintro e wq ⟨rfl, hq⟩
  subst wq
  go_wp2_with fail
  go_ret
  exact ⟨q, o, rfl, HO, Rz.from (Turns.drewN F w 1) z2⟩
end Go.Proofs.YtlcjkbhcbiggcaaGreatDoor
