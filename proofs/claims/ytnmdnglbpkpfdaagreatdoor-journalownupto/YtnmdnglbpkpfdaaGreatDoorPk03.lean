/- The journal's small functions by their contracts: copied, the region, what one call does on the device. -/
import Derived.Test.YtnmdnglbpkpfdaaGreatDoorPk02
import Derived.Deep.RegionHeld3
import Derived.Deep.RegionLaw
import Derived.Test.YtnmdnglbpkpfdaaGreatDoorChecked
import Derived.WalkKit
import Derived.LaidEql
import Derived.Stop.Asserts
import Derived.RowKitTokens
import Derived.Test.YtnmdnglbpkpfdaaGreatDoorPk01
namespace Go.Proofs.YtnmdnglbpkpfdaaGreatDoor
open Go.RowKit
set_option maxRecDepth 100000
set_option maxHeartbeats 1000000 in
theorem jcopied_any (ao : Option Addr) (n c : Nat) (bs : List Int) (w : World) (hn : n ≤ 140737488355328) (hL : Lies w ao n c bs) :
    Calls Tryz.prog 62 #[.slice ao n c] w fun e w' => ∃ g, e = .returned (.slice (some ⟨g, 0, none⟩) n n) ∧ w.heap.size ≤ g ∧ w'.heap[g]? = some (bl bs) ∧ Below w.heap.size w w' := by
  obtain ⟨i0, hi, hz0, hz1, hz2⟩ := info_parts Tryz.info5
  have hni : (n : Int) ≤ 140737488355328 := by omega
  have hlen := hL.hlen
  have hsz : (Tryz.prog.info? 5).map (·.size) = some 1 := by rw [hi]; simp [hz1]
  have hL1 : Lies (w.alloc (.cells (madeCells #[.int .u8 0] n) 5)) ao n c bs := hL.below ((Below.refl _ w).alloc (Nat.le_refl _) _) (Nat.le_refl _)
  have hpos : 0 < (bs.map (Value.int .u8)).length → (some ⟨w.heap.size, 0, none⟩ : Option Addr) = some ⟨w.heap.size, 0, none⟩ ∧ ∃ ad, ao = some ad ∧ ∀ j v, (bs.map (Value.int .u8))[j]? = some v → (w.alloc (.cells (madeCells #[.int .u8 0] n) 5)).cell? (ad.add j) = some v := fun hp => by
    cases hao : ao with
    | none => have := (hL.hnone hao).1; simp at hp; omega
    | some ad => exact ⟨rfl, ad, rfl, hL1.hcells ad hao⟩
  have hrow := made_row w n
  have hbel : Below w.heap.size w (w.alloc (.cells (madeCells #[.int .u8 0] n) 5)) := (Below.refl _ w).alloc (Nat.le_refl _) _
  go_enter Tryz.func62, Tryz.ntmps62
  go_wp2_with (first
    | (at_make; (refine wpList_make_row _ rfl _ _ 56 rfl 5 i0 (.int .u8 0) Tryz.underlying56 hi hz0 hz1 rfl _ _ n rfl rfl (by rw [hz2]; omega) (by omega) ?_))
    | (refine wpList_copy_splice rfl _ _ 56 56 rfl 5 Tryz.underlying56 hsz _ _ _ _ _ _ rfl rfl w.heap.size 0 (List.replicate n (Value.int .u8 0)) 5 hrow (bs.map (Value.int .u8)) (by simp [hlen]) hpos (by simp [hlen]) (ints_oneCell _ _) w.heap.size w hbel (Nat.le_refl _) ?_; intro w2 HG2 hB2))
  go_ret
  refine ⟨_, rfl, Nat.le_refl _, ?_, hB2⟩
  rw [HG2.out, splice_whole _ _ (by simp [hlen])]


theorem Below.fromDrew {w w' : World} (h : Below w.drew.heap.size w.drew w') : Below w.heap.size w w' := ⟨h.os, h.tape, h.output, h.size, h.block⟩
theorem Turns.fromDrew {F : Nat → Prop} {w w' : World} (h : Turns F w.drew w') : Turns F w w' := ⟨h.os, h.tape, h.output, h.size, h.block⟩
theorem Same0.fromDrew {w w' : World} {db : Nat} {S : DevS} {k N : Nat} {F : Nat → Prop} (h : Same0 w.drew w' db S k N F) : Same0 w w' db S k N F := ⟨h.1, h.2.fromDrew⟩
theorem Dev.drew {w : World} {db : Nat} {st : Int} {S : DevS} {k N : Nat} {F : Nat → Prop} (h : Dev w db st S k N F) : Dev w.drew db st S k N F := h.turns (Turns.drewN (fun _ => False) w 1) (fun _ _ => id)
/-- A region as a value. -/
abbrev rgV (d : Nat) (st sz : Int) : Value := .agg #[.pointer (some ⟨d, 0, none⟩), .int .i64 st, .int .i64 sz]
theorem places_any (d : Nat) (st sz : Int) (w : World) (h : 1 ≤ sz ∧ sz ≤ 4096) : Calls Tryz.prog 79 #[rgV d st sz] w fun e w' => e = .returned (.int .i64 (sz - 1)) ∧ Below w.heap.size w w' := by
  go_enter Tryz.func79, Tryz.ntmps79
  go_wp2
  go_ret
  exact ⟨by simp, (Below.refl _ w).alloc (Nat.le_refl _) _⟩

/-- An error of the device, with its code. -/
def ErrV (v : Value) (e : Int) : Prop := (e = 0 ∧ v = .nilIface) ∨ (e ≠ 0 ∧ ∃ s, v = .iface 173 (.agg #[.string s, .iface 36 (.int .i64 e)]))
theorem wrapped_any (s : ByteArray) (c : Int) (w : World) : Calls Tryz.prog 87 #[.string s, .int .i64 c] w fun e w' => ∃ v, e = .returned v ∧ ErrV v c ∧ w' = w := by
  by_cases hc : c = 0
  · subst hc
    go_enter Tryz.func87, Tryz.ntmps87
    go_wp2
    go_ret
    exact ⟨_, rfl, Or.inl ⟨rfl, rfl⟩, rfl⟩
  · go_enter Tryz.func87, Tryz.ntmps87
    go_wp2
    go_ret
    exact ⟨_, rfl, Or.inr ⟨hc, _, rfl⟩, rfl⟩

/-- The block of a place; places go round. -/
theorem at_any (d : Nat) (st sz : Nat) (p : Nat) (w : World) (h : 2 ≤ sz ∧ sz ≤ 4096) (hst : st ≤ 4096) (hp : p ≤ 1099511627776) : Calls Tryz.prog 81 #[rgV d st sz, .int .i64 p] w fun e w' => e = .returned (.int .i64 (st + 1 + p % (sz - 1) : Nat)) ∧ Below w.heap.size w w' := by
  have hm : ((p : Int)).tmod ((sz : Int) - 1) = ((p % (sz - 1) : Nat) : Int) := by
    rw [Int.tmod_eq_emod_of_nonneg (by omega)]
    have : ((sz : Int) - 1) = ((sz - 1 : Nat) : Int) := by omega
    rw [this]; rfl
  have hlt : p % (sz - 1) < sz - 1 := Nat.mod_lt _ (by omega)
  have hszi : (sz : Int) - 1 ≠ 0 := by omega
  obtain ⟨W, hW⟩ : ∃ W, w.alloc (.cells #[.pointer (some ⟨d, 0, none⟩), .int .i64 st, .int .i64 sz] 98) = W := ⟨_, rfl⟩
  have hb : Below w.heap.size w W := by rw [← hW]; exact (Below.refl _ w).alloc (Nat.le_refl _) _
  have x0 : W.cell? ⟨w.heap.size, 0, none⟩ = some (.pointer (some ⟨d, 0, none⟩)) := by rw [← hW]; simp
  have x1 : W.cell? ⟨w.heap.size, 1, none⟩ = some (.int .i64 st) := by rw [← hW]; simp
  have x2 : W.cell? ⟨w.heap.size, 2, none⟩ = some (.int .i64 sz) := by rw [← hW]; simp
  have hs : w.heap.size < W.heap.size := by rw [← hW]; simp
  go_enter Tryz.func81, Tryz.ntmps81
  go_wp2_with fail
  try rw [hW]
  go_region_held3 (fun w' => w'.cell? ⟨w.heap.size, 0, none⟩ = some (.pointer (some ⟨d, 0, none⟩)) ∧ w'.cell? ⟨w.heap.size, 1, none⟩ = some (.int .i64 st) ∧ w'.cell? ⟨w.heap.size, 2, none⟩ = some (.int .i64 sz))
    (first | exact ⟨x0, x1, x2⟩ | exact ⟨y0, y1, y2⟩)
    (first
      | (go_at_call 79; refine (places_any d st sz _ (by omega)).mono ?_; rintro e w1 ⟨rfl, b1⟩; have y0 := cell_later b1 x0; have y1 := cell_later b1 x1; have y2 := cell_later b1 x2))
  go_wp2
  go_ret
  have e1 : IntKind.i64.wrap (st + 1 : Int) = st + 1 := Go.IntWalk.i64_in _ ⟨by omega, by omega⟩
  have e2 : IntKind.i64.wrap (st + 1 + ((p % (sz - 1) : Nat) : Int)) = st + 1 + ((p % (sz - 1) : Nat) : Int) := Go.IntWalk.i64_in _ ⟨by omega, by omega⟩
  refine ⟨?_, hb.trans ((Below.fromDrew b1).mono (Nat.le_of_lt hs))⟩
  show Ending.returned (Value.int .i64 (IntKind.i64.wrap (IntKind.i64.wrap (st + 1 : Int) + ((p % (sz - 1) : Nat) : Int)))) = _
  rw [e1, e2]
  rfl

def outB (k : Nat) (st sz : Nat) (b : Int) : Bool := decide (0 ≤ b) && decide (b < k) && (decide (b < st) || decide ((st + sz : Int) ≤ b))
set_option maxHeartbeats 1000000 in
theorem outside_any {w : World} {d : Nat} {S : DevS} {k N : Nat} {F : Nat → Prop} (hD : Dev w d 0 S k N F) (st sz : Nat) (hst : st ≤ 4096) (hsz : sz ≤ 4096) (b : Int) : Calls Tryz.prog 61 #[rgV d st sz, .int .i64 b] w fun e w' => e = .returned (.bool (outB k st sz b)) ∧ Same0 w w' d S k N F := by
  obtain ⟨W, hW⟩ : ∃ W, w.alloc (.cells #[.pointer (some ⟨d, 0, none⟩), .int .i64 st, .int .i64 sz] 98) = W := ⟨_, rfl⟩
  have hb : Below w.heap.size w W := by rw [← hW]; exact (Below.refl _ w).alloc (Nat.le_refl _) _
  have x0 : W.cell? ⟨w.heap.size, 0, none⟩ = some (.pointer (some ⟨d, 0, none⟩)) := by rw [← hW]; simp
  have x1 : W.cell? ⟨w.heap.size, 1, none⟩ = some (.int .i64 st) := by rw [← hW]; simp
  have x2 : W.cell? ⟨w.heap.size, 2, none⟩ = some (.int .i64 sz) := by rw [← hW]; simp
  have hs : w.heap.size < W.heap.size := by rw [← hW]; simp
  have hDW := hD.below hb
  have hF := hD.lt
  have fin : ∀ w', Same0 W w' d S k N F → Same0 w w' d S k N F := fun w' h => ⟨h.1, (Below.turns hb F).trans h.2 (fun _ _ h => h)⟩
  have e1 : IntKind.i64.wrap (st + sz : Int) = st + sz := Go.IntWalk.i64_in _ ⟨by omega, by omega⟩
  by_cases h1 : 0 ≤ b
  · go_enter Tryz.func61, Tryz.ntmps61
    go_wp2_with fail
    try rw [hW]
    refine (size_any hDW).mono ?_
    rintro e w1 ⟨rfl, q1⟩
    have y1 : w1.cell? ⟨w.heap.size, 1, none⟩ = some (.int .i64 st) := (World.cell?_of_block (q1.2.block w.heap.size hs (fun h => by have := hF _ h; omega))).trans x1
    have y2 : w1.cell? ⟨w.heap.size, 2, none⟩ = some (.int .i64 sz) := (World.cell?_of_block (q1.2.block w.heap.size hs (fun h => by have := hF _ h; omega))).trans x2
    have q := fin w1 q1
    clear x0 x1 x2 q1
    by_cases h2 : b < k
    · by_cases h3 : b < st
      · go_wp2
        go_ret
        exact ⟨by simp [outB, h1, h2, h3], q⟩
      · by_cases h4 : (st + sz : Int) ≤ b
        · go_wp2
          go_ret
          exact ⟨by simp [outB, h1, h2, h4], q⟩
        · go_wp2
          go_ret
          exact ⟨by simp [outB]; omega, q⟩
    · go_wp2
      go_ret
      exact ⟨by simp [outB]; omega, q⟩
  · go_enter Tryz.func61, Tryz.ntmps61
    go_wp2_with fail
    try rw [hW]
    go_ret
    exact ⟨by simp [outB]; omega, fin W ⟨hDW, Turns.refl _ _⟩⟩

def fitB (k : Nat) (st sz : Int) : Bool := decide (0 ≤ st) && decide (27 ≤ sz) && decide (sz ≤ k - st)
set_option maxHeartbeats 1000000 in
theorem fits_any {w : World} {d : Nat} {S : DevS} {k N : Nat} {F : Nat → Prop} (hD : Dev w d 0 S k N F) (st sz : Int) (h1 : 0 ≤ st) (h2 : 27 ≤ sz) (h3 : st ≤ 9223372036854775807) : Calls Tryz.prog 78 #[rgV d st sz] w fun e w' => e = .returned (.bool (fitB k st sz)) ∧ Same0 w w' d S k N F := by
  obtain ⟨W, hW⟩ : ∃ W, w.alloc (.cells #[.pointer (some ⟨d, 0, none⟩), .int .i64 st, .int .i64 sz] 98) = W := ⟨_, rfl⟩
  have hb : Below w.heap.size w W := by rw [← hW]; exact (Below.refl _ w).alloc (Nat.le_refl _) _
  have x0 : W.cell? ⟨w.heap.size, 0, none⟩ = some (.pointer (some ⟨d, 0, none⟩)) := by rw [← hW]; simp
  have x1 : W.cell? ⟨w.heap.size, 1, none⟩ = some (.int .i64 st) := by rw [← hW]; simp
  have x2 : W.cell? ⟨w.heap.size, 2, none⟩ = some (.int .i64 sz) := by rw [← hW]; simp
  have hs : w.heap.size < W.heap.size := by rw [← hW]; simp
  have hDW := hD.below hb
  have hF := hD.lt
  have hk := hD.good.top
  have fin : ∀ w', Same0 W w' d S k N F → Same0 w w' d S k N F := fun w' h => ⟨h.1, (Below.turns hb F).trans h.2 (fun _ _ h => h)⟩
  go_enter Tryz.func78, Tryz.ntmps78
  go_wp2_with fail
  try rw [hW]
  go_region_held3 (fun w' => w'.cell? ⟨w.heap.size, 0, none⟩ = some (.pointer (some ⟨d, 0, none⟩)) ∧ w'.cell? ⟨w.heap.size, 1, none⟩ = some (.int .i64 st) ∧ w'.cell? ⟨w.heap.size, 2, none⟩ = some (.int .i64 sz))
    (first | exact ⟨x0, x1, x2⟩ | exact ⟨y0, y1, y2⟩)
    (first
      | (go_at_call 99; refine (size_any hDW.drew).mono ?_; rintro e w1 ⟨rfl, q1⟩; have q1 := q1.fromDrew; have y0 : w1.cell? ⟨w.heap.size, 0, none⟩ = some (.pointer (some ⟨d, 0, none⟩)) := (World.cell?_of_block (q1.2.block w.heap.size hs (fun h => by have := hF _ h; omega))).trans x0; have y1 : w1.cell? ⟨w.heap.size, 1, none⟩ = some (.int .i64 st) := (World.cell?_of_block (q1.2.block w.heap.size hs (fun h => by have := hF _ h; omega))).trans x1; have y2 : w1.cell? ⟨w.heap.size, 2, none⟩ = some (.int .i64 sz) := (World.cell?_of_block (q1.2.block w.heap.size hs (fun h => by have := hF _ h; omega))).trans x2))
  all_goals go_wp2
  all_goals go_ret
  have e1 : IntKind.i64.wrap (k - st : Int) = k - st := Go.IntWalk.i64_in _ ⟨by omega, by omega⟩
  refine ⟨?_, fin _ q1⟩
  show Ending.returned (Value.bool (decide (sz ≤ IntKind.i64.wrap (k - st : Int)))) = _
  rw [e1]
  simp [fitB, h1, h2]
end Go.Proofs.YtnmdnglbpkpfdaaGreatDoor

/- What one call does on the device, by its contracts: begun, write, flush, read. -/
namespace Go.Proofs.YtnmdnglbpkpfdaaGreatDoor
open Go.RowKit
set_option maxRecDepth 100000
/-- The work of a call: its block, its error. -/
def Wk (w : World) (wb d : Nat) (ev : Value) : Prop := w.heap[wb]? = some (.cells #[.pointer (some ⟨d, 0, none⟩), ev] 147)
theorem Wk.turns {F : Nat → Prop} {w w' : World} {wb d : Nat} {ev : Value} (h : Wk w wb d ev) (t : Turns F w w') (hF : ¬ F wb) : Wk w' wb d ev := (t.block wb (heap_lt h) hF).trans h
theorem Wk.c0 {w : World} {wb d : Nat} {ev : Value} (h : Wk w wb d ev) : w.cell? ⟨wb, 0, none⟩ = some (.pointer (some ⟨d, 0, none⟩)) := by unfold Wk at h; simp [World.cell?, h]
theorem Wk.c1 {w : World} {wb d : Nat} {ev : Value} (h : Wk w wb d ev) : w.cell? ⟨wb, 1, none⟩ = some ev := by unfold Wk at h; simp [World.cell?, h]
theorem Wk.fz {w : World} {wb d : Nat} {ev : Value} (h : Wk w wb d ev) (j : Nat) : w.frozen? ⟨wb, j, none⟩ = false := by unfold Wk at h; simp [World.frozen?, h]
theorem Wk.set {w : World} {wb d : Nat} {ev : Value} (h : Wk w wb d ev) (v : Value) : Wk (w.setCell ⟨wb, 1, none⟩ v) wb d v := heap_setCell_same _ _ _ _ _ _ h
theorem ErrV.nil {e : Int} (h : ErrV .nilIface e) : e = 0 := by
  rcases h with h | ⟨_, s, h⟩
  · exact h.1
  · cases h
theorem Dev.more {F : Nat → Prop} {w : World} {db : Nat} {st : Int} {S : DevS} {k N M : Nat} (h : Dev w db st S k N F) (hM : N ≤ M) : Dev w db st S k M F := by
  obtain ⟨gl, bm, q, pv, gs, Dm, h, f, hl⟩ := h
  exact ⟨gl, bm, q, pv, gs, Dm, { h with pn := Nat.le_trans h.pn hM, map := h.map.mono hM }, f, hl⟩
def begE (S : DevS) : Int := if S.off then 3 else 0
set_option maxHeartbeats 1000000 in
theorem begun_any {w : World} {d : Nat} {S : DevS} {k N : Nat} {F : Nat → Prop} (hD : Dev w d 0 S k N F) : Calls Tryz.prog 51 #[.pointer (some ⟨d, 0, none⟩)] w fun e w' => ∃ ev, e = .returned (.pointer (some ⟨w.heap.size, 0, none⟩)) ∧ ErrV ev (begE S) ∧ Wk w' w.heap.size d ev ∧ Same0 w w' d S k N F := by
  obtain ⟨W, hW⟩ : ∃ W, w.alloc (.cells #[.pointer (some ⟨d, 0, none⟩), .nilIface] 147) = W := ⟨_, rfl⟩
  have hb : Below w.heap.size w W := by rw [← hW]; exact (Below.refl _ w).alloc (Nat.le_refl _) _
  have hk : Wk W w.heap.size d .nilIface := by rw [← hW]; exact (MapKept.heap_alloc w _).1
  have hs : w.heap.size < W.heap.size := by rw [← hW]; simp
  have hDW := hD.below hb
  have hF := hD.lt
  have hn : ¬ F w.heap.size := fun h => by have := hF _ h; omega
  go_enter Tryz.func51, Tryz.ntmps51
  go_wp2_with fail
  try rw [hW]
  refine (power_any hDW).mono ?_
  rintro e w1 ⟨rfl, q1⟩
  have k1 := hk.turns q1.2 hn
  have T : Turns F w w1 := (Below.turns hb F).trans q1.2 (fun _ _ h => h)
  by_cases ho : S.off = true
  · have c0 := k1.c0
    have c1 := k1.c1
    have f1 := k1.fz 1
    go_wp2_with fail
    refine (wrapped_any _ _ _).mono ?_
    rintro e wn ⟨v, rfl, hv, hwn⟩
    subst wn
    have he : begE S = 3 := by unfold begE; rw [if_pos ho]
    obtain ⟨_, s, rfl⟩ := hv.resolve_left (fun h => by cases h.1)
    go_wp2
    go_ret
    refine ⟨_, rfl, ?_, k1.set _, q1.1.turns (Turns.cell w1 w.heap.size 1 _) (fun i hi e => hn (e ▸ hi)), T.trans (Turns.cell w1 w.heap.size 1 _) (fun i hi e => by omega)⟩
    rw [he]
    exact hv
  · have ho' : S.off = false := by simpa using ho
    rw [ho']
    go_wp2
    go_ret
    refine ⟨_, rfl, ?_, k1, q1.1, T⟩
    unfold begE
    rw [if_neg ho]
    exact Or.inl ⟨rfl, rfl⟩

/-- The error behind a write, and what the device holds then. -/
def wkE (e : Int) (S : DevS) (k : Nat) (b : Int) (n : Nat) : Int := if e = 0 then wrE S k b n else e
def wkS (e : Int) (S : DevS) (k : Nat) (b : Int) (d : List Int) : DevS := if e = 0 then wrS S k b d else S
/-- What one of the calls leaves: the work with its error, the device, what may have turned. -/
def Did (w w' : World) (wb d : Nat) (e : Int) (S : DevS) (k N : Nat) (F : Nat → Prop) : Prop := ∃ ev, ErrV ev e ∧ Wk w' wb d ev ∧ Dev w' d 0 S k N (grow F w w') ∧ Turns (fun i => F i ∨ i = wb) w w'
set_option maxHeartbeats 1000000 in
theorem wkwrite_any {w : World} {d wb : Nat} {S : DevS} {k N : Nat} {F : Nat → Prop} {ev : Value} {e0 : Int} (hD : Dev w d 0 S k N F) (hW : Wk w wb d ev) (hE : ErrV ev e0) (hwF : ¬ F wb) (b : Int) (ao : Option Addr) (n c : Nat) (ds : List Int) (hL : Lies w ao n c ds) (hy : ∀ x ∈ ds, 0 ≤ x ∧ x ≤ 255) (hF : ∀ ad, ao = some ad → ¬ F ad.block) (hN : N ≤ 1099511627776) :
    Calls Tryz.prog 80 #[.pointer (some ⟨wb, 0, none⟩), .int .i64 b, .slice ao n c] w fun e w' => e = .returned (.tuple #[]) ∧ Did w w' wb d (wkE e0 S k b n) (wkS e0 S k b ds) k (N + 1) F := by
  have c0 := hW.c0
  have c1 := hW.c1
  have hlt := heap_lt hW
  rcases hE with ⟨rfl, rfl⟩ | ⟨h0, s, rfl⟩
  · go_enter Tryz.func80, Tryz.ntmps80
    go_wp2_with fail
    refine (write_any hD b ao n c ds hL hy hF hN).mono ?_
    rintro e w1 ⟨rfl, D1, t1⟩
    have k1 := hW.turns t1 hwF
    have c0 := k1.c0
    have c1 := k1.c1
    have f1 := k1.fz 1
    have hg1 : ¬ grow F w w1 wb := fun h => hwF (grow_old wb hlt h)
    go_wp2_with fail
    refine (wrapped_any _ _ _).mono ?_
    rintro e wn ⟨v, rfl, hv, hwn⟩
    subst wn
    have hcell : ∀ v, Did w (w1.setCell ⟨wb, 1, none⟩ v) wb d (wrE S k b n) (wrS S k b ds) k (N + 1) F ↔ Did w (w1.setCell ⟨wb, 1, none⟩ v) wb d (wkE 0 S k b n) (wkS 0 S k b ds) k (N + 1) F := fun v => by simp [wkE, wkS]
    have fin : ∀ v, ErrV v (wrE S k b n) → Did w (w1.setCell ⟨wb, 1, none⟩ v) wb d (wkE 0 S k b n) (wkS 0 S k b ds) k (N + 1) F := fun v hv => (hcell v).1 ⟨v, hv, k1.set v, (D1.turns (Turns.cell w1 wb 1 v) (fun i hi e => hg1 (e ▸ hi))).foot (fun i h => by simpa [grow, World.setCell] using h) (fun i h => by have := D1.lt i (by simpa [grow, World.setCell] using h); simpa [World.setCell] using this), (t1.mono (fun _ _ h => Or.inl h)).trans (Turns.cell w1 wb 1 v) (fun i hi e => Or.inr e)⟩
    rcases hv with ⟨h0, rfl⟩ | ⟨h0, s, rfl⟩
    · go_wp2
      first | go_end0 | refine bodyPost_ret (results_none rfl _ _ _) rfl ?_
      exact ⟨rfl, fin _ (Or.inl ⟨h0, rfl⟩)⟩
    · go_wp2
      first | go_end0 | refine bodyPost_ret (results_none rfl _ _ _) rfl ?_
      exact ⟨rfl, fin _ (Or.inr ⟨h0, _, rfl⟩)⟩
  · go_enter Tryz.func80, Tryz.ntmps80
    go_wp2
    first | go_end0 | refine bodyPost_ret (results_none rfl _ _ _) rfl ?_
    rw [show wkE e0 S k b n = e0 from if_neg h0, show wkS e0 S k b ds = S from if_neg h0]
    exact ⟨rfl, _, Or.inr ⟨h0, s, rfl⟩, hW, (hD.foot (fun i h => Or.inl h) (fun i h => h.elim (hD.lt i) (fun h => by omega))).more (Nat.le_succ N), Turns.refl _ _⟩

def fkE (e : Int) (S : DevS) : Int := if e = 0 then flE S else e
def fkS (e : Int) (S : DevS) : DevS := if e = 0 then flS S else S
set_option maxHeartbeats 1000000 in
theorem wkflush_any {w : World} {d wb : Nat} {S : DevS} {k N : Nat} {F : Nat → Prop} {ev : Value} {e0 : Int} (hD : Dev w d 0 S k N F) (hW : Wk w wb d ev) (hE : ErrV ev e0) (hwF : ¬ F wb) (hN : N ≤ 1099511627776) :
    Calls Tryz.prog 82 #[.pointer (some ⟨wb, 0, none⟩)] w fun e w' => e = .returned (.tuple #[]) ∧ Did w w' wb d (fkE e0 S) (fkS e0 S) k N F := by
  have c0 := hW.c0
  have c1 := hW.c1
  have hlt := heap_lt hW
  rcases hE with ⟨rfl, rfl⟩ | ⟨h0, s, rfl⟩
  · go_enter Tryz.func82, Tryz.ntmps82
    go_wp2_with fail
    refine (flush_any hD hN).mono ?_
    rintro e w1 ⟨rfl, D1, t1⟩
    have k1 := hW.turns t1 hwF
    have c0 := k1.c0
    have c1 := k1.c1
    have f1 := k1.fz 1
    have hg1 : ¬ grow F w w1 wb := fun h => hwF (grow_old wb hlt h)
    go_wp2_with fail
    refine (wrapped_any _ _ _).mono ?_
    rintro e wn ⟨v, rfl, hv, hwn⟩
    subst wn
    have hcell : ∀ v, Did w (w1.setCell ⟨wb, 1, none⟩ v) wb d (flE S) (flS S) k N F ↔ Did w (w1.setCell ⟨wb, 1, none⟩ v) wb d (fkE 0 S) (fkS 0 S) k N F := fun v => by simp [fkE, fkS]
    have fin : ∀ v, ErrV v (flE S) → Did w (w1.setCell ⟨wb, 1, none⟩ v) wb d (fkE 0 S) (fkS 0 S) k N F := fun v hv => (hcell v).1 ⟨v, hv, k1.set v, (D1.turns (Turns.cell w1 wb 1 v) (fun i hi e => hg1 (e ▸ hi))).foot (fun i h => by simpa [grow, World.setCell] using h) (fun i h => by have := D1.lt i (by simpa [grow, World.setCell] using h); simpa [World.setCell] using this), (t1.mono (fun _ _ h => Or.inl h)).trans (Turns.cell w1 wb 1 v) (fun i hi e => Or.inr e)⟩
    rcases hv with ⟨h0, rfl⟩ | ⟨h0, s, rfl⟩
    · go_wp2
      first | go_end0 | refine bodyPost_ret (results_none rfl _ _ _) rfl ?_
      exact ⟨rfl, fin _ (Or.inl ⟨h0, rfl⟩)⟩
    · go_wp2
      first | go_end0 | refine bodyPost_ret (results_none rfl _ _ _) rfl ?_
      exact ⟨rfl, fin _ (Or.inr ⟨h0, _, rfl⟩)⟩
  · go_enter Tryz.func82, Tryz.ntmps82
    go_wp2
    first | go_end0 | refine bodyPost_ret (results_none rfl _ _ _) rfl ?_
    rw [show fkE e0 S = e0 from if_neg h0, show fkS e0 S = S from if_neg h0]
    exact ⟨rfl, _, Or.inr ⟨h0, s, rfl⟩, hW, hD.foot (fun i h => Or.inl h) (fun i h => h.elim (hD.lt i) (fun h => by omega)), Turns.refl _ _⟩

end Go.Proofs.YtnmdnglbpkpfdaaGreatDoor

/- What one call reads of the device, by its contract: read. -/
namespace Go.Proofs.YtnmdnglbpkpfdaaGreatDoor
open Go.RowKit
set_option maxRecDepth 100000
def rkE (e : Int) (S : DevS) (k : Nat) (b : Int) : Int := if e = 0 then rdE S k b else e
def rkD (e : Int) (S : DevS) (k : Nat) (b : Int) : List Int := if rkE e S k b = 0 then rdB S b.toNat else List.replicate 512 0
/-- What a read leaves. -/
def DidR (w w' : World) (wb d g : Nat) (e : Int) (S : DevS) (k N : Nat) (F : Nat → Prop) (bs : List Int) : Prop := w.heap.size ≤ g ∧ w'.heap[g]? = some (bl bs) ∧ ∃ ev, ErrV ev e ∧ Wk w' wb d ev ∧ Dev w' d 0 S k N F ∧ Turns (fun i => F i ∨ i = wb) w w'
theorem DidR.of {w w' : World} {d wb g : Nat} {S : DevS} {k N : Nat} {F : Nat → Prop} {v : Value} {e : Int} {bs : List Int} (hD : Dev w' d 0 S k N F) (t : Turns F w w') (hk : ∃ ev, Wk w' wb d ev) (hv : ErrV v e) (hwF : ¬ F wb) (hwb : wb < w.heap.size) (hg : w.heap.size ≤ g) (hb : w'.heap[g]? = some (bl bs)) : DidR w (w'.setCell ⟨wb, 1, none⟩ v) wb d g e S k N F bs := by
  obtain ⟨ev, hk⟩ := hk
  have T := Turns.cell w' wb 1 v
  exact ⟨hg, (T.block g (heap_lt hb) (by omega)).trans hb, v, hv, hk.set v, hD.turns T (fun i hi e => hwF (e ▸ hi)), (t.mono (fun _ _ h => Or.inl h)).trans T (fun i _ e => Or.inr e)⟩
theorem DidR.zeros {w w' : World} {d wb : Nat} {S : DevS} {k N : Nat} {F : Nat → Prop} {v : Value} {e : Int} (hD : Dev w' d 0 S k N F) (t : Turns (fun i => F i ∨ i = wb) w w') (hk : Wk w' wb d v) (hv : ErrV v e) : DidR w (w'.alloc (.cells (madeCells #[.int .u8 0] 512) 5)) wb d w'.heap.size e S k N F (List.replicate 512 0) := by
  have b := (Below.refl _ w').alloc (Nat.le_refl _) (.cells (madeCells #[.int .u8 0] 512) 5)
  have hs := t.size
  exact ⟨hs, zeros_bl w' 512, v, hv, hk.turns (Below.turns b (fun _ => False)) id, hD.below b, t.trans (Below.turns b (fun _ => False)) (fun _ _ h => h.elim)⟩
set_option maxHeartbeats 1000000 in
theorem wkread_any {w : World} {d wb : Nat} {S : DevS} {k N : Nat} {F : Nat → Prop} {ev : Value} {e0 : Int} (hD : Dev w d 0 S k N F) (hW : Wk w wb d ev) (hE : ErrV ev e0) (hwF : ¬ F wb) (b : Int) :
    Calls Tryz.prog 102 #[.pointer (some ⟨wb, 0, none⟩), .int .i64 b] w fun e w' => ∃ g, e = .returned (hv g) ∧ DidR w w' wb d g (rkE e0 S k b) S k N F (rkD e0 S k b) := by
  obtain ⟨i0, hi, hz0, hz1, hz2⟩ := info_parts Tryz.info5
  have c0 := hW.c0
  have c1 := hW.c1
  have hlt := heap_lt hW
  rcases hE with ⟨rfl, rfl⟩ | ⟨h0, s, rfl⟩
  · have hr0 : rkE 0 S k b = rdE S k b := if_pos rfl
    go_enter Tryz.func102, Tryz.ntmps102
    go_wp2_with fail
    refine (read_any hD b).mono ?_
    rintro e w1 ⟨hR, D1, t1⟩
    have k1 := hW.turns t1 hwF
    have c0 := k1.c0
    have c1 := k1.c1
    have f1 := k1.fz 1
    rcases hR with ⟨hne, rfl⟩ | ⟨heq, g, rfl, hg, hbl⟩
    · go_wp2_with fail
      refine (wrapped_any _ _ _).mono ?_
      rintro e wn ⟨v, rfl, hv, hwn⟩
      subst wn
      obtain ⟨_, s, rfl⟩ := hv.resolve_left (fun h => hne h.1)
      have k2 := k1.set (.iface 173 (.agg #[.string s, .iface 36 (.int .i64 (rdE S k b))]))
      have d1 := k2.c1
      have T2 := Turns.cell w1 wb 1 (.iface 173 (.agg #[.string s, .iface 36 (.int .i64 (rdE S k b))]))
      have fin := DidR.zeros (D1.turns T2 (fun i hi e => hwF (e ▸ hi))) ((t1.mono (fun _ _ h => Or.inl h)).trans T2 (fun i _ e => Or.inr e)) k2 hv
      rw [show (w1.setCell ⟨wb, 1, none⟩ (.iface 173 (.agg #[.string s, .iface 36 (.int .i64 (rdE S k b))]))).heap.size = w1.heap.size by simp [World.setCell]] at fin
      go_wp2_with (at_make; (refine wpList_make_row _ rfl _ _ 56 rfl 5 i0 (.int .u8 0) Tryz.underlying56 hi hz0 hz1 rfl _ _ 512 rfl rfl (by rw [hz2]; omega) (by omega) ?_))
      go_ret
      refine ⟨_, rfl, ?_⟩
      unfold rkD
      rw [hr0, if_neg hne]
      exact fin
    · have hrd : rkD 0 S k b = rdB S b.toNat := by unfold rkD; rw [hr0, if_pos heq]
      go_wp2_with fail
      refine (wrapped_any _ _ _).mono ?_
      rintro e wn ⟨v, rfl, hv, hwn⟩
      subst wn
      obtain ⟨_, rfl⟩ := hv.resolve_right (fun h => h.1 rfl)
      have k2 := k1.set .nilIface
      have d1 := k2.c1
      go_wp2
      go_ret
      refine ⟨_, rfl, ?_⟩
      rw [hr0, heq, hrd]
      exact DidR.of D1 t1 ⟨_, k1⟩ (Or.inl ⟨rfl, rfl⟩) hwF hlt hg hbl
  · have hr0 : rkE e0 S k b = e0 := if_neg h0
    go_enter Tryz.func102, Tryz.ntmps102
    go_wp2_with (at_make; (refine wpList_make_row _ rfl _ _ 56 rfl 5 i0 (.int .u8 0) Tryz.underlying56 hi hz0 hz1 rfl _ _ 512 rfl rfl (by rw [hz2]; omega) (by omega) ?_))
    go_ret
    refine ⟨_, rfl, ?_⟩
    unfold rkD
    rw [hr0, if_neg h0]
    exact DidR.zeros hD (Turns.refl _ _) hW (Or.inr ⟨h0, s, rfl⟩)
end Go.Proofs.YtnmdnglbpkpfdaaGreatDoor

/- errors.Is at this dump, for the package's five sentinels: the same one is found, another one is not. -/
namespace Go.Proofs.YtnmdnglbpkpfdaaGreatDoor
open Go.RowKit Go.Extern.Stop Go.Stop Go.Extern Go.Extern.Rtype
set_option maxRecDepth 100000
theorem isTypeOf (v : Value) (w : World) : (Extern.ReflectliteType.typeOf #[.iface 256 v]).run Tryz.prog w = .ok (.iface 223 (.agg #[.pointer (some ⟨6, 256, none⟩)])) w := by kernel_rfl
def cmpFn : Array Value → Sem Value := Extern.ReflectliteType.method fun t => do noPackHeld "Comparable" t; pure (.bool (← typeInfo t).comparable)
theorem isComparable (w : World) : (cmpFn #[.agg #[.pointer (some ⟨6, 256, none⟩)]]).run Tryz.prog w = .ok (.bool true) w := by kernel_rfl
theorem isMethodComparable (v : Value) (w : World) : (Go.method 388 223 v "Comparable").run Tryz.prog w = .ok (212, v) w := by kernel_rfl
theorem isComp : (Tryz.prog.info? 256).map (·.comparable) = some true := by kernel_rfl
theorem isSize : (Tryz.prog.info? 276).map (·.size) = some 1 := by kernel_rfl
theorem noIsE (v : Value) (xT : TypeId) (w : World) : (Instr.typeAssert (.iface 256 v) xT 253 true).run Tryz.prog w = .ok (.tuple #[.nilIface, .bool false]) w := run_typeAssert_lacksB Tryz.underlying253 (by kernel_rfl) (by kernel_rfl) v xT w
theorem noUnwrapE (v : Value) (xT : TypeId) (w : World) : (Instr.typeAssert (.iface 256 v) xT 231 true).run Tryz.prog w = .ok (.tuple #[.nilIface, .bool false]) w := run_typeAssert_lacksB Tryz.underlying231 (by kernel_rfl) (by kernel_rfl) v xT w
theorem noUnwrapsE (v : Value) (xT : TypeId) (w : World) : (Instr.typeAssert (.iface 256 v) xT 233 true).run Tryz.prog w = .ok (.tuple #[.nilIface, .bool false]) w := run_typeAssert_lacksB Tryz.underlying233 (by kernel_rfl) (by kernel_rfl) v xT w

/-- errors.Is(x, x), x a pointer to an errors.errorString. -/
theorem is_same (a : Addr) (w : World) :
    Calls Tryz.prog 184 #[.iface 256 (.pointer (some a)), .iface 256 (.pointer (some a))] w fun e w' => e = .returned (.bool true) ∧ w' = w := by
  obtain ⟨i, hi, hcmp⟩ := Option.map_eq_some_iff.1 isComp
  obtain ⟨j, hj, hjs⟩ := Option.map_eq_some_iff.1 isSize
  have h8 := @run_callFunc_extern Tryz.prog 166 _ Extern.ReflectliteType.typeOf Tryz.func166 (by kernel_rfl) (by kernel_rfl) (by kernel_rfl) (by kernel_rfl)
  have h32 := @run_callFunc_extern Tryz.prog 212 _ cmpFn Tryz.func212 (by kernel_rfl) (by kernel_rfl) (by kernel_rfl) (by kernel_rfl)
  have tT := isTypeOf
  have cT := isComparable
  have mR := isMethodComparable
  have heq := run_eql_iface_ptr_same (P := Tryz.prog) w a Tryz.underlying145 Tryz.underlying256 hi hcmp hj
  go_enter Tryz.func184, Tryz.ntmps184
  go_wp2
  refine wp_loop_rounds 1 ?_
  rw [rounds_succ]
  go_wp2
  go_ret
  exact ⟨rfl, rfl⟩

/-- errors.Is(x, y), two different pointers to errors.errorString: neither has Is nor Unwrap: false. -/
theorem is_other (a b : Addr) (ca cb : Array Value) (ta tb : TypeId) (w : World) (hne : a ≠ b) (ha : w.heap[a.block]? = some (.cells ca ta (0, 0))) (hb : w.heap[b.block]? = some (.cells cb tb (0, 0))) :
    Calls Tryz.prog 184 #[.iface 256 (.pointer (some a)), .iface 256 (.pointer (some b))] w fun e w' => e = .returned (.bool false) ∧ w' = w := by
  obtain ⟨i, hi, hcmp⟩ := Option.map_eq_some_iff.1 isComp
  obtain ⟨j, hj, hjs⟩ := Option.map_eq_some_iff.1 isSize
  have h8 := @run_callFunc_extern Tryz.prog 166 _ Extern.ReflectliteType.typeOf Tryz.func166 (by kernel_rfl) (by kernel_rfl) (by kernel_rfl) (by kernel_rfl)
  have h32 := @run_callFunc_extern Tryz.prog 212 _ cmpFn Tryz.func212 (by kernel_rfl) (by kernel_rfl) (by kernel_rfl) (by kernel_rfl)
  have tT := isTypeOf
  have cT := isComparable
  have mR := isMethodComparable
  have nE := noIsE
  have uE := noUnwrapE
  have vE := noUnwrapsE
  have heq := run_eql_iface_ptr_other (P := Tryz.prog) w Tryz.underlying145 Tryz.underlying256 hi hcmp hj (by rw [hjs]; decide) hne ha hb
  go_enter Tryz.func184, Tryz.ntmps184
  go_wp2
  refine wp_loop_rounds 1 ?_
  rw [rounds_succ]
  go_wp2
  go_ret
  exact ⟨rfl, rfl⟩
end Go.Proofs.YtnmdnglbpkpfdaaGreatDoor

/- A reader in memory, and NewReader by its contract. -/
namespace Go.Proofs.YtnmdnglbpkpfdaaGreatDoor
open Go.RowKit
set_option maxRecDepth 100000
/-- Block rb is a bits.Reader: its bytes bs (n of them, in block g), its place, its error. -/
structure Rdr (w : World) (rb g n cap : Nat) (pl code : Int) (bs : List Int) : Prop where
  blk : w.heap[rb]? = some (.cells #[.slice (some ⟨g, 0, none⟩) n cap, .int .i64 pl, .int .i64 code] 237 (0, 0))
  lies : Lies w (some ⟨g, 0, none⟩) n cap bs
  apart : g ≠ rb
  glt : g < w.heap.size

theorem Rdr.c0 {w : World} {rb g n cap : Nat} {pl code : Int} {bs : List Int} (h : Rdr w rb g n cap pl code bs) : w.cell? ⟨rb, 0, none⟩ = some (.slice (some ⟨g, 0, none⟩) n cap) := by simp [World.cell?, h.blk]
theorem Rdr.c1 {w : World} {rb g n cap : Nat} {pl code : Int} {bs : List Int} (h : Rdr w rb g n cap pl code bs) : w.cell? ⟨rb, 1, none⟩ = some (.int .i64 pl) := by simp [World.cell?, h.blk]
theorem Rdr.c2 {w : World} {rb g n cap : Nat} {pl code : Int} {bs : List Int} (h : Rdr w rb g n cap pl code bs) : w.cell? ⟨rb, 2, none⟩ = some (.int .i64 code) := by simp [World.cell?, h.blk]
theorem Rdr.f {w : World} {rb g n cap : Nat} {pl code : Int} {bs : List Int} (h : Rdr w rb g n cap pl code bs) (o : Nat) : w.frozen? ⟨rb, o, none⟩ = false := by simp [World.frozen?, h.blk]
theorem Rdr.kept {w w' : World} {rb g n cap : Nat} {pl code : Int} {bs : List Int} {row : Option Nat} (h : Rdr w rb g n cap pl code bs) (hg : w.grownBy w' row) (h1 : some rb ≠ row) (h2 : some g ≠ row) : Rdr w' rb g n cap pl code bs :=
  ⟨(hg.block rb (by have := Array.getElem?_eq_some_iff.1 h.blk; exact this.1) h1).trans h.blk, h.lies.grown hg (fun ad had => by obtain rfl := Option.some.inj had; exact h2), h.apart, Nat.lt_of_lt_of_le h.glt hg.size⟩
theorem Rdr.drewN {w : World} {rb g n cap : Nat} {pl code : Int} {bs : List Int} (h : Rdr w rb g n cap pl code bs) (m : Nat) : Rdr (w.drewN m) rb g n cap pl code bs :=
  ⟨h.blk, ⟨h.lies.hlen, h.lies.hle, h.lies.hnone, h.lies.hcells⟩, h.apart, h.glt⟩

set_option maxHeartbeats 400000 in
theorem newReader_any (ao : Option Addr) (len cap : Nat) (bs : List Int) (w : World) (hbd : len ≤ 200000000000000) (hL : Lies w ao len cap bs) :
    Calls Tryz.prog 138 #[.slice ao len cap] w fun e w' => ∃ rb g, e = .returned (.pointer (some ⟨rb, 0, none⟩)) ∧ Rdr w' rb g len len 0 0 bs ∧ w.heap.size ≤ rb ∧ w.heap.size ≤ g ∧ Below w.heap.size w w' := by
  obtain ⟨i0, hi, hz0, hz1, hz2⟩ := info_parts Tryz.info5
  go_enter Tryz.func138, Tryz.ntmps138
  go_wp2_with (first
    | (at_make; refine wpList_make_own _ rfl _ _ 56 rfl w.heap.size 5 i0 (.int .u8 0) 1 Tryz.underlying56 hi hz0 hz1 _ _ _ len rfl rfl (by omega) (by rw [hz2]; omega) (by unfold maxLen; omega) (Nat.le_refl _) ?_; intro w0 hown0 hgrow0)
    | (at_builtin; refine wpList_append_fits_any _ rfl (.tmp 5) (.tmp 6) 56 rfl w.heap.size 5 i0 1 Tryz.underlying56 hi hz1 w.heap.size 0 len _ rfl hown0 _ len _ (bs.map (Value.int .u8)) rfl (by simp [hL.hlen]) hL.hnone (fun ad had t u hu => hgrow0.cell (hL.hcells ad had t u hu) (by simp)) (ints_oneCell _ _) (by omega) ?_; intro w1 hown1 hgrow1; simp only [Nat.zero_add, List.nil_append] at hown1))
  go_ret
  have hlt : w.heap.size < w1.heap.size := (hown1.lt _ rfl).2
  have hb1 : Below w.heap.size w w1 := ((Below.refl _ _).grown hgrow0 (Nat.le_refl _) (fun k h => by cases h)).grown hgrow1 hgrow0.size (fun k hk => by cases hk; exact Nat.le_refl _)
  refine ⟨w1.heap.size, w.heap.size, rfl, ⟨heap_alloc_new _ _, (Lies.own hown1).grown (World.grownBy_alloc _ _ none) (fun _ _ => by simp), by omega, by simp; omega⟩, by omega, Nat.le_refl _, hb1.alloc hb1.size _⟩

/-- Where the variables stand that hold the package's five errors: 0 errFlag, 1 errWide, 2 errLong, 3 errPad, 4 errShort. -/
def gvar : Nat → Nat
  | 0 => 3 | 1 => 1 | 2 => 4 | 3 => 5 | _ => 2
/-- The package's five errors, as the variables hold them. -/
structure Errs (w : World) (er : Nat → Addr) : Prop where
  cell : ∀ i, i < 5 → w.cell? ⟨gvar i, 0, none⟩ = some (.iface 256 (.pointer (some (er i))))
  row : ∀ i, i < 5 → ∃ c t, w.heap[(er i).block]? = some (.cells c t (0, 0))
  ne : ∀ i j, i < 5 → j < 5 → i ≠ j → er i ≠ er j
theorem Errs.c0 {w : World} {er : Nat → Addr} (h : Errs w er) : w.cell? ⟨3, 0, none⟩ = some (.iface 256 (.pointer (some (er 0)))) := h.cell 0 (by decide)
theorem Errs.c1 {w : World} {er : Nat → Addr} (h : Errs w er) : w.cell? ⟨1, 0, none⟩ = some (.iface 256 (.pointer (some (er 1)))) := h.cell 1 (by decide)
theorem Errs.c2 {w : World} {er : Nat → Addr} (h : Errs w er) : w.cell? ⟨4, 0, none⟩ = some (.iface 256 (.pointer (some (er 2)))) := h.cell 2 (by decide)
theorem Errs.c3 {w : World} {er : Nat → Addr} (h : Errs w er) : w.cell? ⟨5, 0, none⟩ = some (.iface 256 (.pointer (some (er 3)))) := h.cell 3 (by decide)
theorem Errs.c4 {w : World} {er : Nat → Addr} (h : Errs w er) : w.cell? ⟨2, 0, none⟩ = some (.iface 256 (.pointer (some (er 4)))) := h.cell 4 (by decide)

theorem Errs.below {B : Nat} {w w' : World} {er : Nat → Addr} (h : Errs w er) (hb : Below B w w') (hB : w.heap.size ≤ B) : Errs w' er := by
  refine ⟨fun i hi => ?_, fun i hi => ?_, h.ne⟩
  · have hc := h.cell i hi
    exact (hb.cell (Nat.lt_of_lt_of_le (World.block_lt_of_cell? w _ hc) hB)).trans hc
  · obtain ⟨c, t, hr⟩ := h.row i hi
    exact ⟨c, t, (hb.block _ (Nat.lt_of_lt_of_le (lt_of_block hr) hB)).trans hr⟩

/-- No error's block, nor a variable's, is a row that came later. -/
theorem Errs.grown {w w' : World} {er : Nat → Addr} {row : Option Nat} (h : Errs w er) (hg : w.grownBy w' row) (hne : ∀ i, i < 5 → some (gvar i) ≠ row ∧ some (er i).block ≠ row) : Errs w' er := by
  refine ⟨fun i hi => ?_, fun i hi => ?_, h.ne⟩
  · exact hg.cell (h.cell i hi) (hne i hi).1
  · obtain ⟨c, t, hr⟩ := h.row i hi
    exact ⟨c, t, (hg.block _ (lt_of_block hr) (hne i hi).2).trans hr⟩
theorem Errs.drewN {w : World} {er : Nat → Addr} (h : Errs w er) (m : Nat) : Errs (w.drewN m) er := ⟨h.cell, h.row, h.ne⟩
end Go.Proofs.YtnmdnglbpkpfdaaGreatDoor
