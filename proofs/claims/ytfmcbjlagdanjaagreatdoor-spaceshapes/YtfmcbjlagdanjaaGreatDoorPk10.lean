/- (*Tx).Write by its contract, where it is taken. -/
import Derived.Test.YtfmcbjlagdanjaaGreatDoorPk09
import Derived.Test.YtfmcbjlagdanjaaGreatDoorPk04
import Derived.BigQuiet
import Derived.WalkMore
namespace Go.Proofs.YtfmcbjlagdanjaaGreatDoor
open Go.RowKit Go.Maps
set_option maxRecDepth 100000

structure TbC (w : World) (tb jb wm : Nat) (sv : Value) (last : Int) : Prop where
  c0 : w.cell? ⟨tb, 0, none⟩ = some (.pointer (some ⟨jb, 0, none⟩))
  c1 : w.cell? ⟨tb, 1, none⟩ = some (.map (some wm))
  c2 : w.cell? ⟨tb, 2, none⟩ = some sv
  c3 : w.cell? ⟨tb, 3, none⟩ = some (.int .i64 last)
  fz : ∀ j, w.frozen? ⟨tb, j, none⟩ = false
theorem Tb.cells {w : World} {tb jb wm : Nat} {sv : Value} {last : Int} (h : Tb w tb jb wm sv last) : TbC w tb jb wm sv last := by
  unfold Tb at h
  constructor
  all_goals first | (intro j; simp [World.frozen?, h]) | simp [World.cell?, h]
theorem int_key (b : Nat) (h : b < 4096) : keyOf Tryz.prog 3 (.int .i64 b) = some (.int .i64 b) := keyOf_int_mk Tryz.underlying3 (q := .i64) (WalkArith.wf_i64 ⟨by omega, by omega⟩)
/-- What a look at a map answers. -/
theorem Mp.look {w : World} {bm n : Nat} {m : List (Nat × Nat)} (h : Mp w bm n m) (b : Nat) (hb : b < 4096) : (Instr.lookup 105 (.map (some bm)) (.int .i64 b) true).run Tryz.prog w = .ok (.tuple #[((lk m b).map hv).getD (.slice none 0 0), .bool (lk m b).isSome]) w := by
  obtain ⟨v, ps, hrun, hv'⟩ := h.own.look_ok law3 Tryz.underlying105 (zeroB w) (zd := .held (.slice none 0 0)) (zp := []) rfl (int_key b hb)
  rw [hrun, mD_has_int]
  rw [mD_at] at hv'
  cases e : lk m b with
  | none => rw [e] at hv'; simp [RV] at hv'; rw [hv'.1]; rfl
  | some g => rw [e] at hv'; simp [RV] at hv'; rw [hv'.1]; rfl
/-- A store into a map, as one step of a region that draws its order. -/
theorem step_update_own {H : Type} {P : Program} {ops : Array Oper} {o : Oper} {a : Act} {w : World} {C : Act → World → Prop} {Q : Exit → Act → World → Prop} {E : Prop} (hgd : o.guard = none) (m x v : Operand) (t : TypeId) (hop : o.op = Op.mapUpdate t m x v)
    (k e : TypeId) (K : Keyed P k) (ht : P.underlying t = some (.map k e)) (R : Value → Option (DataW H × List MemPlace)) (b n : Nat) (D : DataW H)
    (hm : a.eval m = .map (some b)) (hown : w.ownsMap P k R b n D) (hn : n < maxLen) (key val : Value) (kl : Lit) (hx : a.eval x = key) (hv : a.eval v = val) (hkey : keyOf P k key = some kl)
    (d : DataW H) (ps : List MemPlace) (hval : R val = some (d, ps))
    (hK : ∀ w', w'.ownsMap P k R b (n + 1) (D.put kl d) → w.mapTurned w' b → C (a.put o.dst undef) w') :
    if Region.wanted o (yielded ops a.tmps) = true then Oper.wp P o a w C Q else E := by
  have hw : Region.wanted o (yielded ops a.tmps) = true := by simp [Region.wanted, hgd]
  rw [if_pos hw]
  obtain ⟨w', hrun, r1, r2⟩ := hown.store K ht hn hkey hval
  unfold Oper.wp
  simp [execOp, hop, hm, hx, hv, hrun, Result.andThen]
  exact hK w' r1 r2
set_option maxHeartbeats 2000000 in
theorem txWrite_ok {w : World} {d : Nat} {S : DevS} {k N n : Nat} {G : Nat → Prop} (hD : Dev w d 0 S k N G) {jb st sz tb wm : Nat} {seq place free last : Int} {bm : Nat} {sv : Value} {m : List (Nat × Nat)} (hJ : Jb w jb d st sz seq place free bm (some tb)) (hT : Tb w tb jb wm sv last) (hM : Mp w wm n m) (hjG : ¬ G jb) (htG : ¬ G tb) (hmG : ¬ G wm) (htm : tb ≠ wm) (ho : S.off = false) (hst : st + sz ≤ k)
    (b : Nat) (hb : b < k) (hout : b < st ∨ st + sz ≤ b) (ao : Option Addr) (c : Nat) (ds : List Int) (hL : Lies w ao 512 c ds) (haG : ∀ ad, ao = some ad → ¬ G ad.block) (hroom : (lk m b).isSome = true ∨ m.length < 24) (hn : n ≤ 1000000) :
    Calls Tryz.prog 104 #[.pointer (some ⟨tb, 0, none⟩), .int .i64 b, .slice ao 512 c] w fun e w' => ∃ g, e = .returned (.int .i64 0) ∧ w.heap.size ≤ g ∧ w'.heap[g]? = some (bl ds) ∧ Mp w' wm (n + 1) (mput m b g) ∧ Dev w' d 0 S k N G ∧ Turns (fun i => G i ∨ i = wm) w w' := by
  obtain ⟨c0, c1, c2, c3, c4, c5, c6, c7, c8, fz⟩ := hJ.cells
  obtain ⟨t0, t1, t2, t3, tz⟩ := hT.cells
  have hk := hD.good.top
  have hoB : outB k st sz b = true := by simp [outB]; omega
  go_enter Tryz.func104, Tryz.ntmps104
  go_wp2_with fail
  have m1 := outside_any hD st sz (by omega) (by omega) b
  rw [hoB] at m1
  refine m1.mono ?_
  rintro e w1 ⟨rfl, q1⟩
  have J1 : Jb w1 jb d st sz seq place free bm (some tb) := (q1.2.block jb (heap_lt hJ) hjG).trans hJ
  have T1 : Tb w1 tb jb wm sv last := (q1.2.block tb (heap_lt hT) htG).trans hT
  have M1 := hM.turns q1.2 hmG
  have L1 := hL.turns q1.2 haG
  clear c0 c1 c2 c3 c4 c5 c6 c7 c8 fz t0 t1 t2 t3 tz m1
  go_wp2_with fail
  refine (power_ok q1.1 J1 ho).mono ?_
  rintro e w2 ⟨rfl, q2⟩
  have T2 : Tb w2 tb jb wm sv last := (q2.2.block tb (heap_lt T1) htG).trans T1
  have M2 := M1.turns q2.2 hmG
  have L2 := L1.turns q2.2 haG
  obtain ⟨t0, t1, t2, t3, tz⟩ := T2.cells
  have hlo := M2.look b (by omega)
  have hown := M2.own
  have hsz : (Maps.size (mD m) : Int) = (m.length : Int) := by simp [mD, Maps.size_eq]
  have hln := fun ty => hown.len Tryz.underlying105 ty
  simp only [hsz] at hln
  cases hlk : lk m b with
  | some g0 =>
    rw [hlk] at hlo
    go_wp2_with fail
    go_region_held3 (fun w' => w'.cell? ⟨tb, 1, none⟩ = some (.map (some wm)))
      (first | exact t1 | exact t1' | exact t1'')
      (first
        | (go_at_call 139; refine (jcopied_any ao 512 c ds w2.drew (by omega) (L2.below (Below.drew (Below.refl _ w2)) (Nat.le_refl _))).mono ?_; rintro e w3 ⟨g, rfl, lg, bg, b3⟩; have b3 := Below.fromDrew b3; have lg : w2.heap.size ≤ g := lg; have T3 : Tb w3 tb jb wm sv last := (b3.block tb (heap_lt T2)).trans T2; have hm3 := (M2.turns (Below.turns b3 (fun _ => False)) id).own; have t1' := T3.cells.c1; obtain ⟨w4, hrun4, hown4, htr4⟩ := hm3.store (val := .slice (some ⟨g, 0, none⟩) 512 512) law3 Tryz.underlying105 (by unfold maxLen; omega) (int_key b (by omega)) (d := .held (hv g)) (ps := []) rfl; have t1'' : w4.cell? ⟨tb, 1, none⟩ = some (.map (some wm)) := htr4.grown.cell t1' (fun e => htm (Option.some.inj e))))
    have D3 := q2.1.below b3
    have s1 := q1.2.size
    have s2 := q2.2.size
    have tt : Turns (fun i => G i ∨ i = wm) w w3 := ((q1.2.trans q2.2 (fun _ _ h => h)).mono (fun _ _ => Or.inl)).trans (Below.turns b3 (fun _ => False)) (fun _ _ r => r.elim)
    have t4 : Turns (fun i => i = wm) w3 w4 := Turns.grown htr4.grown (fun x hx => (Option.some.inj hx).symm)
    have hgm : g ≠ wm := fun e => by have := M2.lt; omega
    have hM4 : Mp w4 wm (n + 1) (mput m b g) := ⟨by rw [← mD_put hM.ris b g (hown4.canon law3)]; exact hown4, mput_rising b g hM.ris⟩
    have hg4 := (t4.block g (heap_lt bg) hgm).trans bg
    have D4 := D3.turns t4 (fun i hi e => hmG (e ▸ hi))
    have tt4 := tt.trans t4 (fun i _ r => Or.inr r)
    clear hlo hown t0 t1 t2 t3 tz D3 tt T2 M2 T1 M1 L1 L2 J1 q1 q2 bg b3 hown4 htr4 t4 hm3 hrun4
    go_wp2
    go_ret
    exact ⟨g, rfl, by omega, hg4, hM4, D4, tt4⟩
  | none =>
    rw [hlk] at hlo
    have hm24 : m.length < 24 := hroom.resolve_left (by rw [hlk]; decide)
    have hmi : ¬ (m.length : Int) = 24 := by omega
    go_wp2_with fail
    go_region_held3 (fun w' => w'.cell? ⟨tb, 1, none⟩ = some (.map (some wm)))
      (first | exact t1 | exact t1' | exact t1'')
      (first
        | (go_at_call 139; refine (jcopied_any ao 512 c ds w2.drew (by omega) (L2.below (Below.drew (Below.refl _ w2)) (Nat.le_refl _))).mono ?_; rintro e w3 ⟨g, rfl, lg, bg, b3⟩; have b3 := Below.fromDrew b3; have lg : w2.heap.size ≤ g := lg; have T3 : Tb w3 tb jb wm sv last := (b3.block tb (heap_lt T2)).trans T2; have hm3 := (M2.turns (Below.turns b3 (fun _ => False)) id).own; have t1' := T3.cells.c1; obtain ⟨w4, hrun4, hown4, htr4⟩ := hm3.store (val := .slice (some ⟨g, 0, none⟩) 512 512) law3 Tryz.underlying105 (by unfold maxLen; omega) (int_key b (by omega)) (d := .held (hv g)) (ps := []) rfl; have t1'' : w4.cell? ⟨tb, 1, none⟩ = some (.map (some wm)) := htr4.grown.cell t1' (fun e => htm (Option.some.inj e))))
    have D3 := q2.1.below b3
    have s1 := q1.2.size
    have s2 := q2.2.size
    have tt : Turns (fun i => G i ∨ i = wm) w w3 := ((q1.2.trans q2.2 (fun _ _ h => h)).mono (fun _ _ => Or.inl)).trans (Below.turns b3 (fun _ => False)) (fun _ _ r => r.elim)
    have t4 : Turns (fun i => i = wm) w3 w4 := Turns.grown htr4.grown (fun x hx => (Option.some.inj hx).symm)
    have hgm : g ≠ wm := fun e => by have := M2.lt; omega
    have hM4 : Mp w4 wm (n + 1) (mput m b g) := ⟨by rw [← mD_put hM.ris b g (hown4.canon law3)]; exact hown4, mput_rising b g hM.ris⟩
    have hg4 := (t4.block g (heap_lt bg) hgm).trans bg
    have D4 := D3.turns t4 (fun i hi e => hmG (e ▸ hi))
    have tt4 := tt.trans t4 (fun i _ r => Or.inr r)
    clear hlo hown t0 t1 t2 t3 tz D3 tt T2 M2 T1 M1 L1 L2 J1 q1 q2 bg b3 hown4 htr4 t4 hm3 hrun4
    go_wp2
    go_ret
    exact ⟨g, rfl, by omega, hg4, hM4, D4, tt4⟩
end Go.Proofs.YtfmcbjlagdanjaaGreatDoor

/- What a transaction sees of a block: newest, (*Tx).Read by their contracts. -/
namespace Go.Proofs.YtfmcbjlagdanjaaGreatDoor
open Go.RowKit Go.Maps
set_option maxRecDepth 100000

/-- What a transaction sees: what it has written, what is not home, what the device tells. -/
def Sees (w : World) (S : DevS) (m a : List (Nat × Nat)) (b : Nat) (src : List Int) : Prop :=
  (∃ g, lk m b = some g ∧ w.heap[g]? = some (bl src)) ∨ (lk m b = none ∧ ((∃ g, lk a b = some g ∧ w.heap[g]? = some (bl src)) ∨ (lk a b = none ∧ src = rdB S b)))
theorem Sees.turns {F : Nat → Prop} {w w' : World} {S : DevS} {m a : List (Nat × Nat)} {b : Nat} {src : List Int} (h : Sees w S m a b src) (t : Turns F w w') (hm : ∀ g, lk m b = some g → ¬ F g) (ha : ∀ g, lk a b = some g → ¬ F g) : Sees w' S m a b src := by
  rcases h with ⟨g, h1, h2⟩ | ⟨h1, ⟨g, h2, h3⟩ | h2⟩
  · exact Or.inl ⟨g, h1, (t.block g (heap_lt h2) (hm g h1)).trans h2⟩
  · exact Or.inr ⟨h1, Or.inl ⟨g, h2, (t.block g (heap_lt h3) (ha g h2)).trans h3⟩⟩
  · exact Or.inr ⟨h1, Or.inr h2⟩
set_option maxHeartbeats 2000000 in
theorem newest_ok {w : World} {d : Nat} {S : DevS} {k N n n2 : Nat} {G : Nat → Prop} (hD : Dev w d 0 S k N G) {jb st sz tb wm wb : Nat} {seq place free last : Int} {bm : Nat} {sv : Value} {m a : List (Nat × Nat)} (hW : Wk w wb d .nilIface) (hwG : ¬ G wb) (hJ : Jb w jb d st sz seq place free bm (some tb)) (hT : Tb w tb jb wm sv last) (hM : Mp w wm n m) (hA : Mp w bm n2 a) (ho : S.off = false) (b : Nat) (hb : b < k) (src : List Int) (hs : Sees w S m a b src) (hl : src.length = 512) :
    Calls Tryz.prog 86 #[.pointer (some ⟨tb, 0, none⟩), .int .i64 b, .pointer (some ⟨wb, 0, none⟩)] w fun e w' => ∃ g, e = .returned (hv g) ∧ w.heap.size ≤ g ∧ w'.heap[g]? = some (bl src) ∧ Wk w' wb d .nilIface ∧ Dev w' d 0 S k N G ∧ Turns (fun i => G i ∨ i = wb) w w' := by
  obtain ⟨c0, c1, c2, c3, c4, c5, c6, c7, c8, fz⟩ := hJ.cells
  obtain ⟨t0, t1, t2, t3, tz⟩ := hT.cells
  have hk := hD.good.top
  have lm := hM.look b (by omega)
  have la := hA.look b (by omega)
  rcases hs with ⟨g0, h1, h2⟩ | ⟨h1, ⟨g0, h2, h3⟩ | ⟨h2, rfl⟩⟩
  · rw [h1] at lm
    have hL := Lies.full h2 hl
    clear la
    go_enter Tryz.func86, Tryz.ntmps86
    go_wp2_with fail
    refine (jcopied_any _ _ _ _ _ (by omega) hL).mono ?_
    rintro e w1 ⟨g1, rfl, l1, b1, q1⟩
    go_wp2
    go_ret
    exact ⟨g1, rfl, l1, b1, hW.turns (Below.turns q1 (fun _ => False)) id, hD.below q1, Below.turns q1 _⟩
  · rw [h1] at lm
    rw [h2] at la
    have hL := Lies.full h3 hl
    go_enter Tryz.func86, Tryz.ntmps86
    go_wp2_with fail
    refine (jcopied_any _ _ _ _ _ (by omega) hL).mono ?_
    rintro e w1 ⟨g1, rfl, l1, b1, q1⟩
    go_wp2
    go_ret
    exact ⟨g1, rfl, l1, b1, hW.turns (Below.turns q1 (fun _ => False)) id, hD.below q1, Below.turns q1 _⟩
  · rw [h1] at lm
    rw [h2] at la
    go_enter Tryz.func86, Tryz.ntmps86
    go_wp2_with fail
    refine (wkread_ok hD hW hwG ho b hb).mono ?_
    rintro e w1 ⟨g1, rfl, l1, b1, k1, d1, t1⟩
    go_wp2
    go_ret
    exact ⟨g1, rfl, l1, b1, k1, d1, t1⟩
set_option maxHeartbeats 2000000 in
theorem txRead_ok {w : World} {d : Nat} {S : DevS} {k N n n2 : Nat} {G : Nat → Prop} (hD : Dev w d 0 S k N G) {jb st sz tb wm : Nat} {seq place free last : Int} {bm : Nat} {sv : Value} {m a : List (Nat × Nat)} (hJ : Jb w jb d st sz seq place free bm (some tb)) (hT : Tb w tb jb wm sv last) (hM : Mp w wm n m) (hA : Mp w bm n2 a) (hjG : ¬ G jb) (htG : ¬ G tb) (hmG : ¬ G wm) (haG : ¬ G bm) (b : Nat) (hmd : ∀ g, lk m b = some g → ¬ G g) (had : ∀ g, lk a b = some g → ¬ G g) (ho : S.off = false) (hst : st + sz ≤ k) (hb : b < k) (hout : b < st ∨ st + sz ≤ b) (src : List Int) (hs : Sees w S m a b src) (hl : src.length = 512) :
    Calls Tryz.prog 36 #[.pointer (some ⟨tb, 0, none⟩), .int .i64 (b : Nat)] w fun e w' => ∃ g, e = .returned (.tuple #[hv g, .int .i64 0]) ∧ w.heap.size ≤ g ∧ w'.heap[g]? = some (bl src) ∧ Dev w' d 0 S k N G ∧ Turns G w w' := by
  obtain ⟨c0, c1, c2, c3, c4, c5, c6, c7, c8, fz⟩ := hJ.cells
  obtain ⟨t0, t1, t2, t3, tz⟩ := hT.cells
  have hk := hD.good.top
  have hF := hD.lt
  have hoB : outB k st sz b = true := by simp [outB]; omega
  have he : begE S = 0 := by unfold begE; rw [if_neg (by simp [ho])]
  have m1 := outside_any hD st sz (by omega) (by omega) b
  rw [hoB] at m1
  go_enter Tryz.func36, Tryz.ntmps36
  go_wp2_with fail
  refine m1.mono ?_
  rintro e w1 ⟨rfl, q1⟩
  have J1 : Jb w1 jb d st sz seq place free bm (some tb) := (q1.2.block jb (heap_lt hJ) hjG).trans hJ
  have T1 : Tb w1 tb jb wm sv last := (q1.2.block tb (heap_lt hT) htG).trans hT
  have M1 := hM.turns q1.2 hmG
  have A1 := hA.turns q1.2 haG
  have S1 := hs.turns q1.2 hmd had
  have s1 := q1.2.size
  clear c0 c1 c2 c3 c4 c5 c6 c7 c8 fz t0 t1 t2 t3 tz m1
  have c0 := J1.cells.c0
  go_wp2_with fail
  refine (begun_any q1.1).mono ?_
  rintro e w2 ⟨ev, rfl, hev, k2, q2⟩
  rw [he] at hev
  obtain ⟨_, rfl⟩ := hev.resolve_right (fun h => h.1 rfl)
  have J2 : Jb w2 jb d st sz seq place free bm (some tb) := (q2.2.block jb (heap_lt J1) hjG).trans J1
  have T2 : Tb w2 tb jb wm sv last := (q2.2.block tb (heap_lt T1) htG).trans T1
  have M2 := M1.turns q2.2 hmG
  have A2 := A1.turns q2.2 haG
  have S2 := S1.turns q2.2 hmd had
  have s2 := q2.2.size
  have hwG : ¬ G w1.heap.size := fun h => by have := q1.1.lt _ h; omega
  clear c0
  go_wp2_with fail
  refine (newest_ok q2.1 k2 hwG J2 T2 M2 A2 ho b hb src S2 hl).mono ?_
  rintro e w3 ⟨g3, rfl, l3, b3, k3, d3, t3⟩
  go_wp2_with fail
  refine (met_ok k3).mono ?_
  rintro e w4 ⟨rfl, b4⟩
  have hg4 := (b4.block g3 (heap_lt b3)).trans b3
  have d4 := d3.below b4
  have tt : Turns G w w4 := ((q1.2.trans q2.2 (fun _ _ h => h)).trans (t3.mono (G := fun i => G i ∨ i = w1.heap.size) (fun _ _ h => h)) (fun i hi r => r.elim id (fun r => by omega))).trans (Below.turns b4 (fun _ => False)) (fun _ _ r => r.elim)
  clear k3 b4 d3 t3 J2 T2 M2 A2 S2 J1 T1 M1 A1 S1 q1 q2 k2 b3
  go_wp2
  refine bodyPost_ret (results_tmp2 rfl _ _ _) rfl ?_
  exact ⟨g3, rfl, by omega, hg4, d4, tt⟩
end Go.Proofs.YtfmcbjlagdanjaaGreatDoor

/- The bits of bytes; has, length, bitsAt by their contracts. -/
namespace Go.Proofs.YtfmcbjlagdanjaaGreatDoor
open Go.RowKit Go.Maps
set_option maxRecDepth 100000

/-- Bytes, and what lies behind them in the same block. -/
abbrev bt (bs : List Int) (tl : List Value) : Obj := .cells (bs.map (Value.int .u8) ++ tl).toArray 5 (0, 0)
theorem Lies.bt {w : World} {g n c : Nat} {bs : List Int} {tl : List Value} (h : w.heap[g]? = some (bt bs tl)) (hn : bs.length = n) (hc : n ≤ c) : Lies w (some ⟨g, 0, none⟩) n c bs := by
  refine ⟨hn, hc, (fun h => by cases h), fun ad had t u hu => ?_⟩
  obtain rfl := Option.some.inj had
  rw [Addr.add_lit, Nat.zero_add]
  have ht : t < (bs.map (Value.int .u8)).length := (List.getElem?_eq_some_iff.1 hu).1
  simp only [World.cell?, h]
  rw [List.getElem?_toArray, List.getElem?_append_left ht]
  exact hu
theorem own_bt {w : World} {base n : Nat} {v : Value} {bs : List Int} (h : w.ownsRow base 5 1 v n (bs.map (Value.int .u8))) (h0 : 0 < n) : ∃ g tl, v = .slice (some ⟨g, 0, none⟩) n (n + tl.length) ∧ base ≤ g ∧ w.heap[g]? = some (bt bs tl) := by
  rcases h.2 with ⟨_, rfl⟩ | ⟨g, cap, cur, rfl, hg, hh, hnc, _, hcs, htk⟩
  · omega
  · refine ⟨g, cur.toList.drop n, ?_, hg, ?_⟩
    · simp [hcs, Nat.add_sub_cancel' hnc]
    · rw [hh]
      have e : cur.toList = bs.map (Value.int .u8) ++ cur.toList.drop n := by
        conv => lhs; rw [← List.take_append_drop n cur.toList]
        rw [Nat.mul_one] at htk
        rw [htk]
      show some (Obj.cells cur _ _) = some (Obj.cells _ _ _)
      rw [← e]
theorem bt_cell {w : World} {g : Nat} {bs : List Int} {tl : List Value} (h : w.heap[g]? = some (bt bs tl)) (j : Nat) (hj : j < bs.length) : w.cell? ⟨g, j, none⟩ = some (.int .u8 (bs.getD j 0)) := by
  simp only [World.cell?, h]
  rw [List.getElem?_toArray, List.getElem?_append_left (by simpa using hj), List.getElem?_map, List.getElem?_eq_getElem hj]
  simp [List.getD_eq_getElem?_getD, List.getElem?_eq_getElem hj]
/-- The bit of a data block. -/
def bitB (bs : List Int) (i : Nat) : Bool := (bs.getD (i / 8) 0).toNat.testBit (i % 8)
theorem and_bit : ∀ x : Fin 256, ∀ k : Fin 8, (bits BinOp.and IntKind.u8 ((x.val : Nat) : Int) (((2 ^ k.val : Nat) : Int)) != 0) = x.val.testBit k.val := by decide +kernel
theorem xor_bit : ∀ x : Fin 256, ∀ k : Fin 8, bits BinOp.xor IntKind.u8 ((x.val : Nat) : Int) (((2 ^ k.val : Nat) : Int)) = ((x.val ^^^ 2 ^ k.val : Nat) : Int) := by decide +kernel

set_option maxHeartbeats 2000000 in
theorem bhas_any (tx : Option Addr) (l : Lay) (g n c : Nat) (bs : List Int) (tl : List Value) (w : World) (hb : w.heap[g]? = some (bt bs tl)) (hn : bs.length = n) (hy : ∀ x ∈ bs, 0 ≤ x ∧ x ≤ 255) (i : Nat) (hi : i / 8 < n) (hi2 : i ≤ 100000) :
    Calls Tryz.prog 46 #[bmV tx l (some ⟨g, 0, none⟩) n c, .int .i64 i] w fun e w' => e = .returned (.bool (bitB bs i)) ∧ Below w.heap.size w w' := by
  obtain ⟨q, hq⟩ : ∃ q, i / 8 = q := ⟨_, rfl⟩
  obtain ⟨r, hr⟩ : ∃ r, i % 8 = r := ⟨_, rfl⟩
  have hr8 : r < 8 := by omega
  have hx := bt_cell hb q (by omega)
  have hxm : bs.getD q 0 ∈ bs := by
    rw [List.getD_eq_getElem?_getD, List.getElem?_eq_getElem (by omega)]
    exact List.getElem_mem _
  obtain ⟨y, hy1, hy2⟩ : ∃ y : Nat, bs.getD q 0 = y ∧ y < 256 := ⟨(bs.getD q 0).toNat, by have := hy _ hxm; omega, by have := hy _ hxm; omega⟩
  obtain ⟨bb, hbb⟩ : ∃ bb, y.testBit r = bb := ⟨_, rfl⟩
  have HE : Hid (bitB bs i = bb) := by show _ = _; unfold bitB; rw [hq, hr, hy1, ← hbb]; simp
  have hA := and_bit ⟨y, hy2⟩ ⟨r, hr8⟩
  simp only at hA
  rw [hbb] at hA
  clear hbb
  have hqi : (i : Int) / 8 = q := by omega
  have hri : (i : Int) % 8 = r := by omega
  rw [hy1] at hx
  obtain ⟨W, hW⟩ : ∃ W, w.alloc (.cells (bmA tx l (some ⟨g, 0, none⟩) n c) 96) = W := ⟨_, rfl⟩
  have hbW : Below w.heap.size w W := by rw [← hW]; exact (Below.refl _ w).alloc (Nat.le_refl _) _
  have cB : W.cell? ⟨w.heap.size, 21, none⟩ = some (.slice (some ⟨g, 0, none⟩) n c) := by rw [← hW]; simp
  have cX : W.cell? ⟨g, q, none⟩ = some (.int .u8 (y : Int)) := (hbW.cell (World.block_lt_of_cell? w _ hx)).trans hx
  have hqn : (q : Int) < n := by omega
  have hW' : w.alloc (.cells #[.pointer tx, .int .i64 l.bo, .int .i64 l.jr, .int .i64 l.jl, .int .i64 l.le, .int .i64 l.ll, .int .i64 l.bi, .int .i64 l.bl, .int .i64 l.ta, .int .i64 l.tl, .int .i64 l.dt, .int .i64 l.dl, .int .i64 l.to, .int .i64 l.sh.cl, .int .i64 l.sh.wi, .int .i64 l.sh.pl, .int .i64 l.sh.ca, .int .i64 l.sh.ino, .int .i64 l.sh.qu, .int .i64 l.sh.da, .int .i64 l.sh.jo, .slice (some ⟨g, 0, none⟩) n c] 96) = W := hW
  clear hW hx hb hy hxm hy1 hq hr hi
  rcases (show r = 0 ∨ r = 1 ∨ r = 2 ∨ r = 3 ∨ r = 4 ∨ r = 5 ∨ r = 6 ∨ r = 7 by omega) with rfl | rfl | rfl | rfl | rfl | rfl | rfl | rfl
  · have hA' : (bits BinOp.and IntKind.u8 (y : Int) 1 != 0) = bb := hA
    clear hA
    go_enter Tryz.func46, Tryz.ntmps46
    go_wp2_with fail
    try rw [hW']
    go_quiet (fail)
    go_wp2_with fail
    go_ret
    exact ⟨by rw [HE.out]; rfl, below_drewN hbW _⟩
  · have hA' : (bits BinOp.and IntKind.u8 (y : Int) 2 != 0) = bb := hA
    clear hA
    go_enter Tryz.func46, Tryz.ntmps46
    go_wp2_with fail
    try rw [hW']
    go_quiet (fail)
    go_wp2_with fail
    go_ret
    exact ⟨by rw [HE.out]; rfl, below_drewN hbW _⟩
  · have hA' : (bits BinOp.and IntKind.u8 (y : Int) 4 != 0) = bb := hA
    clear hA
    go_enter Tryz.func46, Tryz.ntmps46
    go_wp2_with fail
    try rw [hW']
    go_quiet (fail)
    go_wp2_with fail
    go_ret
    exact ⟨by rw [HE.out]; rfl, below_drewN hbW _⟩
  · have hA' : (bits BinOp.and IntKind.u8 (y : Int) 8 != 0) = bb := hA
    clear hA
    go_enter Tryz.func46, Tryz.ntmps46
    go_wp2_with fail
    try rw [hW']
    go_quiet (fail)
    go_wp2_with fail
    go_ret
    exact ⟨by rw [HE.out]; rfl, below_drewN hbW _⟩
  · have hA' : (bits BinOp.and IntKind.u8 (y : Int) 16 != 0) = bb := hA
    clear hA
    go_enter Tryz.func46, Tryz.ntmps46
    go_wp2_with fail
    try rw [hW']
    go_quiet (fail)
    go_wp2_with fail
    go_ret
    exact ⟨by rw [HE.out]; rfl, below_drewN hbW _⟩
  · have hA' : (bits BinOp.and IntKind.u8 (y : Int) 32 != 0) = bb := hA
    clear hA
    go_enter Tryz.func46, Tryz.ntmps46
    go_wp2_with fail
    try rw [hW']
    go_quiet (fail)
    go_wp2_with fail
    go_ret
    exact ⟨by rw [HE.out]; rfl, below_drewN hbW _⟩
  · have hA' : (bits BinOp.and IntKind.u8 (y : Int) 64 != 0) = bb := hA
    clear hA
    go_enter Tryz.func46, Tryz.ntmps46
    go_wp2_with fail
    try rw [hW']
    go_quiet (fail)
    go_wp2_with fail
    go_ret
    exact ⟨by rw [HE.out]; rfl, below_drewN hbW _⟩
  · have hA' : (bits BinOp.and IntKind.u8 (y : Int) 128 != 0) = bb := hA
    clear hA
    go_enter Tryz.func46, Tryz.ntmps46
    go_wp2_with fail
    try rw [hW']
    go_quiet (fail)
    go_wp2_with fail
    go_ret
    exact ⟨by rw [HE.out]; rfl, below_drewN hbW _⟩
theorem blength_any (tx : Option Addr) (l : Lay) (bo : Option Addr) (n c : Nat) (w : World) (D : Nat) (hD : l.dl = D) (hD2 : D ≤ 4096) :
    Calls Tryz.prog 102 #[bmV tx l bo n c] w fun e w' => e = .returned (.int .i64 ((D + 7) / 8 : Nat)) ∧ Below w.heap.size w w' := by
  have hDi : (D : Int) ≤ 4096 := by omega
  go_enter Tryz.func102, Tryz.ntmps102
  go_wp2
  go_ret
  refine ⟨?_, (Below.refl _ w).alloc (Nat.le_refl _) _⟩
  show Ending.returned (Value.int .i64 _) = Ending.returned (Value.int .i64 _)
  congr 2
  omega
theorem bitsAt_any (tx : Option Addr) (l : Lay) (bo : Option Addr) (n c : Nat) (w : World) (D at_ : Nat) (hD : l.dl = D) (hD2 : D ≤ 4096) (ha : at_ * 8 ≤ D) :
    Calls Tryz.prog 103 #[bmV tx l bo n c, .int .i64 at_] w fun e w' => e = .returned (.int .i64 (min 8 (D - at_ * 8) : Nat)) ∧ Below w.heap.size w w' := by
  have hDi : (D : Int) ≤ 4096 := by omega
  have hai : (at_ : Int) * 8 ≤ D := by omega
  go_enter Tryz.func103, Tryz.ntmps103
  go_wp2
  all_goals (
    go_ret
    refine ⟨?_, (Below.refl _ w).alloc (Nat.le_refl _) _⟩
    show Ending.returned (Value.int .i64 _) = Ending.returned (Value.int .i64 _)
    congr 2
    omega)
end Go.Proofs.YtfmcbjlagdanjaaGreatDoor

/- lowest, used by their contracts. -/
namespace Go.Proofs.YtfmcbjlagdanjaaGreatDoor
open Go.RowKit Go.Maps
set_option maxRecDepth 100000

attribute [local go_sem ↓ 100000] bm_store bm_load
/-- The lowest data block that is not in use, or -1. -/
def lowZ (bs : List Int) (D : Nat) : Int := ((List.range D).find? (fun i => !bitB bs i)).elim (-1) (fun i => (i : Int))
theorem lowZ_some {bs : List Int} {D i : Nat} (hi : i < D) (hb : bitB bs i = false) (hl : ∀ j, j < i → bitB bs j = true) : lowZ bs D = i := by
  have e : (List.range D).find? (fun i => !bitB bs i) = some i := by
    rw [List.find?_range_eq_some]
    exact ⟨by simp [hb], by simpa using hi, fun j hj => by simp [hl j hj]⟩
  unfold lowZ
  rw [e]; rfl
theorem lowZ_none {bs : List Int} {D : Nat} (hl : ∀ j, j < D → bitB bs j = true) : lowZ bs D = -1 := by
  have e : (List.range D).find? (fun i => !bitB bs i) = none := by
    rw [List.find?_eq_none]
    intro j hj
    simp [hl j (by simpa using hj)]
  unfold lowZ
  rw [e]; rfl
/-- How many of the first n are in use. -/
def cntB (bs : List Int) : Nat → Nat
  | 0 => 0
  | n + 1 => cntB bs n + if bitB bs n then 1 else 0
theorem cntB_le (bs : List Int) : ∀ n, cntB bs n ≤ n
  | 0 => Nat.le_refl _
  | n + 1 => by have := cntB_le bs n; unfold cntB; split <;> omega

set_option maxHeartbeats 4000000 in
theorem lowest_any (tx : Option Addr) (l : Lay) (g n c : Nat) (bs : List Int) (tl : List Value) (w : World) (hb : w.heap[g]? = some (bt bs tl)) (hn : bs.length = n) (hy : ∀ x ∈ bs, 0 ≤ x ∧ x ≤ 255) (D : Nat) (hD : l.dl = D) (hD2 : D ≤ 4096) (hDn : (D + 7) / 8 ≤ n) :
    Calls Tryz.prog 43 #[bmV tx l (some ⟨g, 0, none⟩) n c] w fun e w' => e = .returned (.int .i64 (lowZ bs D)) ∧ Below w.heap.size w w' := by
  obtain ⟨W, hW⟩ : ∃ W, w.alloc (.cells (bmA tx l (some ⟨g, 0, none⟩) n c) 96) = W := ⟨_, rfl⟩
  have hbW : Below w.heap.size w W := by rw [← hW]; exact (Below.refl _ w).alloc (Nat.le_refl _) _
  have hM : W.heap[w.heap.size]? = some (.cells (bmA tx l (some ⟨g, 0, none⟩) n c) 96 (0, 0)) := by rw [← hW]; exact heap_alloc_last w _
  have hg : W.heap[g]? = some (bt bs tl) := (hbW.block g (heap_lt hb)).trans hb
  obtain ⟨B, hB⟩ : ∃ B, w.heap.size = B := ⟨_, rfl⟩
  rw [hB] at hM
  have hld := BmLoad.row hM rfl
  obtain ⟨K, hK⟩ : ∃ K, (D + 7) / 8 = K := ⟨_, rfl⟩
  have HK : Hid ((D + 7) / 8 = K) := hK
  have hKn : K ≤ n := by omega
  have hK8 : K ≤ 513 := by omega
  clear hK hDn
  go_enter Tryz.func43, Tryz.ntmps43
  go_wp2_with fail
  try rw [hW]
  go_step3
  go_wp2_with fail
  go_step3
  go_wp2_with fail
  refine (blength_any tx l _ n c W D hD hD2).mono ?_
  rintro e w1 ⟨rfl, b1⟩
  rw [HK.out]
  clear hld
  go_wp2_with fail
  go_loopw [3, 9] (fun f i wr => ∃ a : Nat, a ≤ K ∧ f = .int .i64 (-1) ∧ i = .int .i64 a ∧ Below W.heap.size W wr ∧ ∀ j, j < a * 8 → j < D → bitB bs j = true) (fun _ i _ => K - (intOf i).toNat)
  case atStart => exact ⟨0, Nat.zero_le _, rfl, rfl, b1, fun j hj => by omega⟩
  case round =>
    obtain ⟨a, ha, rfl, rfl, hBr, hall⟩ := hrel
    have hMr := (hBr.block B (heap_lt hM)).trans hM
    have hgr := (hBr.block g (heap_lt hg)).trans hg
    have hld := BmLoad.row hMr rfl
    by_cases hlt : a < K
    · have hai : (a : Int) < K := by omega
      have haD : a * 8 ≤ D := by have := HK.out; omega
      go_wp2_with fail
      refine (bitsAt_any tx l _ n c wr D a hD hD2 haD).mono ?_
      rintro e w2 ⟨rfl, b2⟩
      obtain ⟨m, hm⟩ : ∃ m, min 8 (D - a * 8) = m := ⟨_, rfl⟩
      have HM : Hid (min 8 (D - a * 8) = m) := hm
      have hm8 : m ≤ 8 := by omega
      rw [hm]
      have B2 := hBr.trans (b2.mono hBr.size)
      clear hld hm b2
      go_wp2_with fail
      go_loopw [3, 15] (fun f i wr => ∃ b : Nat, b ≤ m ∧ f = .int .i64 (-1) ∧ i = .int .i64 b ∧ Below W.heap.size W wr ∧ ∀ j, j < a * 8 + b → j < D → bitB bs j = true) (fun _ i _ => m - (intOf i).toNat)
      case atStart => exact ⟨0, Nat.zero_le _, rfl, rfl, B2, hall⟩
      case round =>
        obtain ⟨b, hbm, rfl, rfl, hBs, hall2⟩ := hrel
        have hMs := (hBs.block B (heap_lt hM)).trans hM
        have hgs := (hBs.block g (heap_lt hg)).trans hg
        have hld := BmLoad.row hMs rfl
        by_cases hlt2 : b < m
        · have hbi : (b : Int) < m := by omega
          have hin : a * 8 + b < D := by have := HM.out; omega
          have hH := bhas_any tx l g n c bs tl wr hgs hn hy (a * 8 + b) (by omega) (by omega)
          rw [show (((a * 8 + b : Nat)) : Int) = (a : Int) * 8 + b by omega] at hH
          have HH : Hid (Calls Tryz.prog 46 #[bmV tx l (some ⟨g, 0, none⟩) n c, .int .i64 ((a : Int) * 8 + b)] wr fun e w' => e = .returned (.bool (bitB bs (a * 8 + b))) ∧ Below wr.heap.size wr w') := hH
          clear hH
          go_wp2_with fail
          refine HH.out.mono ?_
          rintro e w3 ⟨rfl, b3⟩
          have B3 := hBs.trans (b3.mono hBs.size)
          clear hld HH
          by_cases hbit : bitB bs (a * 8 + b) = true
          · rw [hbit]
            have HN : Hid (∀ j, j < a * 8 + (b + 1) → j < D → bitB bs j = true) := fun j hj hjD => by
              by_cases e : j = a * 8 + b
              · rw [e]; exact hbit
              · exact hall2 j (by omega) hjD
            go_wp2_with fail
            go_roundw
            case rel => exact ⟨b + 1, by omega, rfl, by go_num, B3, HN.out⟩
            case measure => simp [intOf]; omega
          · have hbf : bitB bs (a * 8 + b) = false := by simpa using hbit
            have HL : Hid (lowZ bs D = ((a * 8 + b : Nat) : Int)) := lowZ_some hin hbf (fun j hj => hall2 j hj (by omega))
            rw [hbf]
            go_wp2_with fail
            try rw [Exit.noGoto_ret]
            go_ret
            exact ⟨by rw [HL.out]; show Ending.returned _ = Ending.returned _; congr 2, hbW.trans (B3.mono hbW.size)⟩
        · obtain rfl : b = m := by omega
          have HN : Hid (∀ j, j < (a + 1) * 8 → j < D → bitB bs j = true) := fun j hj hjD => hall2 j (by have := HM.out; omega) hjD
          clear hld
          go_wp2_with fail
          go_roundw
          case rel => exact ⟨a + 1, by omega, rfl, by go_num, hBs, HN.out⟩
          case measure => simp [intOf]; omega
    · obtain rfl : a = K := by omega
      have HL : Hid (lowZ bs D = -1) := lowZ_none (fun j hj => hall j (by have := HK.out; omega) hj)
      clear hld
      go_wp2_with fail
      try rw [Exit.noGoto_ret]
      go_ret
      exact ⟨by rw [HL.out]; rfl, hbW.trans (hBr.mono hbW.size)⟩

set_option maxHeartbeats 4000000 in
theorem used_any (tx : Option Addr) (l : Lay) (g n c : Nat) (bs : List Int) (tl : List Value) (w : World) (hb : w.heap[g]? = some (bt bs tl)) (hn : bs.length = n) (hy : ∀ x ∈ bs, 0 ≤ x ∧ x ≤ 255) (D : Nat) (hD : l.dl = D) (hD2 : D ≤ 4096) (hDn : (D + 7) / 8 ≤ n) :
    Calls Tryz.prog 47 #[bmV tx l (some ⟨g, 0, none⟩) n c] w fun e w' => e = .returned (.int .i64 (cntB bs D)) ∧ Below w.heap.size w w' := by
  obtain ⟨W, hW⟩ : ∃ W, w.alloc (.cells (bmA tx l (some ⟨g, 0, none⟩) n c) 96) = W := ⟨_, rfl⟩
  have hbW : Below w.heap.size w W := by rw [← hW]; exact (Below.refl _ w).alloc (Nat.le_refl _) _
  have hM : W.heap[w.heap.size]? = some (.cells (bmA tx l (some ⟨g, 0, none⟩) n c) 96 (0, 0)) := by rw [← hW]; exact heap_alloc_last w _
  have hg : W.heap[g]? = some (bt bs tl) := (hbW.block g (heap_lt hb)).trans hb
  obtain ⟨B, hB⟩ : ∃ B, w.heap.size = B := ⟨_, rfl⟩
  rw [hB] at hM
  have hld := BmLoad.row hM rfl
  obtain ⟨K, hK⟩ : ∃ K, (D + 7) / 8 = K := ⟨_, rfl⟩
  have HK : Hid ((D + 7) / 8 = K) := hK
  have hKn : K ≤ n := by omega
  have hK8 : K ≤ 513 := by omega
  clear hK hDn
  go_enter Tryz.func47, Tryz.ntmps47
  go_wp2_with fail
  try rw [hW]
  refine (blength_any tx l _ n c W D hD hD2).mono ?_
  rintro e w1 ⟨rfl, b1⟩
  rw [HK.out]
  clear hld
  go_wp2_with fail
  go_loopw [3, 8] (fun f i wr => ∃ a : Nat, a ≤ K ∧ f = .int .i64 (cntB bs (min (a * 8) D)) ∧ i = .int .i64 a ∧ Below W.heap.size W wr) (fun _ i _ => K - (intOf i).toNat)
  case atStart => exact ⟨0, Nat.zero_le _, by simp [cntB], rfl, b1⟩
  case round =>
    obtain ⟨a, ha, rfl, rfl, hBr⟩ := hrel
    have hMr := (hBr.block B (heap_lt hM)).trans hM
    have hgr := (hBr.block g (heap_lt hg)).trans hg
    have hld := BmLoad.row hMr rfl
    by_cases hlt : a < K
    · have hai : (a : Int) < K := by omega
      have haD : a * 8 ≤ D := by have := HK.out; omega
      go_wp2_with fail
      refine (bitsAt_any tx l _ n c wr D a hD hD2 haD).mono ?_
      rintro e w2 ⟨rfl, b2⟩
      obtain ⟨m, hm⟩ : ∃ m, min 8 (D - a * 8) = m := ⟨_, rfl⟩
      have HM : Hid (min 8 (D - a * 8) = m) := hm
      have hm8 : m ≤ 8 := by omega
      rw [hm]
      have B2 := hBr.trans (b2.mono hBr.size)
      clear hld hm b2
      go_wp2_with fail
      go_loopw [3, 14] (fun f i wr => ∃ b : Nat, b ≤ m ∧ f = .int .i64 (cntB bs (a * 8 + b)) ∧ i = .int .i64 b ∧ Below W.heap.size W wr) (fun _ i _ => m - (intOf i).toNat)
      case atStart => exact ⟨0, Nat.zero_le _, by rw [Nat.add_zero], rfl, B2⟩
      case round =>
        obtain ⟨b, hbm, rfl, rfl, hBs⟩ := hrel
        have hMs := (hBs.block B (heap_lt hM)).trans hM
        have hgs := (hBs.block g (heap_lt hg)).trans hg
        have hld := BmLoad.row hMs rfl
        by_cases hlt2 : b < m
        · have hbi : (b : Int) < m := by omega
          have hin : a * 8 + b < D := by have := HM.out; omega
          have hH := bhas_any tx l g n c bs tl wr hgs hn hy (a * 8 + b) (by omega) (by omega)
          rw [show (((a * 8 + b : Nat)) : Int) = (a : Int) * 8 + b by omega] at hH
          have HH : Hid (Calls Tryz.prog 46 #[bmV tx l (some ⟨g, 0, none⟩) n c, .int .i64 ((a : Int) * 8 + b)] wr fun e w' => e = .returned (.bool (bitB bs (a * 8 + b))) ∧ Below wr.heap.size wr w') := hH
          clear hH
          go_wp2_with fail
          refine HH.out.mono ?_
          rintro e w3 ⟨rfl, b3⟩
          have B3 := hBs.trans (b3.mono hBs.size)
          clear hld HH
          have hle := cntB_le bs (a * 8 + b)
          by_cases hbit : bitB bs (a * 8 + b) = true
          · rw [hbit]
            have HN : Hid (((cntB bs (a * 8 + b) : Nat) : Int) + 1 = (cntB bs (a * 8 + (b + 1)) : Nat)) := by show _ = _; rw [← Nat.add_assoc]; simp [cntB, hbit]
            obtain ⟨C, hC⟩ : ∃ C, cntB bs (a * 8 + b) = C := ⟨_, rfl⟩
            rw [hC] at HN hle ⊢
            have hCi : (C : Int) ≤ 100000 := by omega
            clear hC
            go_wp2_with fail
            go_roundw
            case rel => exact ⟨b + 1, by omega, by rw [← HN.out], by go_num, B3⟩
            case measure => simp [intOf]; omega
          · have hbf : bitB bs (a * 8 + b) = false := by simpa using hbit
            have HN : Hid (cntB bs (a * 8 + b) = cntB bs (a * 8 + (b + 1))) := by show _ = _; rw [← Nat.add_assoc]; simp [cntB, hbf]
            rw [hbf]
            go_wp2_with fail
            go_roundw
            case rel => exact ⟨b + 1, by omega, by rw [← HN.out], by go_num, B3⟩
            case measure => simp [intOf]; omega
        · obtain rfl : b = m := by omega
          have HN : Hid (a * 8 + b = min ((a + 1) * 8) D) := by have := HM.out; show _ = _; omega
          clear hld
          go_wp2_with fail
          go_roundw
          case rel => exact ⟨a + 1, by omega, by rw [HN.out], by go_num, hBs⟩
          case measure => simp [intOf]; omega
    · obtain rfl : a = K := by omega
      have HL : Hid (cntB bs (min (a * 8) D) = cntB bs D) := by have := HK.out; show _ = _; rw [show min (a * 8) D = D by omega]
      clear hld
      go_wp2_with fail
      go_ret
      exact ⟨by rw [← HL.out]; rfl, hbW.trans (hBr.mono hbW.size)⟩
end Go.Proofs.YtfmcbjlagdanjaaGreatDoor

/- A transaction that has ended: close, Drop, Commit of nothing, Read by their contracts. -/
namespace Go.Proofs.YtfmcbjlagdanjaaGreatDoor
open Go.RowKit Go.Maps
set_option maxRecDepth 100000

/-- A transaction that is not open any more. -/
def Td (w : World) (tb : Nat) : Prop := w.heap[tb]? = some (.cells #[.pointer none, .map none, .slice none 0 0, .int .i64 0] 108)
set_option maxHeartbeats 1000000 in
theorem close_ok {w : World} {tb jb wm d st sz : Nat} {sv : Value} {last seq place free : Int} {bm : Nat} (hT : Tb w tb jb wm sv last) (hJ : Jb w jb d st sz seq place free bm (some tb)) (hne : tb ≠ jb) :
    Calls Tryz.prog 51 #[.pointer (some ⟨tb, 0, none⟩)] w fun e w' => e = .returned (.tuple #[]) ∧ Td w' tb ∧ Jb w' jb d st sz seq place free bm none ∧ Turns (fun i => i = tb ∨ i = jb) w w' := by
  have t0 := hT.cells.c0
  have c7 := hJ.cells.c7
  have f7 := hJ.cells.fz 7
  have JV := hJ.opened none
  have TV := Turns.cell w jb 7 (.pointer ((none : Option Nat).map fun t => (⟨t, 0, none⟩ : Addr)))
  obtain ⟨V, hV⟩ : ∃ V, w.setCell ⟨jb, 7, none⟩ (.pointer none) = V := ⟨_, rfl⟩
  have JV : Jb V jb d st sz seq place free bm none := by rw [← hV]; exact JV
  have TV : Turns (fun i => i = jb) w V := by rw [← hV]; exact TV
  have T2 : Tb V tb jb wm sv last := (TV.block tb (heap_lt hT) hne).trans hT
  obtain ⟨v0, v1, v2, v3, vz⟩ := T2.cells
  have z0 := vz 0
  have z1 := vz 1
  have z2 := vz 2
  have z3 := vz 3
  go_enter Tryz.func51, Tryz.ntmps51
  go_wp2_with fail
  first | go_end0 | refine bodyPost_ret (results_none rfl _ _ _) rfl ?_
  have e1 := heap_setCell_same _ tb 0 _ _ (.pointer none) T2
  have e2 := heap_setCell_same _ tb 1 _ _ (.map none) e1
  have e3 := heap_setCell_same _ tb 2 _ _ (.slice none 0 0) e2
  have e4 := heap_setCell_same _ tb 3 _ _ (.int .i64 0) e3
  have TT := (((Turns.cell V tb 0 (.pointer none)).trans (Turns.cell _ tb 1 (.map none)) (fun _ _ h => h)).trans (Turns.cell _ tb 2 (.slice none 0 0)) (fun _ _ h => h)).trans (Turns.cell _ tb 3 (.int .i64 0)) (fun _ _ h => h)
  exact ⟨rfl, e4, (TT.block jb (heap_lt JV) (fun e => hne e.symm)).trans JV, (TV.mono (fun _ _ => Or.inr)).trans TT (fun _ _ => Or.inl)⟩
theorem drop_ok {w : World} {tb jb wm d st sz : Nat} {sv : Value} {last seq place free : Int} {bm : Nat} (hT : Tb w tb jb wm sv last) (hJ : Jb w jb d st sz seq place free bm (some tb)) (hne : tb ≠ jb) :
    Calls Tryz.prog 20 #[.pointer (some ⟨tb, 0, none⟩)] w fun e w' => e = .returned (.tuple #[]) ∧ Td w' tb ∧ Jb w' jb d st sz seq place free bm none ∧ Turns (fun i => i = tb ∨ i = jb) w w' := by
  have t0 := hT.cells.c0
  go_enter Tryz.func20, Tryz.ntmps20
  go_wp2_with fail
  refine (close_ok hT hJ hne).mono ?_
  rintro e w1 ⟨rfl, h1, h2, h3⟩
  go_wp2
  first | go_end0 | refine bodyPost_ret (results_none rfl _ _ _) rfl ?_
  exact ⟨rfl, h1, h2, h3⟩
set_option maxHeartbeats 1000000 in
theorem commit_none {w : World} {d : Nat} {S : DevS} {k N n : Nat} {G : Nat → Prop} (hD : Dev w d 0 S k N G) {tb jb wm st sz : Nat} {sv : Value} {last seq place free : Int} {bm : Nat} (hT : Tb w tb jb wm sv last) (hJ : Jb w jb d st sz seq place free bm (some tb)) (hM : Mp w wm n []) (hne : tb ≠ jb) (htm : tb ≠ wm) (hjm : jb ≠ wm) (hjG : ¬ G jb) (htG : ¬ G tb) (hmG : ¬ G wm) (ho : S.off = false) :
    Calls Tryz.prog 19 #[.pointer (some ⟨tb, 0, none⟩)] w fun e w' => e = .returned (.int .i64 0) ∧ Td w' tb ∧ Jb w' jb d st sz seq place free bm none ∧ Dev w' d 0 S k N G ∧ Turns (fun i => G i ∨ i = tb ∨ i = jb) w w' := by
  have t0 := hT.cells.c0
  have t1 := hT.cells.c1
  go_enter Tryz.func19, Tryz.ntmps19
  go_wp2_with fail
  go_quiet (fail)
  go_wp2_with fail
  refine (close_ok (w := w.drewN _) hT hJ hne).mono ?_
  rintro e w1 ⟨rfl, T1, J1, u1⟩
  have u1 : Turns (fun i => i = tb ∨ i = jb) w w1 := (Turns.drewN _ w _).trans u1 (fun _ _ h => h)
  have D1 := hD.turns u1 (fun i hi h => h.elim (fun e => htG (e ▸ hi)) (fun e => hjG (e ▸ hi)))
  have M1 := hM.turns u1 (fun h => h.elim (fun e => htm e.symm) (fun e => hjm e.symm))
  clear t0 t1
  go_wp2_with fail
  refine (power_ok D1 J1 ho).mono ?_
  rintro e w2 ⟨rfl, q2⟩
  have M2 := M1.turns q2.2 hmG
  have T2 : Td w2 tb := (q2.2.block tb (heap_lt T1) htG).trans T1
  have J2 : Jb w2 jb d st sz seq place free bm none := (q2.2.block jb (heap_lt J1) hjG).trans J1
  have hown := M2.own
  have hsz : (Maps.size (mD []) : Int) = 0 := by simp [mD, Maps.size_eq]
  have hln := fun ty => hown.len Tryz.underlying105 ty
  simp only [hsz] at hln
  have tt : Turns (fun i => G i ∨ i = tb ∨ i = jb) w w2 := (u1.mono (fun _ _ h => Or.inr h)).trans q2.2 (fun _ _ h => Or.inl h)
  have D2 := q2.1
  clear D1 M1 T1 J1 u1 q2 hown hsz
  go_wp2_with fail
  go_ret
  exact ⟨rfl, T2, J2, D2, tt⟩
theorem txRead_end {w : World} {tb : Nat} (hT : Td w tb) (b : Int) :
    Calls Tryz.prog 36 #[.pointer (some ⟨tb, 0, none⟩), .int .i64 b] w fun e w' => e = .returned (.tuple #[.slice none 0 0, .int .i64 76]) ∧ w' = w := by
  have t0 : w.cell? ⟨tb, 0, none⟩ = some (.pointer none) := by unfold Td at hT; simp [World.cell?, hT]
  go_enter Tryz.func36, Tryz.ntmps36
  go_wp2
  refine bodyPost_ret (results_tmp2 rfl _ _ _) rfl ?_
  exact ⟨rfl, rfl⟩
end Go.Proofs.YtfmcbjlagdanjaaGreatDoor
