/- pass by its contract: behind a transaction of the log. -/
import Derived.Test.YtlcjkbhcbiggcaaGreatDoorPk10
namespace Go.Proofs.YtlcjkbhcbiggcaaGreatDoor
open Go.RowKit Go.Maps
set_option maxRecDepth 100000

set_option maxHeartbeats 2000000 in
theorem pass_ok {w : World} {jb d st sz nd ns bs : Nat} {seq free : Int} {place bm : Nat} {op : Option Nat} {a m : List (Nat × Nat)} (hJ : Jb w jb d st sz seq place free bm op) (hA : Mp w bm nd a) (hM : Mp w bs ns m) (hne : bm ≠ bs) (ha : Low a) (hm : Low m) (hroom : nd + m.length ≤ 1000000) (hj1 : jb ≠ bm) (hj2 : jb ≠ bs) (h1 : 2 ≤ sz ∧ sz ≤ 4096) (hp : place ≤ 4096) (hs : 0 ≤ seq ∧ seq ≤ 4611686018427387905) (hf : -10000 ≤ free ∧ free ≤ 10000) (hl : m.length ≤ 1000) :
    Calls Tryz.prog 187 #[.pointer (some ⟨jb, 0, none⟩), .map (some bs)] w fun e w' => e = .returned (.tuple #[]) ∧ Jb w' jb d st sz (seq + 1) ((place + m.length + 2) % (sz - 1) : Nat) (free - (m.length + 2)) bm op ∧ Mp w' bm (nd + m.length) (mmerge a m) ∧ Mp w' bs ns m ∧ Turns (fun i => i = bm ∨ i = jb) w w' := by
  obtain ⟨c0, c1, c2, c3, c4, c5, c6, c7, c8, fz⟩ := hJ.cells
  go_enter Tryz.func187, Tryz.ntmps187
  go_wp2_with fail
  refine (copy_any hA hM hne ha hm hroom).mono ?_
  rintro e w1 ⟨rfl, A1, M1, t1⟩
  have J1 : Jb w1 jb d st sz seq place free bm op := (t1.block jb (heap_lt hJ) hj1).trans hJ
  clear c0 c1 c2 c3 c4 c5 c6 c7 c8 fz
  obtain ⟨c0, c1, c2, c3, c4, c5, c6, c7, c8, fz⟩ := J1.cells
  have f3 := fz 3
  have hsq : IntKind.i64.wrap (seq + 1) = seq + 1 := Go.IntWalk.i64_in _ ⟨by omega, by omega⟩
  obtain ⟨V, hV⟩ : ∃ V, w1.setCell ⟨jb, 3, none⟩ (.int .i64 (seq + 1)) = V := ⟨_, rfl⟩
  have JV : Jb V jb d st sz (seq + 1) place free bm op := by rw [← hV]; exact heap_setCell_same _ _ _ _ _ _ J1
  have TV : Turns (fun i => i = jb) w1 V := by rw [← hV]; exact Turns.cell w1 jb 3 _
  have MV := M1.turns TV (fun e => hj2 e.symm)
  have AV := A1.turns TV (fun e => hj1 e.symm)
  have hsz : (Maps.size (mD m) : Int) = (m.length : Int) := by simp [mD, Maps.size_eq]
  have hln : ∀ (ty : TypeId), (Builtin.len_ #[96] ty #[.map (some bs)]).run Tryz.prog V.drew = .ok (.int .i64 m.length) V.drew := fun ty => by
    have := (map_turns MV.own (Turns.drewN (fun _ => False) V 1) id).len Tryz.underlying96 ty
    rwa [hsz] at this
  obtain ⟨v0, v1, v2, v3, v4, v5, v6, v7, v8, vz⟩ := JV.cells
  go_wp2_with fail
  try rw [hV]
  obtain ⟨np, hnp⟩ : ∃ np, (place + m.length + 2) % (sz - 1) = np := ⟨_, rfl⟩
  have hmodI : ((place : Int) + m.length + 2).tmod ((sz : Int) - 1) = (np : Int) := by
    rw [Int.tmod_eq_emod_of_nonneg (by omega)]
    have e1 : ((sz : Int) - 1) = ((sz - 1 : Nat) : Int) := by omega
    have e2 : (place : Int) + m.length + 2 = ((place + m.length + 2 : Nat) : Int) := by omega
    rw [e1, e2, ← hnp]; rfl
  have HN : Hid ((place + m.length + 2) % (sz - 1) = np) := hnp
  clear hnp
  have hw1 : IntKind.i64.wrap ((place : Int) + m.length) = place + m.length := Go.IntWalk.i64_in _ ⟨by omega, by omega⟩
  have hw2 : IntKind.i64.wrap ((place : Int) + m.length + 2) = ((place + m.length + 2 : Nat) : Int) := by rw [Go.IntWalk.i64_in _ ⟨by omega, by omega⟩]; omega
  have hsz0 : ((sz : Int) - 1) ≠ 0 := by omega
  have hf4 := vz 4
  go_region_law
    (first
      | (go_simp; go_at_call 69; refine (places_any d st sz V.drew (by omega)).mono ?_; rintro e w3 ⟨rfl, b3⟩; have b3 := Below.fromDrew b3; have y0 := cell_later b3 v0; have y1 := cell_later b3 v1; have y2 := cell_later b3 v2; have y4 := cell_later b3 v4; have hz4 : w3.frozen? ⟨jb, 4, none⟩ = false := by { have := (b3.block jb (heap_lt JV)).trans JV; simp [World.frozen?, this] }; have hln3 : ∀ (ty : TypeId), (Builtin.len_ #[96] ty #[.map (some bs)]).run Tryz.prog w3 = .ok (.int .i64 m.length) w3 := (fun ty => by { have := (map_turns MV.own (Below.turns b3 (fun _ => False)) id).len Tryz.underlying96 ty; rwa [hsz] at this }); dsimp only))
  all_goals
    have J3 : Jb w3 jb d st sz (seq + 1) place free bm op := (b3.block jb (heap_lt JV)).trans JV
    have M3 := MV.turns (Below.turns b3 (fun _ => False)) id
    have A3 := AV.turns (Below.turns b3 (fun _ => False)) id
    obtain ⟨X, hX⟩ : ∃ X, w3.setCell ⟨jb, 4, none⟩ (.int .i64 (np : Int)) = X := ⟨_, rfl⟩
    have JX : Jb X jb d st sz (seq + 1) np free bm op := by rw [← hX]; exact heap_setCell_same _ _ _ _ _ _ J3
    have TX : Turns (fun i => i = jb) w3 X := by rw [← hX]; exact Turns.cell w3 jb 4 _
    have MX := M3.turns TX (fun e => hj2 e.symm)
    have AX := A3.turns TX (fun e => hj1 e.symm)
    have tX : Turns (fun i => i = bm ∨ i = jb) w X := ((t1.mono (fun _ _ e => Or.inl e)).trans ((TV.trans (Below.turns b3 (fun i => i = jb)) (fun _ _ h => h)).trans TX (fun _ _ h => h)) (fun _ _ e => Or.inr e))
    have hlnX : ∀ (ty : TypeId), (Builtin.len_ #[96] ty #[.map (some bs)]).run Tryz.prog X = .ok (.int .i64 m.length) X := fun ty => by
      have := MX.own.len Tryz.underlying96 ty
      rwa [hsz] at this
    have hlnXd : ∀ (ty : TypeId), (Builtin.len_ #[96] ty #[.map (some bs)]).run Tryz.prog X.drew = .ok (.int .i64 m.length) X.drew := fun ty => by
      have := (map_turns MX.own (Turns.drewN (fun _ => False) X 1) id).len Tryz.underlying96 ty
      rwa [hsz] at this
    rw [hX]
    clear c0 c1 c2 c3 c4 c5 c6 c7 c8 fz f3 v0 v1 v2 v3 v4 v5 v6 v7 v8 vz hf4 y0 y1 y2 y4 hz4 hln hln3 hV hX hw1 hw2 hsz0 hmodI J3 M3 A3
    obtain ⟨x0, x1, x2, x3, x4, x5, x6, x7, x8, xz⟩ := JX.cells
    have xf := xz 5
    have hw5 : IntKind.i64.wrap ((m.length : Int) + 2) = m.length + 2 := Go.IntWalk.i64_in _ ⟨by omega, by omega⟩
    have hw6 : IntKind.i64.wrap (free - ((m.length : Int) + 2)) = free - (m.length + 2) := Go.IntWalk.i64_in _ ⟨by omega, by omega⟩
    go_wp2_with fail
    go_region_law (fail)
  all_goals
    go_wp2_with fail
    first | go_end0 | refine bodyPost_ret (results_none rfl _ _ _) rfl ?_
    have tD : Turns (fun _ => False) X X.drew := Turns.drewN _ X 1
    have tF := Turns.cell X.drew jb 5 (.int .i64 (free - ((m.length : Int) + 2)))
    have JF := heap_setCell_same X.drew jb 5 _ _ (.int .i64 (free - ((m.length : Int) + 2))) JX
    refine ⟨rfl, ?_, (AX.turns tD id).turns tF (fun e => hj1 e.symm), (MX.turns tD id).turns tF (fun e => hj2 e.symm), (tX.trans tD (fun _ _ h => h.elim)).trans tF (fun _ _ e => Or.inr e)⟩
    rw [HN.out]
    exact JF
end Go.Proofs.YtlcjkbhcbiggcaaGreatDoor
