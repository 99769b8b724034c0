/- Those of the fields that a message has. -/
import Derived.Test.YtdkcplndplhblaaGreatDoorPk05
import Derived.Deep.RegionHeld3
namespace Go.Proofs.YtdkcplndplhblaaGreatDoor
open Go.RowKit
set_option maxRecDepth 100000

theorem Tryz.infoField : (Tryz.prog.info? 132).map (fun i => (i.zero, i.size, i.bytes)) = some (some (.agg #[.int .i64 0, .nilIface]), 2, 24) := by kernel_rfl

/-- Those of the fields that have one of the numbers. -/
def pick (l : List Int) (gs : List (Int × Val)) : List (Int × Val) := gs.filter fun g => decide (g.1 ∈ l)

theorem pick_in {w : World} {ls : List (Int × Value)} {l : List Int} {gs : List (Int × Val)} {k : Nat} {no : Int} {x : Val} {v : Value} (h : FReps w ls (pick l (gs.take k))) (hs : gs.take (k + 1) = gs.take k ++ [(no, x)]) (hin : no ∈ l) (hv : VRep w v x) : FReps w (ls ++ [(no, v)]) (pick l (gs.take (k + 1))) := by
  have e : List.filter (fun g : Int × Val => decide (g.1 ∈ l)) [(no, x)] = [(no, x)] := by simp [hin]
  rw [hs, pick, List.filter_append, e]
  exact FReps.app h rfl hv
theorem pick_out {w : World} {ls : List (Int × Value)} {l : List Int} {gs : List (Int × Val)} {k : Nat} {no : Int} {x : Val} (h : FReps w ls (pick l (gs.take k))) (hs : gs.take (k + 1) = gs.take k ++ [(no, x)]) (hin : no ∉ l) : FReps w ls (pick l (gs.take (k + 1))) := by
  have e : List.filter (fun g : Int × Val => decide (g.1 ∈ l)) [(no, x)] = [] := by simp [hin]
  rw [hs, pick, List.filter_append, e, List.append_nil]
  exact h

set_option maxHeartbeats 1000000 in
theorem those_pos (b o c n : Nat) (gs : List (Int × Val)) (ho : Option Addr) (hn hc : Nat) (l : List Int) (w : World) (hF : FLies w (some ⟨b, o, none⟩) n c gs) (hbd : n ≤ 1000) (hL : ILies w ho hn hc l) (hbd2 : hn ≤ 1000) :
    Calls Tryz.prog 96 #[.slice (some ⟨b, o, none⟩) n c, .slice ho hn hc] w fun e w' => ∃ fo m k, e = .returned (.slice fo m k) ∧ FLies w' fo m k (pick l gs) ∧ Below w.heap.size w w' := by
  have hni : (n : Int) ≤ 1000 := by omega
  have hgl := hF.hlen
  obtain ⟨i0, hi, hz0, hz1, hz2⟩ := info_parts Tryz.infoField
  go_enter Tryz.func96, Tryz.ntmps96
  go_wp2
  go_loopw [5, 10] (fun s i wr => ∃ (k : Nat) (ls : List (Int × Value)) (av : Option Addr) (c : Nat), k ≤ n ∧ i = .int .i64 k ∧ s = .slice av ls.length c ∧ wr.ownsRow w.heap.size 132 2 (.slice av ls.length c) ls.length (fCells ls) ∧ ls.length ≤ k ∧ Hid (FReps w ls (pick l (gs.take k))) ∧ Below w.heap.size w wr) (fun _ i _ => n - (intOf i).toNat)
  case atStart => exact ⟨0, [], none, 0, Nat.zero_le _, rfl, rfl, World.ownsRow_nil _ _ _ _, Nat.zero_le _, (by simp [pick, FReps] : FReps w [] (pick l (gs.take 0))), Below.refl _ _⟩
  case round =>
    obtain ⟨k, ls, av, c', hk, rfl, rfl, hown, hls, HR, hb⟩ := hrel
    have hbs := hb.size
    by_cases hlt : k < n
    · have hki : decide ((k : Int) < (n : Int)) = true := by simpa using hlt
      obtain ⟨b', o', v, hbo, _, q0, q1, hv⟩ := hF.at (show k < gs.length by omega)
      cases hbo
      have q0 := cell_later hb q0 (Nat.le_refl _)
      have q1 := cell_later hb q1 (Nat.le_refl _)
      have hst : gs.take (k + 1) = gs.take k ++ [gs[k]'(by omega)] := List.take_succ_eq_append_getElem (by omega)
      have HL := (hL.below hb (Nat.le_refl _)).boxed (.cells #[.int .i64 (gs[k]'(by omega)).1, v] 132)
      have hbn : Below w.heap.size w (wr.alloc (.cells #[.int .i64 (gs[k]'(by omega)).1, v] 132)) := hb.alloc hb.size _
      obtain ⟨t, u, rfl⟩ := hv.iface
      have HV : Hid (VRep w (.iface t u) (gs[k]'(by omega)).2) := hv
      have HS : Hid (gs.take (k + 1) = gs.take k ++ [gs[k]'(by omega)]) := hst
      clear hv hst hF hL
      generalize (gs[k]'(by omega)) = g at *
      obtain ⟨no, x⟩ := g
      simp only at q0 HL hbn HV
      by_cases hin : no ∈ l
      · have hdec : decide (no ∈ l) = true := by simpa using hin
        have Hin : Hid (no ∈ l) := hin
        clear hin
        go_wp2_with (first
          | (go_at_call 114; refine (contains_any ho hn hc l no _ hbd2 HL).mono ?_; rintro e w1 ⟨rfl, hw1⟩; subst w1; rw [hdec])
          | (at_builtin; refine wpList_append_own _ rfl (.tmp 18) (.tmp 20) 80 rfl w.heap.size 132 i0 (.agg #[.int .i64 0, .nilIface]) 2 24 Tryz.underlying80 hi hz0 hz1 hz2 rfl (by decide) _ _ _ rfl ((hown.alloc _).alloc _) ⟨wr.heap.size + 1, 0, none⟩ 1 1 [.int .i64 no, .iface t u] rfl rfl (cells_new _ _ 132 _ (by simp)) (by intro u hu; simp at hu; rcases hu with rfl | rfl <;> rfl) (by unfold maxLen; omega) (by omega) (by simp; omega) ?_; intro v' w1 hown1 hgrow1 hnil1))
        have hb1 : Below w.heap.size w w1 := ((hb.alloc hb.size _).alloc (by simp; omega) _).grown hgrow1 (by simp; omega) (fun k hk => (hown.lt k hk).1)
        have ho1 : w1.ownsRow w.heap.size 132 2 v' (ls ++ [(no, Value.iface t u)]).length (fCells (ls ++ [(no, Value.iface t u)])) := by
          rw [fCells_app]; simpa [fCells] using hown1
        obtain ⟨a2, c2, rfl⟩ : ∃ a2 c2, v' = .slice a2 (ls ++ [(no, Value.iface t u)]).length c2 := by
          rcases ho1.2 with ⟨hv, h0⟩ | ⟨g', cap', cur, hv, _⟩
          · simp at h0
          · exact ⟨_, _, hv⟩
        go_roundw
        case rel => exact ⟨k + 1, ls ++ [(no, Value.iface t u)], a2, c2, by omega, by go_num, rfl, ho1, by simp; omega, pick_in HR.out HS.out Hin.out HV.out, hb1⟩
        case measure => simp [intOf]; omega
      · have hdec : decide (no ∈ l) = false := by simpa using hin
        have Hin : Hid (no ∉ l) := hin
        clear hin
        go_wp2_with (go_at_call 114; refine (contains_any ho hn hc l no _ hbd2 HL).mono ?_; rintro e w1 ⟨rfl, hw1⟩; subst w1; rw [hdec])
        go_roundw
        case rel => exact ⟨k + 1, ls, av, c', by omega, by go_num, rfl, hown.alloc _, by omega, pick_out HR.out HS.out Hin.out, hbn⟩
        case measure => simp [intOf]; omega
    · clear hF hL
      go_wp2
      go_ret
      have h2 := HR.out
      rw [List.take_of_length_le (by omega)] at h2
      exact ⟨av, _, c', rfl, ⟨h2.length.symm, ls, CLies.owned hown, FReps.below hb (Nat.le_refl _) h2⟩, hb⟩
end Go.Proofs.YtdkcplndplhblaaGreatDoor

/- Each kind of field is put behind bytes. -/
namespace Go.Proofs.YtdkcplndplhblaaGreatDoor
open Go.RowKit
set_option maxRecDepth 100000

def txB (s : ByteArray) : List Int := be s.size 4 ++ nums s ++ List.replicate (padN s.size) 0
def dtB (d : List Int) : List Int := be d.length 4 ++ d ++ List.replicate (padN d.length) 0
def entB (e : Ent) : List Int := txB e.name ++ be (IntKind.u64.wrap e.id) 8 ++ be (IntKind.u64.wrap e.kind) 4
/-- The bytes of what stands in a field. -/
def putV : Val → List Int
  | .small x => be (IntKind.u64.wrap x) 4
  | .great x => be (IntKind.u64.wrap x) 8
  | .flag b => be (IntKind.u64.wrap (if b then 1 else 0)) 4
  | .path s => txB s
  | .name s => txB s
  | .content d => dtB d
  | .attr i k z c => be (IntKind.u64.wrap i) 8 ++ be (IntKind.u64.wrap k) 4 ++ be (IntKind.u64.wrap z) 4 ++ be (IntKind.u64.wrap c) 8
  | .entries l => be (IntKind.u64.wrap l.length) 4 ++ l.flatMap entB
theorem txB_length (s : ByteArray) : (txB s).length = 4 + s.size + padN s.size := by simp [txB, be_length, nums_length]; omega
theorem dtB_length (d : List Int) : (dtB d).length = 4 + d.length + padN d.length := by simp [dtB, be_length]; omega

/-- What a put leaves: the bytes in a new list; nothing old has turned. -/
def Laid1 (w : World) (e : Ending) (w' : World) (bs : List Int) : Prop :=
  ∃ g n cap, e = .returned (.slice (some ⟨g, 0, none⟩) n cap) ∧ Lies w' (some ⟨g, 0, none⟩) n cap bs ∧ w.heap.size ≤ g ∧ Below w.heap.size w w'
theorem Made.laid {w : World} {e : Ending} {w' : World} {n : Nat} {bs : List Int} (h : Made w e w' n bs) : Laid1 w e w' bs := by
  obtain ⟨g, cap, rfl, ho, hb⟩ := h
  exact ⟨g, n, cap, rfl, Lies.own ho, (ho.lt g rfl).1, hb⟩
theorem Laid1.as {w : World} {e : Ending} {w' : World} {bs cs : List Int} (h : Laid1 w e w' bs) (hc : bs = cs) : Laid1 w e w' cs := hc ▸ h

set_option maxHeartbeats 400000 in
theorem put32_l (ao : Option Addr) (len cap : Nat) (X : Int) (bs : List Int) (w : World) (hbd : len ≤ 140000000000000) (hL : Lies w ao len cap bs) :
    Calls Tryz.prog 192 #[.slice ao len cap, .int .i64 X] w fun e w' => Laid1 w e w' (bs ++ be (IntKind.u64.wrap X) 4) :=
  (put32_any ao len cap X bs w (by omega) hL).mono fun _ _ h => h.laid
theorem put64_l (ao : Option Addr) (len cap : Nat) (X : Int) (bs : List Int) (w : World) (hbd : len ≤ 140000000000000) (hL : Lies w ao len cap bs) :
    Calls Tryz.prog 199 #[.slice ao len cap, .int .i64 X] w fun e w' => Laid1 w e w' (bs ++ be (IntKind.u64.wrap X) 8) :=
  (put64_any ao len cap X bs w (by omega) hL).mono fun _ _ h => h.laid
theorem putText_l (ao : Option Addr) (len cap : Nat) (bs : List Int) (s : ByteArray) (w : World) (hbd : len ≤ 140000000000000) (hs : s.size ≤ 100000000) (hL : Lies w ao len cap bs) :
    Calls Tryz.prog 204 #[.slice ao len cap, .string s] w fun e w' => Laid1 w e w' (bs ++ txB s) :=
  (putText_any ao len cap bs s w (by omega) hL).mono fun _ _ h => h.laid.as (by simp [txB])
theorem putBytes_l (ao : Option Addr) (len cap : Nat) (bs : List Int) (bo : Option Addr) (dl dc : Nat) (ds : List Int) (w : World) (hbd : len ≤ 140000000000000) (hd : dl ≤ 100000000) (hL : Lies w ao len cap bs) (hD : Lies w bo dl dc ds) :
    Calls Tryz.prog 206 #[.slice ao len cap, .slice bo dl dc] w fun e w' => Laid1 w e w' (bs ++ dtB ds) :=
  (putBytes_any ao len cap bs bo dl dc ds w (by omega) hL hD).mono fun _ _ h => h.laid.as (by simp [dtB, hD.hlen])

set_option maxHeartbeats 400000 in
theorem small_put (x : Int) (ao : Option Addr) (len cap : Nat) (bs : List Int) (w : World) (hbd : len ≤ 100000000) (hL : Lies w ao len cap bs) :
    Calls Tryz.prog 190 #[.int .i64 x, .slice ao len cap] w fun e w' => Laid1 w e w' (bs ++ putV (.small x)) := by
  unfold putV
  go_enter Tryz.func190, Tryz.ntmps190
  go_wp2_with fail
  refine (put32_l ao len cap x bs _ (by omega) hL).mono ?_
  rintro e w1 ⟨g, m, k, rfl, hL1, hg, hb⟩
  go_wp2
  go_ret
  exact ⟨g, m, k, rfl, hL1, hg, hb⟩

set_option maxHeartbeats 400000 in
theorem great_put (x : Int) (ao : Option Addr) (len cap : Nat) (bs : List Int) (w : World) (hbd : len ≤ 100000000) (hL : Lies w ao len cap bs) :
    Calls Tryz.prog 197 #[.int .i64 x, .slice ao len cap] w fun e w' => Laid1 w e w' (bs ++ putV (.great x)) := by
  unfold putV
  go_enter Tryz.func197, Tryz.ntmps197
  go_wp2_with fail
  refine (put64_l ao len cap x bs _ (by omega) hL).mono ?_
  rintro e w1 ⟨g, m, k, rfl, hL1, hg, hb⟩
  go_wp2
  go_ret
  exact ⟨g, m, k, rfl, hL1, hg, hb⟩

set_option maxHeartbeats 400000 in
theorem path_put (s : ByteArray) (ao : Option Addr) (len cap : Nat) (bs : List Int) (w : World) (hbd : len ≤ 100000000) (hs : s.size ≤ 100000000) (hL : Lies w ao len cap bs) :
    Calls Tryz.prog 202 #[.string s, .slice ao len cap] w fun e w' => Laid1 w e w' (bs ++ putV (.path s)) := by
  unfold putV
  go_enter Tryz.func202, Tryz.ntmps202
  go_wp2_with fail
  refine (putText_l ao len cap bs s _ (by omega) hs hL).mono ?_
  rintro e w1 ⟨g, m, k, rfl, hL1, hg, hb⟩
  go_wp2
  go_ret
  exact ⟨g, m, k, rfl, hL1, hg, hb⟩

set_option maxHeartbeats 400000 in
theorem name_put (s : ByteArray) (ao : Option Addr) (len cap : Nat) (bs : List Int) (w : World) (hbd : len ≤ 100000000) (hs : s.size ≤ 100000000) (hL : Lies w ao len cap bs) :
    Calls Tryz.prog 210 #[.string s, .slice ao len cap] w fun e w' => Laid1 w e w' (bs ++ putV (.name s)) := by
  unfold putV
  go_enter Tryz.func210, Tryz.ntmps210
  go_wp2_with fail
  refine (putText_l ao len cap bs s _ (by omega) hs hL).mono ?_
  rintro e w1 ⟨g, m, k, rfl, hL1, hg, hb⟩
  go_wp2
  go_ret
  exact ⟨g, m, k, rfl, hL1, hg, hb⟩

set_option maxHeartbeats 400000 in
theorem content_put (bo : Option Addr) (dl dc : Nat) (ds : List Int) (ao : Option Addr) (len cap : Nat) (bs : List Int) (w : World) (hbd : len ≤ 100000000) (hd : dl ≤ 100000000) (hD : Lies w bo dl dc ds) (hL : Lies w ao len cap bs) :
    Calls Tryz.prog 212 #[.slice bo dl dc, .slice ao len cap] w fun e w' => Laid1 w e w' (bs ++ putV (.content ds)) := by
  unfold putV
  go_enter Tryz.func212, Tryz.ntmps212
  go_wp2_with fail
  refine (putBytes_l ao len cap bs bo dl dc ds _ (by omega) hd hL hD).mono ?_
  rintro e w1 ⟨g, m, k, rfl, hL1, hg, hb⟩
  go_wp2
  go_ret
  exact ⟨g, m, k, rfl, hL1, hg, hb⟩

set_option maxHeartbeats 400000 in
theorem flag_put (b : Bool) (ao : Option Addr) (len cap : Nat) (bs : List Int) (w : World) (hbd : len ≤ 100000000) (hL : Lies w ao len cap bs) :
    Calls Tryz.prog 220 #[.bool b, .slice ao len cap] w fun e w' => Laid1 w e w' (bs ++ putV (.flag b)) := by
  unfold putV
  cases b
  · go_enter Tryz.func220, Tryz.ntmps220
    go_wp2_with fail
    refine (put32_l ao len cap 0 bs _ (by omega) hL).mono ?_
    rintro e w1 ⟨g, m, k, rfl, hL1, hg, hb⟩
    go_wp2
    go_ret
    exact ⟨g, m, k, rfl, hL1, hg, hb⟩
  · go_enter Tryz.func220, Tryz.ntmps220
    go_wp2_with fail
    refine (put32_l ao len cap 1 bs _ (by omega) hL).mono ?_
    rintro e w1 ⟨g, m, k, rfl, hL1, hg, hb⟩
    go_wp2
    go_ret
    exact ⟨g, m, k, rfl, hL1, hg, hb⟩

set_option maxHeartbeats 1000000 in
theorem attr_put (i kd z c : Int) (ao : Option Addr) (len cap : Nat) (bs : List Int) (w : World) (hbd : len ≤ 100000000) (hL : Lies w ao len cap bs) :
    Calls Tryz.prog 216 #[.agg #[.int .i64 i, .int .i64 kd, .int .i64 z, .int .i64 c], .slice ao len cap] w fun e w' => Laid1 w e w' (bs ++ putV (.attr i kd z c)) := by
  unfold putV
  go_enter Tryz.func216, Tryz.ntmps216
  go_wp2_with fail
  refine (put64_l ao len cap i bs _ (by omega) (hL.boxed _)).mono ?_
  rintro e w1 ⟨g1, m1, k1, rfl, hL1, hg1, hb1⟩
  have hq : Below w.heap.size w w1 := (newBox w _).trans (hb1.mono (by simp))
  have c1 := cell_later hb1 (show (w.alloc (.cells #[.int .i64 i, .int .i64 kd, .int .i64 z, .int .i64 c] 161)).cell? ⟨w.heap.size, 1, none⟩ = some (.int .i64 kd) by simp [go_sem]) (Nat.le_refl _)
  have c2 := cell_later hb1 (show (w.alloc (.cells #[.int .i64 i, .int .i64 kd, .int .i64 z, .int .i64 c] 161)).cell? ⟨w.heap.size, 2, none⟩ = some (.int .i64 z) by simp [go_sem]) (Nat.le_refl _)
  have c3 := cell_later hb1 (show (w.alloc (.cells #[.int .i64 i, .int .i64 kd, .int .i64 z, .int .i64 c] 161)).cell? ⟨w.heap.size, 3, none⟩ = some (.int .i64 c) by simp [go_sem]) (Nat.le_refl _)
  have n1 : m1 ≤ len + 8 := by have h1 := hL1.hlen; have h2 := hL.hlen; simp [be_length] at h1; omega
  clear hb1 hL
  go_wp2_with fail
  refine (put32_l _ m1 k1 kd _ _ (by omega) hL1).mono ?_
  rintro e w2 ⟨g2, m2, k2, rfl, hL2, hg2, hb2⟩
  have hq2 := hq.trans (hb2.mono hq.size)
  have c2 := cell_later hb2 c2 (Nat.le_refl _)
  have c3 := cell_later hb2 c3 (Nat.le_refl _)
  have n2 : m2 ≤ len + 12 := by have h1 := hL2.hlen; have h2 := hL1.hlen; simp [be_length] at h1 h2; omega
  clear hb2 hL1 c1
  go_wp2_with fail
  refine (put32_l _ m2 k2 z _ _ (by omega) hL2).mono ?_
  rintro e w3 ⟨g3, m3, k3, rfl, hL3, hg3, hb3⟩
  have hq3 := hq2.trans (hb3.mono hq2.size)
  have c3 := cell_later hb3 c3 (Nat.le_refl _)
  have n3 : m3 ≤ len + 16 := by have h1 := hL3.hlen; have h2 := hL2.hlen; simp [be_length] at h1 h2; omega
  clear hb3 hL2 c2
  go_wp2_with fail
  refine (put64_l _ m3 k3 c _ _ (by omega) hL3).mono ?_
  rintro e w4 ⟨g4, m4, k4, rfl, hL4, hg4, hb4⟩
  have hq4 := hq3.trans (hb4.mono hq3.size)
  go_wp2
  go_ret
  refine ⟨g4, m4, k4, rfl, ?_, Nat.le_trans hq3.size hg4, hq4⟩
  simpa using hL4

end Go.Proofs.YtdkcplndplhblaaGreatDoor

/- A list of entries is put behind bytes. -/
namespace Go.Proofs.YtdkcplndplhblaaGreatDoor
open Go.RowKit
set_option maxRecDepth 100000

theorem entCells_get : ∀ (l : List Ent) (t : Nat) (h : t < l.length), (entCells l)[t * 3]? = some (.string l[t].name) ∧ (entCells l)[t * 3 + 1]? = some (.int .i64 l[t].id) ∧ (entCells l)[t * 3 + 2]? = some (.int .i64 l[t].kind)
  | e :: l, 0, _ => ⟨rfl, rfl, rfl⟩
  | e :: l, t + 1, h => by
    have ih := entCells_get l t (by simpa using h)
    have q : entCells (e :: l) = .string e.name :: .int .i64 e.id :: .int .i64 e.kind :: entCells l := rfl
    rw [q, show (t + 1) * 3 = t * 3 + 1 + 1 + 1 by omega]
    simpa using ih
theorem ents_at {w : World} {ao : Option Addr} {n cap : Nat} {l : List Ent} (h : CLies w ao n cap 3 (entCells l)) {t : Nat} (ht : t < l.length) :
    ∃ b o, ao = some ⟨b, o, none⟩ ∧ b < w.heap.size ∧ w.cell? ⟨b, o + t * 3, none⟩ = some (.string l[t].name) ∧ w.cell? ⟨b, o + t * 3 + 1, none⟩ = some (.int .i64 l[t].id) ∧ w.cell? ⟨b, o + t * 3 + 2, none⟩ = some (.int .i64 l[t].kind) := by
  have hlen := entCells_length l
  have hl := h.hlen
  obtain ⟨b, o, rfl, hb, hc⟩ := h.at (by omega) (by omega)
  obtain ⟨q0, q1, q2⟩ := entCells_get l t ht
  rw [List.getElem?_eq_getElem (by omega)] at q0 q1 q2
  refine ⟨b, o, rfl, hb, ?_, ?_, ?_⟩
  · rw [hc (t * 3) (by omega)]; exact q0
  · rw [Nat.add_assoc, hc (t * 3 + 1) (by omega)]; exact q1
  · rw [Nat.add_assoc, hc (t * 3 + 2) (by omega)]; exact q2

set_option maxHeartbeats 1000000 in
theorem entries_put (l : List Ent) (lo : Option Addr) (n lc : Nat) (ao : Option Addr) (len cap : Nat) (bs : List Int) (w : World) (hbd : len ≤ 100000000) (hL : Lies w ao len cap bs)
    (hE : CLies w lo n lc 3 (entCells l)) (hl : l.length = n) (hn : n ≤ 1000) (hnm : ∀ e ∈ l, e.name.size ≤ 1000) :
    Calls Tryz.prog 218 #[.slice lo n lc, .slice ao len cap] w fun e w' => Laid1 w e w' (bs ++ putV (.entries l)) := by
  have hni : (n : Int) ≤ 1000 := by omega
  go_enter Tryz.func218, Tryz.ntmps218
  go_wp2_with fail
  refine (put32_l ao len cap n bs _ (by omega) hL).mono ?_
  rintro e w1 ⟨g1, m1, k1, rfl, hL1, hg1, hb1⟩
  have n1 : m1 ≤ len + 4 := by have h1 := hL1.hlen; have h2 := hL.hlen; simp [be_length] at h1; omega
  have HL1 : Lies w1 (some ⟨g1, 0, none⟩) m1 k1 (bs ++ be (IntKind.u64.wrap (l.length : Int)) 4 ++ (l.take 0).flatMap entB) := by rw [hl]; simpa using hL1
  clear hL1 hL
  go_wp2
  go_loopw [1, 13] (fun s i wr => ∃ k g m c : Nat, k ≤ n ∧ i = .int .i64 k ∧ s = .slice (some ⟨g, 0, none⟩) m c ∧ Lies wr (some ⟨g, 0, none⟩) m c (bs ++ be (IntKind.u64.wrap (l.length : Int)) 4 ++ (l.take k).flatMap entB) ∧ m ≤ len + 4 + k * 2000 ∧ w.heap.size ≤ g ∧ Below w.heap.size w wr) (fun _ i _ => n - (intOf i).toNat)
  case atStart => exact ⟨0, g1, m1, k1, Nat.zero_le _, rfl, rfl, HL1, by omega, hg1, hb1⟩
  case round =>
    obtain ⟨k, g, m, c, hk, rfl, rfl, hLk, hm, hg, hb⟩ := hrel
    have hbs := hb.size
    by_cases hlt : k < n
    · have hki : decide ((k : Int) < (n : Int)) = true := by simpa using hlt
      obtain ⟨b', o', rfl, _, q0, q1, q2⟩ := ents_at hE (show k < l.length by omega)
      have q0 := cell_later hb q0 (Nat.le_refl _)
      have q1 := cell_later hb q1 (Nat.le_refl _)
      have q2 := cell_later hb q2 (Nat.le_refl _)
      have hst : (l.take (k + 1)).flatMap entB = (l.take k).flatMap entB ++ entB (l[k]'(by omega)) := by
        rw [List.take_succ_eq_append_getElem (by omega), List.flatMap_append]; simp
      have hsz := hnm _ (List.getElem_mem (show k < l.length by omega))
      have HS : Hid ((l.take (k + 1)).flatMap entB = (l.take k).flatMap entB ++ entB (l[k]'(by omega))) := hst
      clear hst hE hnm HL1 hb1
      generalize (l[k]'(by omega)) = x at *
      obtain ⟨nm, id, kd⟩ := x
      simp only at q0 q1 q2 hsz
      generalize bs ++ be (IntKind.u64.wrap (l.length : Int)) 4 = pre at *
      generalize (l.take k).flatMap entB = mid at *
      go_wp2_with fail
      refine (putText_l _ m c _ nm _ (by omega) (by omega) (hLk.boxed _)).mono ?_
      rintro e w2 ⟨g2, m2, c2, rfl, hL2, hg2, hb2⟩
      have hq2 : Below w.heap.size w w2 := (hb.alloc hb.size _).trans (hb2.mono (by simp; omega))
      have d1 := cell_later hb2 (show (wr.alloc (.cells #[.string nm, .int .i64 id, .int .i64 kd] 86)).cell? ⟨wr.heap.size, 1, none⟩ = some (.int .i64 id) by simp [go_sem]) (Nat.le_refl _)
      have d2 := cell_later hb2 (show (wr.alloc (.cells #[.string nm, .int .i64 id, .int .i64 kd] 86)).cell? ⟨wr.heap.size, 2, none⟩ = some (.int .i64 kd) by simp [go_sem]) (Nat.le_refl _)
      have n2 : m2 ≤ m + 1010 := by have h1 := hL2.hlen; have h2 := hLk.hlen; have h3 := txB_length nm; have h4 := padN_le nm.size; simp at h1 h2; omega
      clear hb2 hLk q0 q1 q2
      go_wp2_with fail
      refine (put64_l _ m2 c2 id _ _ (by omega) hL2).mono ?_
      rintro e w3 ⟨g3, m3, c3, rfl, hL3, hg3, hb3⟩
      have hq3 := hq2.trans (hb3.mono hq2.size)
      have d2 := cell_later hb3 d2 (Nat.le_refl _)
      have n3 : m3 ≤ m2 + 8 := by have h1 := hL3.hlen; have h2 := hL2.hlen; simp [be_length] at h1 h2; omega
      clear hb3 hL2 d1
      go_wp2_with fail
      refine (put32_l _ m3 c3 kd _ _ (by omega) hL3).mono ?_
      rintro e w4 ⟨g4, m4, c4, rfl, hL4, hg4, hb4⟩
      have hq4 := hq3.trans (hb4.mono hq3.size)
      have n4 : m4 ≤ m3 + 4 := by have h1 := hL4.hlen; have h2 := hL3.hlen; simp [be_length] at h1 h2; omega
      have hL5 : Lies w4 (some ⟨g4, 0, none⟩) m4 c4 (pre ++ (l.take (k + 1)).flatMap entB) := by
        have := HS.out
        rw [this]
        simpa [entB] using hL4
      have hg5 := Nat.le_trans hq3.size hg4
      clear hb4 hL3 hL4 d2
      go_wp2
      go_roundw
      case rel => exact ⟨k + 1, g4, m4, c4, by omega, by go_num, rfl, hL5, by omega, hg5, hq4⟩
      case measure => simp [intOf]; omega
    · clear hE hnm HL1 hb1
      have hki : decide ((k : Int) < (n : Int)) = false := by simp; omega
      go_wp2
      go_ret
      rw [List.take_of_length_le (by omega)] at hLk
      exact ⟨g, m, c, rfl, by simpa [putV] using hLk, hg, hb⟩
end Go.Proofs.YtdkcplndplhblaaGreatDoor

/- The methods that the interface value bears. -/
namespace Go.Proofs.YtdkcplndplhblaaGreatDoor
open Go.RowKit
set_option maxRecDepth 100000

theorem meth_small_put (x : Int) (w : World) : (Go.method 359 128 (.int .i64 x) "annex/msg.put").run Tryz.prog w = .ok (190, .int .i64 x) w := by kernel_rfl
theorem meth_small_take (x : Int) (w : World) : (Go.method 359 128 (.int .i64 x) "annex/msg.take").run Tryz.prog w = .ok (191, .int .i64 x) w := by kernel_rfl
theorem meth_great_put (x : Int) (w : World) : (Go.method 359 133 (.int .i64 x) "annex/msg.put").run Tryz.prog w = .ok (197, .int .i64 x) w := by kernel_rfl
theorem meth_great_take (x : Int) (w : World) : (Go.method 359 133 (.int .i64 x) "annex/msg.take").run Tryz.prog w = .ok (198, .int .i64 x) w := by kernel_rfl
theorem meth_flag_put (b : Bool) (w : World) : (Go.method 359 163 (.bool b) "annex/msg.put").run Tryz.prog w = .ok (220, .bool b) w := by kernel_rfl
theorem meth_flag_take (b : Bool) (w : World) : (Go.method 359 163 (.bool b) "annex/msg.take").run Tryz.prog w = .ok (221, .bool b) w := by kernel_rfl
theorem meth_path_put (s : ByteArray) (w : World) : (Go.method 359 155 (.string s) "annex/msg.put").run Tryz.prog w = .ok (202, .string s) w := by kernel_rfl
theorem meth_path_take (s : ByteArray) (w : World) : (Go.method 359 155 (.string s) "annex/msg.take").run Tryz.prog w = .ok (203, .string s) w := by kernel_rfl
theorem meth_name_put (s : ByteArray) (w : World) : (Go.method 359 156 (.string s) "annex/msg.put").run Tryz.prog w = .ok (210, .string s) w := by kernel_rfl
theorem meth_name_take (s : ByteArray) (w : World) : (Go.method 359 156 (.string s) "annex/msg.take").run Tryz.prog w = .ok (211, .string s) w := by kernel_rfl
theorem meth_content_put (ao : Option Addr) (n c : Nat) (w : World) : (Go.method 359 157 (.slice ao n c) "annex/msg.put").run Tryz.prog w = .ok (212, .slice ao n c) w := by kernel_rfl
theorem meth_content_take (ao : Option Addr) (n c : Nat) (w : World) : (Go.method 359 157 (.slice ao n c) "annex/msg.take").run Tryz.prog w = .ok (213, .slice ao n c) w := by kernel_rfl
theorem meth_attr_put (i k z c : Int) (w : World) : (Go.method 359 161 (.agg #[.int .i64 i, .int .i64 k, .int .i64 z, .int .i64 c]) "annex/msg.put").run Tryz.prog w = .ok (216, .agg #[.int .i64 i, .int .i64 k, .int .i64 z, .int .i64 c]) w := by kernel_rfl
theorem meth_attr_take (i k z c : Int) (w : World) : (Go.method 359 161 (.agg #[.int .i64 i, .int .i64 k, .int .i64 z, .int .i64 c]) "annex/msg.take").run Tryz.prog w = .ok (217, .agg #[.int .i64 i, .int .i64 k, .int .i64 z, .int .i64 c]) w := by kernel_rfl
theorem meth_entries_put (ao : Option Addr) (n c : Nat) (w : World) : (Go.method 359 162 (.slice ao n c) "annex/msg.put").run Tryz.prog w = .ok (218, .slice ao n c) w := by kernel_rfl
theorem meth_entries_take (ao : Option Addr) (n c : Nat) (w : World) : (Go.method 359 162 (.slice ao n c) "annex/msg.take").run Tryz.prog w = .ok (219, .slice ao n c) w := by kernel_rfl
end Go.Proofs.YtdkcplndplhblaaGreatDoor

/- Fields are put behind bytes, one behind the other. -/
namespace Go.Proofs.YtdkcplndplhblaaGreatDoor
open Go.RowKit
set_option maxRecDepth 100000

/-- What stands in a field is not long. -/
def Small : Val → Prop
  | .path s => s.size ≤ 1000
  | .name s => s.size ≤ 1000
  | .content d => d.length ≤ 2000
  | .entries l => l.length ≤ 16 ∧ ∀ e ∈ l, e.name.size ≤ 1000
  | _ => True
def putAll (gs : List (Int × Val)) : List Int := gs.flatMap fun g => putV g.2

theorem flat_len (l : List Ent) (B : Nat) (h : ∀ e ∈ l, (entB e).length ≤ B) : (l.flatMap entB).length ≤ l.length * B := by
  induction l with
  | nil => simp
  | cons e l ih =>
    have h1 := h e (by simp)
    have h2 := ih (fun x hx => h x (by simp [hx]))
    simp only [List.flatMap_cons, List.length_append, List.length_cons, Nat.add_mul]
    omega

set_option maxHeartbeats 1000000 in
theorem putAll_any (gs : List (Int × Val)) (fo : Option Addr) (n fc : Nat) (ao : Option Addr) (len cap : Nat) (bs : List Int) (w : World) (hbd : len ≤ 10000) (hL : Lies w ao len cap bs)
    (hF : FLies w fo n fc gs) (hn : n ≤ 100) (hs : ∀ g ∈ gs, Small g.2) :
    Calls Tryz.prog 93 #[.slice ao len cap, .slice fo n fc] w fun e w' => ∃ ao' n' c', e = .returned (.slice ao' n' c') ∧ Lies w' ao' n' c' (bs ++ putAll gs) ∧ Below w.heap.size w w' := by
  have hni : (n : Int) ≤ 100 := by omega
  have hgl := hF.hlen
  go_enter Tryz.func93, Tryz.ntmps93
  go_wp2
  go_loopw [0, 9] (fun s i wr => ∃ (k : Nat) (a : Option Addr) (m c : Nat), k ≤ n ∧ i = .int .i64 k ∧ s = .slice a m c ∧ Lies wr a m c (bs ++ putAll (gs.take k)) ∧ m ≤ len + k * 20000 ∧ Below w.heap.size w wr) (fun _ i _ => n - (intOf i).toNat)
  case atStart => exact ⟨0, ao, len, cap, Nat.zero_le _, rfl, rfl, by simpa [putAll] using hL, by omega, Below.refl _ _⟩
  case round =>
    obtain ⟨k, a, m, c, hk, rfl, rfl, hLk, hm, hb⟩ := hrel
    have hbs := hb.size
    by_cases hlt : k < n
    · have hki : decide ((k : Int) < (n : Int)) = true := by simpa using hlt
      obtain ⟨b', o', v, rfl, _, q0, q1, hv⟩ := hF.at (show k < gs.length by omega)
      have q0 := cell_later hb q0 (Nat.le_refl _)
      have q1 := cell_later hb q1 (Nat.le_refl _)
      have hst : putAll (gs.take (k + 1)) = putAll (gs.take k) ++ putV (gs[k]'(by omega)).2 := by
        rw [putAll, List.take_succ_eq_append_getElem (by omega), List.flatMap_append]; simp [putAll]
      have hsm := hs _ (List.getElem_mem (show k < gs.length by omega))
      have HS : Hid (putAll (gs.take (k + 1)) = putAll (gs.take k) ++ putV (gs[k]'(by omega)).2) := hst
      have hvw := hv.below hb (Nat.le_refl _)
      clear hst hv hF hs
      generalize (gs[k]'(by omega)) = x at *
      obtain ⟨no, x⟩ := x
      simp only at q0 q1 hsm hvw
      generalize putAll (gs.take k) = mid at *
      cases x with
      | small x =>
        cases hvw
        have hmeth := meth_small_put
        go_wp2_with fail
        refine (small_put x _ m c _ _ (by omega) (hLk.boxed _)).mono ?_
        rintro e w2 ⟨g2, m2, c2, rfl, hL2, hg2, hb2⟩
        have hq2 : Below w.heap.size w w2 := (hb.alloc hb.size _).trans (hb2.mono (by simp; omega))
        have n2 : m2 ≤ m + 20000 := by
          have h1 := hL2.hlen; have h2 := hLk.hlen; simp [putV, be_length] at h1 h2; omega
        have hL3 : Lies w2 (some ⟨g2, 0, none⟩) m2 c2 (bs ++ putAll (gs.take (k + 1))) := by
          have := HS.out
          rw [this, ← List.append_assoc]
          exact hL2
        clear hL2 hLk hb2 q0 q1
        go_wp2
        go_roundw
        case rel => exact ⟨k + 1, _, m2, c2, by omega, by go_num, rfl, hL3, by omega, hq2⟩
        case measure => simp [intOf]; omega
      | great x =>
        cases hvw
        have hmeth := meth_great_put
        go_wp2_with fail
        refine (great_put x _ m c _ _ (by omega) (hLk.boxed _)).mono ?_
        rintro e w2 ⟨g2, m2, c2, rfl, hL2, hg2, hb2⟩
        have hq2 : Below w.heap.size w w2 := (hb.alloc hb.size _).trans (hb2.mono (by simp; omega))
        have n2 : m2 ≤ m + 20000 := by
          have h1 := hL2.hlen; have h2 := hLk.hlen; simp [putV, be_length] at h1 h2; omega
        have hL3 : Lies w2 (some ⟨g2, 0, none⟩) m2 c2 (bs ++ putAll (gs.take (k + 1))) := by
          have := HS.out
          rw [this, ← List.append_assoc]
          exact hL2
        clear hL2 hLk hb2 q0 q1
        go_wp2
        go_roundw
        case rel => exact ⟨k + 1, _, m2, c2, by omega, by go_num, rfl, hL3, by omega, hq2⟩
        case measure => simp [intOf]; omega
      | flag b =>
        cases hvw
        have hmeth := meth_flag_put
        go_wp2_with fail
        refine (flag_put b _ m c _ _ (by omega) (hLk.boxed _)).mono ?_
        rintro e w2 ⟨g2, m2, c2, rfl, hL2, hg2, hb2⟩
        have hq2 : Below w.heap.size w w2 := (hb.alloc hb.size _).trans (hb2.mono (by simp; omega))
        have n2 : m2 ≤ m + 20000 := by
          have h1 := hL2.hlen; have h2 := hLk.hlen; simp [putV, be_length] at h1 h2; omega
        have hL3 : Lies w2 (some ⟨g2, 0, none⟩) m2 c2 (bs ++ putAll (gs.take (k + 1))) := by
          have := HS.out
          rw [this, ← List.append_assoc]
          exact hL2
        clear hL2 hLk hb2 q0 q1
        go_wp2
        go_roundw
        case rel => exact ⟨k + 1, _, m2, c2, by omega, by go_num, rfl, hL3, by omega, hq2⟩
        case measure => simp [intOf]; omega
      | path t =>
        cases hvw
        have ht : t.size ≤ 1000 := hsm
        have hmeth := meth_path_put
        go_wp2_with fail
        refine (path_put t _ m c _ _ (by omega) (by omega) (hLk.boxed _)).mono ?_
        rintro e w2 ⟨g2, m2, c2, rfl, hL2, hg2, hb2⟩
        have hq2 : Below w.heap.size w w2 := (hb.alloc hb.size _).trans (hb2.mono (by simp; omega))
        have n2 : m2 ≤ m + 20000 := by
          have h1 := hL2.hlen; have h2 := hLk.hlen; have h3 := txB_length t; have h4 := padN_le t.size; simp [putV] at h1 h2; omega
        have hL3 : Lies w2 (some ⟨g2, 0, none⟩) m2 c2 (bs ++ putAll (gs.take (k + 1))) := by
          have := HS.out
          rw [this, ← List.append_assoc]
          exact hL2
        clear hL2 hLk hb2 q0 q1
        go_wp2
        go_roundw
        case rel => exact ⟨k + 1, _, m2, c2, by omega, by go_num, rfl, hL3, by omega, hq2⟩
        case measure => simp [intOf]; omega
      | name t =>
        cases hvw
        have ht : t.size ≤ 1000 := hsm
        have hmeth := meth_name_put
        go_wp2_with fail
        refine (name_put t _ m c _ _ (by omega) (by omega) (hLk.boxed _)).mono ?_
        rintro e w2 ⟨g2, m2, c2, rfl, hL2, hg2, hb2⟩
        have hq2 : Below w.heap.size w w2 := (hb.alloc hb.size _).trans (hb2.mono (by simp; omega))
        have n2 : m2 ≤ m + 20000 := by
          have h1 := hL2.hlen; have h2 := hLk.hlen; have h3 := txB_length t; have h4 := padN_le t.size; simp [putV] at h1 h2; omega
        have hL3 : Lies w2 (some ⟨g2, 0, none⟩) m2 c2 (bs ++ putAll (gs.take (k + 1))) := by
          have := HS.out
          rw [this, ← List.append_assoc]
          exact hL2
        clear hL2 hLk hb2 q0 q1
        go_wp2
        go_roundw
        case rel => exact ⟨k + 1, _, m2, c2, by omega, by go_num, rfl, hL3, by omega, hq2⟩
        case measure => simp [intOf]; omega
      | content d =>
        obtain ⟨da, dn, dc, rfl, hD⟩ := hvw
        have ht : d.length ≤ 2000 := hsm
        have hdn := hD.hlen
        have hdb : dn ≤ 2000 := by omega
        clear hdn
        have hmeth := meth_content_put
        go_wp2_with fail
        refine (content_put da dn dc d _ m c _ _ (by omega) (by omega) (hD.boxed _) (hLk.boxed _)).mono ?_
        rintro e w2 ⟨g2, m2, c2, rfl, hL2, hg2, hb2⟩
        have hq2 : Below w.heap.size w w2 := (hb.alloc hb.size _).trans (hb2.mono (by simp; omega))
        have n2 : m2 ≤ m + 20000 := by
          have h1 := hL2.hlen; have h2 := hLk.hlen; have h3 := dtB_length d; have h4 := padN_le d.length; simp [putV] at h1 h2; omega
        have hL3 : Lies w2 (some ⟨g2, 0, none⟩) m2 c2 (bs ++ putAll (gs.take (k + 1))) := by
          have := HS.out
          rw [this, ← List.append_assoc]
          exact hL2
        clear hL2 hLk hb2 q0 q1
        go_wp2
        go_roundw
        case rel => exact ⟨k + 1, _, m2, c2, by omega, by go_num, rfl, hL3, by omega, hq2⟩
        case measure => simp [intOf]; omega
      | attr i kd z cg =>
        cases hvw
        have hmeth := meth_attr_put
        go_wp2_with fail
        refine (attr_put i kd z cg _ m c _ _ (by omega) (hLk.boxed _)).mono ?_
        rintro e w2 ⟨g2, m2, c2, rfl, hL2, hg2, hb2⟩
        have hq2 : Below w.heap.size w w2 := (hb.alloc hb.size _).trans (hb2.mono (by simp; omega))
        have n2 : m2 ≤ m + 20000 := by
          have h1 := hL2.hlen; have h2 := hLk.hlen; simp [putV, be_length] at h1 h2; omega
        have hL3 : Lies w2 (some ⟨g2, 0, none⟩) m2 c2 (bs ++ putAll (gs.take (k + 1))) := by
          have := HS.out
          rw [this, ← List.append_assoc]
          exact hL2
        clear hL2 hLk hb2 q0 q1
        go_wp2
        go_roundw
        case rel => exact ⟨k + 1, _, m2, c2, by omega, by go_num, rfl, hL3, by omega, hq2⟩
        case measure => simp [intOf]; omega
      | entries l =>
        obtain ⟨da, dn, dc, rfl, hD, hdl⟩ := hvw
        obtain ⟨ht, hte⟩ : l.length ≤ 16 ∧ ∀ e ∈ l, e.name.size ≤ 1000 := hsm
        have HD : Hid (l.length = dn) := hdl
        have hdb : dn ≤ 16 := by omega
        clear hdl
        have hmeth := meth_entries_put
        go_wp2_with fail
        refine (entries_put l da dn dc _ m c _ _ (by omega) (hLk.boxed _) (hD.boxed _) HD.out (by omega) hte).mono ?_
        rintro e w2 ⟨g2, m2, c2, rfl, hL2, hg2, hb2⟩
        have hq2 : Below w.heap.size w w2 := (hb.alloc hb.size _).trans (hb2.mono (by simp; omega))
        have n2 : m2 ≤ m + 20000 := by
          have h1 := hL2.hlen; have h2 := hLk.hlen; have h3 := flat_len l 1100 (fun e he => by have h5 := txB_length e.name; have h6 := padN_le e.name.size; have h7 := hte e he; simp [entB, be_length]; omega); simp only [List.length_append, putV, be_length] at h1 h2; omega
        have hL3 : Lies w2 (some ⟨g2, 0, none⟩) m2 c2 (bs ++ putAll (gs.take (k + 1))) := by
          have := HS.out
          rw [this, ← List.append_assoc]
          exact hL2
        clear hL2 hLk hb2 q0 q1
        go_wp2
        go_roundw
        case rel => exact ⟨k + 1, _, m2, c2, by omega, by go_num, rfl, hL3, by omega, hq2⟩
        case measure => simp [intOf]; omega
    · clear hF hs
      have hki : decide ((k : Int) < (n : Int)) = false := by simp; omega
      go_wp2
      go_ret
      rw [List.take_of_length_le (by omega)] at hLk
      exact ⟨a, m, c, rfl, hLk, hb⟩
end Go.Proofs.YtdkcplndplhblaaGreatDoor

/- Plain words on names and rows of texts. -/
namespace Go.Proofs.YtdkcplndplhblaaGreatDoor.N3
open Go.RowKit
set_option maxRecDepth 100000

theorem allN_judge {xs : List ByteArray} (h : xs.length ≤ 16) : allN xs = judge (xs.map bs) := by
  unfold allN judge
  rw [if_neg (show ¬ 16 < (xs.map bs).length by simp; omega), List.all_map]
  rfl
theorem judge_small {xs : List ByteArray} (h : judge (xs.map bs) = 0) : xs.length ≤ 16 ∧ ∀ x, x ∈ xs → x.size ≤ 23 := by
  obtain ⟨h1, h2⟩ := judge_zero.1 h
  refine ⟨by simpa using h1, fun x hx => ?_⟩
  rw [size_bs]
  exact (okName_len (h2 _ (List.mem_map_of_mem hx))).2

theorem own_below {w w' : World} {base n c B : Nat} {ao : Option Addr} {xs : List Value} (h : w.ownsRow base 9 1 (.slice ao n c) n xs) (hb : Below B w w') (hB : w.heap.size ≤ B) : w'.ownsRow base 9 1 (.slice ao n c) n xs := by
  rcases h with ⟨h0, h1 | ⟨g', cap, cur, h2, h3, h4, h5⟩⟩
  · exact ⟨h0, Or.inl h1⟩
  · have := (Array.getElem?_eq_some_iff.1 h4).1
    exact ⟨h0, Or.inr ⟨g', cap, cur, h2, h3, (hb.block _ (by omega)).trans h4, h5⟩⟩
theorem own_block {w : World} {base n c : Nat} {ao : Option Addr} {xs : List Value} (h : w.ownsRow base 9 1 (.slice ao n c) n xs) : ∀ k, (Value.slice ao n c).ownBlock = some k → base ≤ k := by
  intro k hk
  rcases h with ⟨h0, ⟨h1, _⟩ | ⟨g', cap, cur, h2, h3, h4, h5⟩⟩
  · cases h1; simp [Value.ownBlock] at hk
  · cases h2; simp [Value.ownBlock] at hk; omega
theorem map_tx_bs (l : List (List UInt8)) : (l.map tx).map bs = l := by
  rw [List.map_map]
  have : bs ∘ tx = id := by funext x; simp
  rw [this]; simp
theorem splitL_len (p : List UInt8) : (splitL p).length ≤ 16 := by
  by_cases h : splitE p = 0
  · exact (judge_zero.1 (path_split h).1).1
  · rw [splitL_err h]; simp

theorem _root_.Go.RowKit.Below.drewN {B : Nat} {w w' : World} (h : Below B w w') (m : Nat) : Below B w (w'.drewN m) := ⟨h.os, h.tape, h.output, h.size, h.block⟩

theorem _root_.Go.RowKit.Below.drew_trans {B : Nat} {w w' : World} (h : Below B w.drew w') : Below B w w' := ⟨h.os, h.tape, h.output, h.size, h.block⟩

end Go.Proofs.YtdkcplndplhblaaGreatDoor.N3

/- The bodies of messages; encode. -/
namespace Go.Proofs.YtdkcplndplhblaaGreatDoor
open Go.RowKit
set_option maxRecDepth 100000

theorem hasRq_len (op : Int) : (hasRq op).length ≤ 4 := by
  unfold hasRq
  repeat (first | (split; · simp) | simp)
theorem hasRp_len (op st : Int) : (hasRp op st).length ≤ 4 := by
  unfold hasRp
  split
  · split
    · simp
    · split
      · simp
      · split <;> simp
  · simp
theorem drw {B : Nat} {w w' : World} (h : Below B w w') : Below B w w'.drew := ⟨h.os, h.tape, h.output, h.size, h.block⟩
theorem has_small {w : World} {ao : Option Addr} {n c : Nat} {l : List Int} (h : ILies w ao n c l) (hl : l.length ≤ 4) : n ≤ 1000 := by
  have := h.hlen; simp at this; omega
theorem those_any (fo : Option Addr) (n c : Nat) (gs : List (Int × Val)) (ho : Option Addr) (hn hc : Nat) (l : List Int) (w : World) (hF : FLies w fo n c gs) (h0 : 0 < n) (hbd : n ≤ 1000) (hL : ILies w ho hn hc l) (hbd2 : hn ≤ 1000) :
    Calls Tryz.prog 96 #[.slice fo n c, .slice ho hn hc] w fun e w' => ∃ fo m k, e = .returned (.slice fo m k) ∧ FLies w' fo m k (pick l gs) ∧ Below w.heap.size w w' := by
  obtain ⟨b, o, v, rfl, _⟩ := hF.at (show 0 < gs.length by rw [hF.hlen]; exact h0)
  exact those_pos b o c n gs ho hn hc l w hF hbd hL hbd2

/-- A message in a box of its own. -/
abbrev RqBox (w : World) (B : Nat) (r : Req) (ao : Option Addr) (n c : Nat) : Prop := w.cell? ⟨B, 0, none⟩ = some (.int .i64 r.client) ∧ w.cell? ⟨B, 1, none⟩ = some (.int .i64 r.seq) ∧ w.cell? ⟨B, 2, none⟩ = some (.int .i64 r.ack) ∧ w.cell? ⟨B, 3, none⟩ = some (.int .i64 r.epoch) ∧ w.cell? ⟨B, 4, none⟩ = some (.int .i64 r.op) ∧ w.cell? ⟨B, 5, none⟩ = some (.int .i64 r.id) ∧ w.cell? ⟨B, 6, none⟩ = some (.int .i64 r.id2) ∧ w.cell? ⟨B, 7, none⟩ = some (.int .i64 r.off) ∧ w.cell? ⟨B, 8, none⟩ = some (.int .i64 r.len) ∧ w.cell? ⟨B, 9, none⟩ = some (.string r.path) ∧ w.cell? ⟨B, 10, none⟩ = some (.string r.name) ∧ w.cell? ⟨B, 11, none⟩ = some (.string r.name2) ∧ w.cell? ⟨B, 12, none⟩ = some (.slice ao n c)
theorem RqBox.later {B Bd : Nat} {w w' : World} {r : Req} {ao : Option Addr} {n c : Nat} (h : RqBox w B r ao n c) (hb : Below Bd w w') (hB : w.heap.size ≤ Bd) : RqBox w' B r ao n c :=
  ⟨cell_later hb h.1 hB, cell_later hb h.2.1 hB, cell_later hb h.2.2.1 hB, cell_later hb h.2.2.2.1 hB, cell_later hb h.2.2.2.2.1 hB, cell_later hb h.2.2.2.2.2.1 hB, cell_later hb h.2.2.2.2.2.2.1 hB, cell_later hb h.2.2.2.2.2.2.2.1 hB, cell_later hb h.2.2.2.2.2.2.2.2.1 hB, cell_later hb h.2.2.2.2.2.2.2.2.2.1 hB, cell_later hb h.2.2.2.2.2.2.2.2.2.2.1 hB, cell_later hb h.2.2.2.2.2.2.2.2.2.2.2.1 hB, cell_later hb h.2.2.2.2.2.2.2.2.2.2.2.2 hB⟩
theorem RqBox.new (w : World) (r : Req) (ao : Option Addr) (n c : Nat) : RqBox (w.alloc (.cells #[.int .i64 r.client, .int .i64 r.seq, .int .i64 r.ack, .int .i64 r.epoch, .int .i64 r.op, .int .i64 r.id, .int .i64 r.id2, .int .i64 r.off, .int .i64 r.len, .string r.path, .string r.name, .string r.name2, .slice ao n c] 24)) w.heap.size r ao n c := by
  refine ⟨?_, ?_, ?_, ?_, ?_, ?_, ?_, ?_, ?_, ?_, ?_, ?_, ?_⟩ <;> simp [go_sem]
/-- A message in a box of its own. -/
abbrev RpBox (w : World) (B : Nat) (r : Rep) (ao : Option Addr) (n c : Nat) (lo : Option Addr) (ln lc : Nat) : Prop := w.cell? ⟨B, 0, none⟩ = some (.int .i64 r.client) ∧ w.cell? ⟨B, 1, none⟩ = some (.int .i64 r.seq) ∧ w.cell? ⟨B, 2, none⟩ = some (.int .i64 r.epoch) ∧ w.cell? ⟨B, 3, none⟩ = some (.int .i64 r.op) ∧ w.cell? ⟨B, 4, none⟩ = some (.int .i64 r.status) ∧ w.cell? ⟨B, 5, none⟩ = some (.int .i64 r.ai) ∧ w.cell? ⟨B, 6, none⟩ = some (.int .i64 r.ak) ∧ w.cell? ⟨B, 7, none⟩ = some (.int .i64 r.az) ∧ w.cell? ⟨B, 8, none⟩ = some (.int .i64 r.ac) ∧ w.cell? ⟨B, 9, none⟩ = some (.slice ao n c) ∧ w.cell? ⟨B, 10, none⟩ = some (.slice lo ln lc) ∧ w.cell? ⟨B, 11, none⟩ = some (.bool r.more)
theorem RpBox.later {B Bd : Nat} {w w' : World} {r : Rep} {ao : Option Addr} {n c : Nat} {lo : Option Addr} {ln lc : Nat} (h : RpBox w B r ao n c lo ln lc) (hb : Below Bd w w') (hB : w.heap.size ≤ Bd) : RpBox w' B r ao n c lo ln lc :=
  ⟨cell_later hb h.1 hB, cell_later hb h.2.1 hB, cell_later hb h.2.2.1 hB, cell_later hb h.2.2.2.1 hB, cell_later hb h.2.2.2.2.1 hB, cell_later hb h.2.2.2.2.2.1 hB, cell_later hb h.2.2.2.2.2.2.1 hB, cell_later hb h.2.2.2.2.2.2.2.1 hB, cell_later hb h.2.2.2.2.2.2.2.2.1 hB, cell_later hb h.2.2.2.2.2.2.2.2.2.1 hB, cell_later hb h.2.2.2.2.2.2.2.2.2.2.1 hB, cell_later hb h.2.2.2.2.2.2.2.2.2.2.2 hB⟩
theorem RpBox.new (w : World) (r : Rep) (ao : Option Addr) (n c : Nat) (lo : Option Addr) (ln lc : Nat) : RpBox (w.alloc (.cells #[.int .i64 r.client, .int .i64 r.seq, .int .i64 r.epoch, .int .i64 r.op, .int .i64 r.status, .int .i64 r.ai, .int .i64 r.ak, .int .i64 r.az, .int .i64 r.ac, .slice ao n c, .slice lo ln lc, .bool r.more] 30)) w.heap.size r ao n c lo ln lc := by
  refine ⟨?_, ?_, ?_, ?_, ?_, ?_, ?_, ?_, ?_, ?_, ?_, ?_⟩ <;> simp [go_sem]

set_option maxHeartbeats 4000000 in
theorem requestBody_any (r : Req) (ao : Option Addr) (n c : Nat) (w : World) (hD : Lies w ao n c r.data) :
    Calls Tryz.prog 50 #[rqV r ao n c] w fun e w' => ∃ fo m k, e = .returned (.slice fo m k) ∧ FLies w' fo m k (pick (hasRq r.op) (rqAny r)) ∧ Below w.heap.size w w' := by
  have hB0 := RqBox.new w r ao n c
  go_enter Tryz.func50, Tryz.ntmps50
  go_wp2_with fail
  generalize hw0 : w.alloc (.cells #[.int .i64 r.client, .int .i64 r.seq, .int .i64 r.ack, .int .i64 r.epoch, .int .i64 r.op, .int .i64 r.id, .int .i64 r.id2, .int .i64 r.off, .int .i64 r.len, .string r.path, .string r.name, .string r.name2, .slice ao n c] 24) = w0 at *
  have hb0 : Below w.heap.size w w0.drew := drw (hw0 ▸ newBox w _)
  replace hB0 : RqBox w0.drew w.heap.size r ao n c := hB0
  go_region_held3 (fun w' => w'.cell? ⟨w.heap.size, 0, none⟩ = some (.int .i64 r.client) ∧ w'.cell? ⟨w.heap.size, 1, none⟩ = some (.int .i64 r.seq) ∧ w'.cell? ⟨w.heap.size, 2, none⟩ = some (.int .i64 r.ack) ∧ w'.cell? ⟨w.heap.size, 3, none⟩ = some (.int .i64 r.epoch) ∧ w'.cell? ⟨w.heap.size, 4, none⟩ = some (.int .i64 r.op) ∧ w'.cell? ⟨w.heap.size, 5, none⟩ = some (.int .i64 r.id) ∧ w'.cell? ⟨w.heap.size, 6, none⟩ = some (.int .i64 r.id2) ∧ w'.cell? ⟨w.heap.size, 7, none⟩ = some (.int .i64 r.off) ∧ w'.cell? ⟨w.heap.size, 8, none⟩ = some (.int .i64 r.len) ∧ w'.cell? ⟨w.heap.size, 9, none⟩ = some (.string r.path) ∧ w'.cell? ⟨w.heap.size, 10, none⟩ = some (.string r.name) ∧ w'.cell? ⟨w.heap.size, 11, none⟩ = some (.string r.name2) ∧ w'.cell? ⟨w.heap.size, 12, none⟩ = some (.slice ao n c))
    (first | exact hB0 | exact hB1 | exact hB2 | exact hB3)
    (first
      | (go_at_call 82; refine (anyRequestBody_any r ao n c _ (hD.below hb0 (Nat.le_refl _))).mono ?_; rintro e w1 ⟨fo1, k1, rfl, hF1, hb1⟩; have hB1 := RqBox.later hB0 hb1 (Nat.le_refl _))
      | (go_at_call 83; refine (requestHas_any r.op _).mono ?_; rintro e w2 ⟨ho, hn, hc, rfl, hH2, hb2⟩; have hB2 := RqBox.later hB1 hb2 (Nat.le_refl _))
      | (go_at_call 96; refine (those_any fo1 8 k1 _ ho hn hc (hasRq r.op) _ (hF1.below hb2 (Nat.le_refl _)) (by omega) (by omega) hH2 (has_small hH2 (hasRq_len _))).mono ?_; rintro e w3 ⟨fo3, m3, k3, rfl, hF3, hb3⟩; have hB3 := RqBox.later hB2 hb3 (Nat.le_refl _)))
  clear hB0 hB1 hB2 hB3
  have hq1 := hb0.trans (hb1.mono hb0.size)
  have hq2 := hq1.trans (hb2.mono hq1.size)
  have hq3 := hq2.trans (hb3.mono hq2.size)
  go_wp2
  go_ret
  exact ⟨fo3, m3, k3, rfl, hF3, hq3⟩

set_option maxHeartbeats 4000000 in
theorem replyBody_any (r : Rep) (ao : Option Addr) (n c : Nat) (lo : Option Addr) (ln lc : Nat) (w : World) (hD : Lies w ao n c r.data) (hE : CLies w lo ln lc 3 (entCells r.list)) (hel : r.list.length = ln) :
    Calls Tryz.prog 54 #[rpV r ao n c lo ln lc] w fun e w' => ∃ fo m k, e = .returned (.slice fo m k) ∧ FLies w' fo m k (pick (hasRp r.op r.status) (rpAny r)) ∧ Below w.heap.size w w' := by
  have hB0 := RpBox.new w r ao n c lo ln lc
  go_enter Tryz.func54, Tryz.ntmps54
  go_wp2_with fail
  generalize hw0 : w.alloc (.cells #[.int .i64 r.client, .int .i64 r.seq, .int .i64 r.epoch, .int .i64 r.op, .int .i64 r.status, .int .i64 r.ai, .int .i64 r.ak, .int .i64 r.az, .int .i64 r.ac, .slice ao n c, .slice lo ln lc, .bool r.more] 30) = w0 at *
  have hb0 : Below w.heap.size w w0.drew := drw (hw0 ▸ newBox w _)
  replace hB0 : RpBox w0.drew w.heap.size r ao n c lo ln lc := hB0
  go_region_held3 (fun w' => w'.cell? ⟨w.heap.size, 0, none⟩ = some (.int .i64 r.client) ∧ w'.cell? ⟨w.heap.size, 1, none⟩ = some (.int .i64 r.seq) ∧ w'.cell? ⟨w.heap.size, 2, none⟩ = some (.int .i64 r.epoch) ∧ w'.cell? ⟨w.heap.size, 3, none⟩ = some (.int .i64 r.op) ∧ w'.cell? ⟨w.heap.size, 4, none⟩ = some (.int .i64 r.status) ∧ w'.cell? ⟨w.heap.size, 5, none⟩ = some (.int .i64 r.ai) ∧ w'.cell? ⟨w.heap.size, 6, none⟩ = some (.int .i64 r.ak) ∧ w'.cell? ⟨w.heap.size, 7, none⟩ = some (.int .i64 r.az) ∧ w'.cell? ⟨w.heap.size, 8, none⟩ = some (.int .i64 r.ac) ∧ w'.cell? ⟨w.heap.size, 9, none⟩ = some (.slice ao n c) ∧ w'.cell? ⟨w.heap.size, 10, none⟩ = some (.slice lo ln lc) ∧ w'.cell? ⟨w.heap.size, 11, none⟩ = some (.bool r.more))
    (first | exact hB0 | exact hB1 | exact hB2 | exact hB3)
    (first
      | (go_at_call 88; refine (anyReplyBody_any r ao n c lo ln lc _ (hD.below hb0 (Nat.le_refl _)) (hE.below hb0 (Nat.le_refl _)) hel).mono ?_; rintro e w1 ⟨fo1, k1, rfl, hF1, hb1⟩; have hB1 := RpBox.later hB0 hb1 (Nat.le_refl _))
      | (go_at_call 89; refine (replyHas_any r.op r.status _).mono ?_; rintro e w2 ⟨ho, hn, hc, rfl, hH2, hb2⟩; have hB2 := RpBox.later hB1 hb2 (Nat.le_refl _))
      | (go_at_call 96; refine (those_any fo1 4 k1 _ ho hn hc (hasRp r.op r.status) _ (hF1.below hb2 (Nat.le_refl _)) (by omega) (by omega) hH2 (has_small hH2 (hasRp_len _ _))).mono ?_; rintro e w3 ⟨fo3, m3, k3, rfl, hF3, hb3⟩; have hB3 := RpBox.later hB2 hb3 (Nat.le_refl _)))
  clear hB0 hB1 hB2 hB3
  have hq1 := hb0.trans (hb1.mono hb0.size)
  have hq2 := hq1.trans (hb2.mono hq1.size)
  have hq3 := hq2.trans (hb3.mono hq2.size)
  go_wp2
  go_ret
  exact ⟨fo3, m3, k3, rfl, hF3, hq3⟩

end Go.Proofs.YtdkcplndplhblaaGreatDoor

/- What may stand in a field: the small judges. -/
namespace Go.Proofs.YtdkcplndplhblaaGreatDoor
open Go.RowKit
set_option maxRecDepth 100000

def nameB (s : ByteArray) : Bool := N3.okName (N3.bs s)
set_option maxHeartbeats 1000000 in
theorem isName_any (s : ByteArray) (w : World) : Calls Tryz.prog 138 #[.string s] w fun e w' => e = .returned (.bool (nameB s)) ∧ Below w.heap.size w w' := by
  unfold nameB
  have hc : N3.checkN (N3.bs s) = if N3.okName (N3.bs s) = true then 0 else 31 := rfl
  cases h : N3.okName (N3.bs s)
  · rw [h] at hc
    simp only [Bool.false_eq_true, if_false] at hc
    go_enter Tryz.func138, Tryz.ntmps138
    go_wp2_with (go_at_call 151; refine (N3.check_any s _).mono ?_; rintro e w1 ⟨rfl, hb1⟩; rw [hc])
    go_ret
    exact ⟨rfl, hb1⟩
  · rw [h] at hc
    simp only [if_true] at hc
    go_enter Tryz.func138, Tryz.ntmps138
    go_wp2_with (go_at_call 151; refine (N3.check_any s _).mono ?_; rintro e w1 ⟨rfl, hb1⟩; rw [hc])
    go_ret
    exact ⟨rfl, hb1⟩

def mostLen (op : Int) : Int := if op = 10 then 16 else 1024
set_option maxHeartbeats 1000000 in
theorem mostLen_any (op : Int) (w : World) : Calls Tryz.prog 135 #[.int .i64 op] w fun e w' => e = .returned (.int .i64 (mostLen op)) ∧ w' = w := by
  unfold mostLen
  go_enter Tryz.func135, Tryz.ntmps135
  go_wp2
  all_goals go_ret
  all_goals simp_all

def kindFits (op k : Int) : Bool := if op = 3 ∨ op = 4 ∨ op = 5 then decide (k = 1) else if op = 7 then decide (k = 2) else kindB k
set_option maxHeartbeats 1000000 in
theorem kindFits_any (op k : Int) (w : World) : Calls Tryz.prog 152 #[.int .i64 op, .int .i64 k] w fun e w' => e = .returned (.bool (kindFits op k)) ∧ w' = w := by
  unfold kindFits
  go_enter Tryz.func152, Tryz.ntmps152
  go_wp2_with (go_at_call 154; refine (isKind_any k _).mono ?_; rintro e w1 ⟨rfl, hw1⟩; subst w1)
  all_goals go_ret
  all_goals simp_all
  all_goals rfl

def sizeFits (k z : Int) : Bool := if k = 2 then inB z 0 8160 && decide (z % 32 = 0) else inB z 0 69632
set_option maxHeartbeats 1000000 in
theorem sizeFits_any (k z : Int) (w : World) : Calls Tryz.prog 153 #[.int .i64 k, .int .i64 z] w fun e w' => e = .returned (.bool (sizeFits k z)) ∧ w' = w := by
  unfold sizeFits
  by_cases hk : k = 2
  · subst hk
    cases h : inB z 0 8160
    · go_enter Tryz.func153, Tryz.ntmps153
      go_wp2_with (go_at_call 79; refine (within_any _ _ _ _).mono ?_; rintro e w1 ⟨rfl, hw1⟩; subst w1; simp only [h])
      go_ret
      exact ⟨rfl, rfl⟩
    · have h0 := (inB_true h).1
      have ht : z.tmod 32 = z % 32 := Int.tmod_eq_emod_of_nonneg h0
      go_enter Tryz.func153, Tryz.ntmps153
      go_wp2_with (go_at_call 79; refine (within_any _ _ _ _).mono ?_; rintro e w1 ⟨rfl, hw1⟩; subst w1; simp only [h])
      go_ret
      exact ⟨rfl, rfl⟩
  · go_enter Tryz.func153, Tryz.ntmps153
    go_wp2_with (go_at_call 79; refine (within_any _ _ _ _).mono ?_; rintro e w1 ⟨rfl, hw1⟩; subst w1)
    go_ret
    exact ⟨by simp, rfl⟩

def attrB (op i k z c : Int) : Bool := inB i 1 562949953421311 && kindFits op k && sizeFits k z && inB c 0 4611686018427387904
set_option maxHeartbeats 1000000 in
theorem isAttr_any (op i k z c : Int) (w : World) : Calls Tryz.prog 139 #[.int .i64 op, .agg #[.int .i64 i, .int .i64 k, .int .i64 z, .int .i64 c]] w fun e w' => e = .returned (.bool (attrB op i k z c)) ∧ Below w.heap.size w w' := by
  unfold attrB
  cases h1 : inB i 1 562949953421311 <;> cases h2 : kindFits op k <;> cases h3 : sizeFits k z <;> cases h4 : inB c 0 4611686018427387904
  all_goals
    go_enter Tryz.func139, Tryz.ntmps139
    go_wp2_with (first
      | (go_at_call 136; refine (isId_any _ _).mono ?_; rintro e w1 ⟨rfl, hw1⟩; subst w1; simp only [h1])
      | (go_at_call 152; refine (kindFits_any _ _ _).mono ?_; rintro e w1 ⟨rfl, hw1⟩; subst w1; simp only [h2])
      | (go_at_call 153; refine (sizeFits_any _ _ _).mono ?_; rintro e w1 ⟨rfl, hw1⟩; subst w1; simp only [h3])
      | (go_at_call 79; refine (within_any _ _ _ _).mono ?_; rintro e w1 ⟨rfl, hw1⟩; subst w1; simp only [h4]))
    go_ret
    exact ⟨rfl, newBox _ _⟩
end Go.Proofs.YtdkcplndplhblaaGreatDoor
