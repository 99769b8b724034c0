/- A message's fields as a list. -/
import Derived.Test.YtdkcplndplhblaaGreatDoorPk06
namespace Go.Proofs.YtdkcplndplhblaaGreatDoor
open Go.RowKit
set_option maxRecDepth 100000

/-- A request's header as fields. -/
def rqHead (r : Req) : List (Int × Val) := [(0, .small r.client), (1, .great r.seq), (2, .great r.ack), (3, .great r.epoch), (4, .small r.op)]
/-- All fields that a request may have behind it. -/
def rqAny (r : Req) : List (Int × Val) := [(6, .great r.id), (7, .small r.off), (8, .small r.len), (9, .path r.path), (10, .name r.name), (11, .great r.id2), (12, .name r.name2), (14, .content r.data)]
def rpHead (r : Rep) : List (Int × Val) := [(0, .small r.client), (1, .great r.seq), (3, .great r.epoch), (4, .small r.op), (5, .small r.status)]
def rpAny (r : Rep) : List (Int × Val) := [(13, .attr r.ai r.ak r.az r.ac), (14, .content r.data), (15, .entries r.list), (16, .flag r.more)]

theorem FLies.new (w : World) (g n : Nat) (C : Array Value) (fs : List (Int × Value)) (gs : List (Int × Val)) (hg : g = w.heap.size) (hn : gs.length = n) (hC : C = (fCells fs).toArray) (hR : FReps (w.alloc (.cells C 132)) fs gs) : FLies (w.alloc (.cells C 132)) (some ⟨g, 0, none⟩) n n gs := by
  subst hg
  exact ⟨hn, fs, CLies.new w (fCells fs) n 2 _ (by rw [fCells_length, hR.length, hn]) C hC, hR⟩
theorem box2 (w : World) (o p : Obj) : Below w.heap.size w ((w.alloc o).alloc p) := (newBox w o).alloc (newBox w o).size _

set_option maxHeartbeats 1000000 in
theorem requestHead_any (r : Req) (ao : Option Addr) (n c : Nat) (w : World) :
    Calls Tryz.prog 49 #[rqV r ao n c] w fun e w' => ∃ fo k, e = .returned (.slice fo 5 k) ∧ FLies w' fo 5 k (rqHead r) ∧ Below w.heap.size w w' := by
  go_enter Tryz.func49, Tryz.ntmps49
  go_wp2
  go_ret
  refine ⟨_, _, rfl, FLies.new _ _ _ _ [(0, Value.iface 128 (.int .i64 r.client)), (1, Value.iface 133 (.int .i64 r.seq)), (2, Value.iface 133 (.int .i64 r.ack)), (3, Value.iface 133 (.int .i64 r.epoch)), (4, Value.iface 128 (.int .i64 r.op))] (rqHead r) (by simp) rfl rfl ?_, box2 _ _ _⟩
  simp [FReps, rqHead, VRep]

set_option maxHeartbeats 1000000 in
theorem replyHead_any (r : Rep) (ao : Option Addr) (n c : Nat) (lo : Option Addr) (ln lc : Nat) (w : World) :
    Calls Tryz.prog 53 #[rpV r ao n c lo ln lc] w fun e w' => ∃ fo k, e = .returned (.slice fo 5 k) ∧ FLies w' fo 5 k (rpHead r) ∧ Below w.heap.size w w' := by
  go_enter Tryz.func53, Tryz.ntmps53
  go_wp2
  go_ret
  refine ⟨_, _, rfl, FLies.new _ _ _ _ [(0, Value.iface 128 (.int .i64 r.client)), (1, Value.iface 133 (.int .i64 r.seq)), (3, Value.iface 133 (.int .i64 r.epoch)), (4, Value.iface 128 (.int .i64 r.op)), (5, Value.iface 128 (.int .i64 r.status))] (rpHead r) (by simp) rfl rfl ?_, box2 _ _ _⟩
  simp [FReps, rpHead, VRep]

set_option maxHeartbeats 1000000 in
theorem anyRequestBody_any (r : Req) (ao : Option Addr) (n c : Nat) (w : World) (hD : Lies w ao n c r.data) :
    Calls Tryz.prog 82 #[rqV r ao n c] w fun e w' => ∃ fo k, e = .returned (.slice fo 8 k) ∧ FLies w' fo 8 k (rqAny r) ∧ Below w.heap.size w w' := by
  go_enter Tryz.func82, Tryz.ntmps82
  go_wp2
  go_ret
  refine ⟨_, _, rfl, FLies.new _ _ _ _ [(6, Value.iface 133 (.int .i64 r.id)), (7, Value.iface 128 (.int .i64 r.off)), (8, Value.iface 128 (.int .i64 r.len)), (9, Value.iface 155 (.string r.path)), (10, Value.iface 156 (.string r.name)), (11, Value.iface 133 (.int .i64 r.id2)), (12, Value.iface 156 (.string r.name2)), (14, Value.iface 157 (.slice ao n c))] (rqAny r) (by simp) rfl rfl ?_, box2 _ _ _⟩
  simp [FReps, rqAny, VRep]
  exact ⟨ao, n, c, ⟨rfl, rfl, rfl⟩, (hD.boxed _).boxed _⟩

set_option maxHeartbeats 1000000 in
theorem anyReplyBody_any (r : Rep) (ao : Option Addr) (n c : Nat) (lo : Option Addr) (ln lc : Nat) (w : World) (hD : Lies w ao n c r.data) (hE : CLies w lo ln lc 3 (entCells r.list)) (hel : r.list.length = ln) :
    Calls Tryz.prog 88 #[rpV r ao n c lo ln lc] w fun e w' => ∃ fo k, e = .returned (.slice fo 4 k) ∧ FLies w' fo 4 k (rpAny r) ∧ Below w.heap.size w w' := by
  go_enter Tryz.func88, Tryz.ntmps88
  go_wp2
  go_ret
  refine ⟨_, _, rfl, FLies.new _ _ _ _ [(13, Value.iface 161 (.agg #[.int .i64 r.ai, .int .i64 r.ak, .int .i64 r.az, .int .i64 r.ac])), (14, Value.iface 157 (.slice ao n c)), (15, Value.iface 162 (.slice lo ln lc)), (16, Value.iface 163 (.bool r.more))] (rpAny r) (by simp) rfl rfl ?_, box2 _ _ _⟩
  simp [FReps, rpAny, VRep]
  exact ⟨⟨ao, n, c, ⟨rfl, rfl, rfl⟩, (hD.boxed _).boxed _⟩, lo, ln, lc, ⟨rfl, rfl, rfl⟩, (hE.boxed _).boxed _, hel⟩

end Go.Proofs.YtdkcplndplhblaaGreatDoor

/- Those of the fields that a message has. -/
namespace Go.Proofs.YtdkcplndplhblaaGreatDoor
open Go.RowKit
set_option maxRecDepth 100000

theorem Tryz.infoField : (Tryz.prog.info? 132).map (fun i => (i.zero, i.size, i.bytes)) = some (some (.agg #[.int .i64 0, .nilIface]), 2, 24) := by kernel_rfl

/-- Those of the fields that have one of the numbers. -/
def pick (l : List Int) (gs : List (Int × Val)) : List (Int × Val) := gs.filter fun g => decide (g.1 ∈ l)

theorem pick_in {w : World} {ls : List (Int × Value)} {l : List Int} {gs : List (Int × Val)} {k : Nat} {no : Int} {x : Val} {v : Value} (h : FReps w ls (pick l (gs.take k))) (hs : gs.take (k + 1) = gs.take k ++ [(no, x)]) (hin : no ∈ l) (hv : VRep w v x) : FReps w (ls ++ [(no, v)]) (pick l (gs.take (k + 1))) := by
  have e : List.filter (fun g : Int × Val => decide (g.1 ∈ l)) [(no, x)] = [(no, x)] := by simp [hin]
  rw [hs, pick, List.filter_append, e]
  exact FReps.app h rfl hv
theorem pick_out {w : World} {ls : List (Int × Value)} {l : List Int} {gs : List (Int × Val)} {k : Nat} {no : Int} {x : Val} (h : FReps w ls (pick l (gs.take k))) (hs : gs.take (k + 1) = gs.take k ++ [(no, x)]) (hin : no ∉ l) : FReps w ls (pick l (gs.take (k + 1))) := by
  have e : List.filter (fun g : Int × Val => decide (g.1 ∈ l)) [(no, x)] = [] := by simp [hin]
  rw [hs, pick, List.filter_append, e, List.append_nil]
  exact h

set_option maxHeartbeats 1000000 in
theorem those_pos (b o c n : Nat) (gs : List (Int × Val)) (ho : Option Addr) (hn hc : Nat) (l : List Int) (w : World) (hF : FLies w (some ⟨b, o, none⟩) n c gs) (hbd : n ≤ 1000) (hL : ILies w ho hn hc l) (hbd2 : hn ≤ 1000) :
    Calls Tryz.prog 96 #[.slice (some ⟨b, o, none⟩) n c, .slice ho hn hc] w fun e w' => ∃ fo m k, e = .returned (.slice fo m k) ∧ FLies w' fo m k (pick l gs) ∧ Below w.heap.size w w' := by
  have hni : (n : Int) ≤ 1000 := by omega
  have hgl := hF.hlen
  obtain ⟨i0, hi, hz0, hz1, hz2⟩ := info_parts Tryz.infoField
  go_enter Tryz.func96, Tryz.ntmps96
  go_wp2
  go_loopw [5, 10] (fun s i wr => ∃ (k : Nat) (ls : List (Int × Value)) (av : Option Addr) (c : Nat), k ≤ n ∧ i = .int .i64 k ∧ s = .slice av ls.length c ∧ wr.ownsRow w.heap.size 132 2 (.slice av ls.length c) ls.length (fCells ls) ∧ ls.length ≤ k ∧ Hid (FReps w ls (pick l (gs.take k))) ∧ Below w.heap.size w wr) (fun _ i _ => n - (intOf i).toNat)
  case atStart => exact ⟨0, [], none, 0, Nat.zero_le _, rfl, rfl, World.ownsRow_nil _ _ _ _, Nat.zero_le _, (by simp [pick, FReps] : FReps w [] (pick l (gs.take 0))), Below.refl _ _⟩
  case round =>
    obtain ⟨k, ls, av, c', hk, rfl, rfl, hown, hls, HR, hb⟩ := hrel
    have hbs := hb.size
    by_cases hlt : k < n
    · have hki : decide ((k : Int) < (n : Int)) = true := by simpa using hlt
      obtain ⟨b', o', v, hbo, _, q0, q1, hv⟩ := hF.at (show k < gs.length by omega)
      cases hbo
      have q0 := cell_later hb q0 (Nat.le_refl _)
      have q1 := cell_later hb q1 (Nat.le_refl _)
      have hst : gs.take (k + 1) = gs.take k ++ [gs[k]'(by omega)] := List.take_succ_eq_append_getElem (by omega)
      have HL := (hL.below hb (Nat.le_refl _)).boxed (.cells #[.int .i64 (gs[k]'(by omega)).1, v] 132)
      have hbn : Below w.heap.size w (wr.alloc (.cells #[.int .i64 (gs[k]'(by omega)).1, v] 132)) := hb.alloc hb.size _
      obtain ⟨t, u, rfl⟩ := hv.iface
      have HV : Hid (VRep w (.iface t u) (gs[k]'(by omega)).2) := hv
      have HS : Hid (gs.take (k + 1) = gs.take k ++ [gs[k]'(by omega)]) := hst
      clear hv hst hF hL
      generalize (gs[k]'(by omega)) = g at *
      obtain ⟨no, x⟩ := g
      simp only at q0 HL hbn HV
      by_cases hin : no ∈ l
      · have hdec : decide (no ∈ l) = true := by simpa using hin
        have Hin : Hid (no ∈ l) := hin
        clear hin
        go_wp2_with (first
          | (go_at_call 114; refine (contains_any ho hn hc l no _ hbd2 HL).mono ?_; rintro e w1 ⟨rfl, hw1⟩; subst w1; rw [hdec])
          | (at_builtin; refine wpList_append_own _ rfl (.tmp 18) (.tmp 20) 80 rfl w.heap.size 132 i0 (.agg #[.int .i64 0, .nilIface]) 2 24 Tryz.underlying80 hi hz0 hz1 hz2 rfl (by decide) _ _ _ rfl ((hown.alloc _).alloc _) ⟨wr.heap.size + 1, 0, none⟩ 1 1 [.int .i64 no, .iface t u] rfl rfl (cells_new _ _ 132 _ (by simp)) (by intro u hu; simp at hu; rcases hu with rfl | rfl <;> rfl) (by unfold maxLen; omega) (by omega) (by simp; omega) ?_; intro v' w1 hown1 hgrow1 hnil1))
        have hb1 : Below w.heap.size w w1 := ((hb.alloc hb.size _).alloc (by simp; omega) _).grown hgrow1 (by simp; omega) (fun k hk => (hown.lt k hk).1)
        have ho1 : w1.ownsRow w.heap.size 132 2 v' (ls ++ [(no, Value.iface t u)]).length (fCells (ls ++ [(no, Value.iface t u)])) := by
          rw [fCells_app]; simpa [fCells] using hown1
        obtain ⟨a2, c2, rfl⟩ : ∃ a2 c2, v' = .slice a2 (ls ++ [(no, Value.iface t u)]).length c2 := by
          rcases ho1.2 with ⟨hv, h0⟩ | ⟨g', cap', cur, hv, _⟩
          · simp at h0
          · exact ⟨_, _, hv⟩
        go_roundw
        case rel => exact ⟨k + 1, ls ++ [(no, Value.iface t u)], a2, c2, by omega, by go_num, rfl, ho1, by simp; omega, pick_in HR.out HS.out Hin.out HV.out, hb1⟩
        case measure => simp [intOf]; omega
      · have hdec : decide (no ∈ l) = false := by simpa using hin
        have Hin : Hid (no ∉ l) := hin
        clear hin
        go_wp2_with (go_at_call 114; refine (contains_any ho hn hc l no _ hbd2 HL).mono ?_; rintro e w1 ⟨rfl, hw1⟩; subst w1; rw [hdec])
        go_roundw
        case rel => exact ⟨k + 1, ls, av, c', by omega, by go_num, rfl, hown.alloc _, by omega, pick_out HR.out HS.out Hin.out, hbn⟩
        case measure => simp [intOf]; omega
    · clear hF hL
      go_wp2
      go_ret
      have h2 := HR.out
      rw [List.take_of_length_le (by omega)] at h2
      exact ⟨av, _, c', rfl, ⟨h2.length.symm, ls, CLies.owned hown, FReps.below hb (Nat.le_refl _) h2⟩, hb⟩
end Go.Proofs.YtdkcplndplhblaaGreatDoor

/- Each kind of field is put behind bytes. -/
namespace Go.Proofs.YtdkcplndplhblaaGreatDoor
open Go.RowKit
set_option maxRecDepth 100000

def txB (s : ByteArray) : List Int := be s.size 4 ++ nums s ++ List.replicate (padN s.size) 0
def dtB (d : List Int) : List Int := be d.length 4 ++ d ++ List.replicate (padN d.length) 0
def entB (e : Ent) : List Int := txB e.name ++ be (IntKind.u64.wrap e.id) 8 ++ be (IntKind.u64.wrap e.kind) 4
/-- The bytes of what stands in a field. -/
def putV : Val → List Int
  | .small x => be (IntKind.u64.wrap x) 4
  | .great x => be (IntKind.u64.wrap x) 8
  | .flag b => be (IntKind.u64.wrap (if b then 1 else 0)) 4
  | .path s => txB s
  | .name s => txB s
  | .content d => dtB d
  | .attr i k z c => be (IntKind.u64.wrap i) 8 ++ be (IntKind.u64.wrap k) 4 ++ be (IntKind.u64.wrap z) 4 ++ be (IntKind.u64.wrap c) 8
  | .entries l => be (IntKind.u64.wrap l.length) 4 ++ l.flatMap entB
theorem txB_length (s : ByteArray) : (txB s).length = 4 + s.size + padN s.size := by simp [txB, be_length, nums_length]; omega
theorem dtB_length (d : List Int) : (dtB d).length = 4 + d.length + padN d.length := by simp [dtB, be_length]; omega

/-- What a put leaves: the bytes in a new list; nothing old has turned. -/
def Laid1 (w : World) (e : Ending) (w' : World) (bs : List Int) : Prop :=
  ∃ g n cap, e = .returned (.slice (some ⟨g, 0, none⟩) n cap) ∧ Lies w' (some ⟨g, 0, none⟩) n cap bs ∧ w.heap.size ≤ g ∧ Below w.heap.size w w'
theorem Made.laid {w : World} {e : Ending} {w' : World} {n : Nat} {bs : List Int} (h : Made w e w' n bs) : Laid1 w e w' bs := by
  obtain ⟨g, cap, rfl, ho, hb⟩ := h
  exact ⟨g, n, cap, rfl, Lies.own ho, (ho.lt g rfl).1, hb⟩
theorem Laid1.as {w : World} {e : Ending} {w' : World} {bs cs : List Int} (h : Laid1 w e w' bs) (hc : bs = cs) : Laid1 w e w' cs := hc ▸ h

set_option maxHeartbeats 400000 in
theorem put32_l (ao : Option Addr) (len cap : Nat) (X : Int) (bs : List Int) (w : World) (hbd : len ≤ 140000000000000) (hL : Lies w ao len cap bs) :
    Calls Tryz.prog 192 #[.slice ao len cap, .int .i64 X] w fun e w' => Laid1 w e w' (bs ++ be (IntKind.u64.wrap X) 4) :=
  (put32_any ao len cap X bs w (by omega) hL).mono fun _ _ h => h.laid
theorem put64_l (ao : Option Addr) (len cap : Nat) (X : Int) (bs : List Int) (w : World) (hbd : len ≤ 140000000000000) (hL : Lies w ao len cap bs) :
    Calls Tryz.prog 199 #[.slice ao len cap, .int .i64 X] w fun e w' => Laid1 w e w' (bs ++ be (IntKind.u64.wrap X) 8) :=
  (put64_any ao len cap X bs w (by omega) hL).mono fun _ _ h => h.laid
theorem putText_l (ao : Option Addr) (len cap : Nat) (bs : List Int) (s : ByteArray) (w : World) (hbd : len ≤ 140000000000000) (hs : s.size ≤ 100000000) (hL : Lies w ao len cap bs) :
    Calls Tryz.prog 204 #[.slice ao len cap, .string s] w fun e w' => Laid1 w e w' (bs ++ txB s) :=
  (putText_any ao len cap bs s w (by omega) hL).mono fun _ _ h => h.laid.as (by simp [txB])
theorem putBytes_l (ao : Option Addr) (len cap : Nat) (bs : List Int) (bo : Option Addr) (dl dc : Nat) (ds : List Int) (w : World) (hbd : len ≤ 140000000000000) (hd : dl ≤ 100000000) (hL : Lies w ao len cap bs) (hD : Lies w bo dl dc ds) :
    Calls Tryz.prog 206 #[.slice ao len cap, .slice bo dl dc] w fun e w' => Laid1 w e w' (bs ++ dtB ds) :=
  (putBytes_any ao len cap bs bo dl dc ds w (by omega) hL hD).mono fun _ _ h => h.laid.as (by simp [dtB, hD.hlen])

set_option maxHeartbeats 400000 in
theorem small_put (x : Int) (ao : Option Addr) (len cap : Nat) (bs : List Int) (w : World) (hbd : len ≤ 100000000) (hL : Lies w ao len cap bs) :
    Calls Tryz.prog 190 #[.int .i64 x, .slice ao len cap] w fun e w' => Laid1 w e w' (bs ++ putV (.small x)) := by
  unfold putV
  go_enter Tryz.func190, Tryz.ntmps190
  go_wp2_with fail
  refine (put32_l ao len cap x bs _ (by omega) hL).mono ?_
  rintro e w1 ⟨g, m, k, rfl, hL1, hg, hb⟩
  go_wp2
  go_ret
  exact ⟨g, m, k, rfl, hL1, hg, hb⟩

set_option maxHeartbeats 400000 in
theorem great_put (x : Int) (ao : Option Addr) (len cap : Nat) (bs : List Int) (w : World) (hbd : len ≤ 100000000) (hL : Lies w ao len cap bs) :
    Calls Tryz.prog 197 #[.int .i64 x, .slice ao len cap] w fun e w' => Laid1 w e w' (bs ++ putV (.great x)) := by
  unfold putV
  go_enter Tryz.func197, Tryz.ntmps197
  go_wp2_with fail
  refine (put64_l ao len cap x bs _ (by omega) hL).mono ?_
  rintro e w1 ⟨g, m, k, rfl, hL1, hg, hb⟩
  go_wp2
  go_ret
  exact ⟨g, m, k, rfl, hL1, hg, hb⟩

set_option maxHeartbeats 400000 in
theorem path_put (s : ByteArray) (ao : Option Addr) (len cap : Nat) (bs : List Int) (w : World) (hbd : len ≤ 100000000) (hs : s.size ≤ 100000000) (hL : Lies w ao len cap bs) :
    Calls Tryz.prog 202 #[.string s, .slice ao len cap] w fun e w' => Laid1 w e w' (bs ++ putV (.path s)) := by
  unfold putV
  go_enter Tryz.func202, Tryz.ntmps202
  go_wp2_with fail
  refine (putText_l ao len cap bs s _ (by omega) hs hL).mono ?_
  rintro e w1 ⟨g, m, k, rfl, hL1, hg, hb⟩
  go_wp2
  go_ret
  exact ⟨g, m, k, rfl, hL1, hg, hb⟩

set_option maxHeartbeats 400000 in
theorem name_put (s : ByteArray) (ao : Option Addr) (len cap : Nat) (bs : List Int) (w : World) (hbd : len ≤ 100000000) (hs : s.size ≤ 100000000) (hL : Lies w ao len cap bs) :
    Calls Tryz.prog 210 #[.string s, .slice ao len cap] w fun e w' => Laid1 w e w' (bs ++ putV (.name s)) := by
  unfold putV
  go_enter Tryz.func210, Tryz.ntmps210
  go_wp2_with fail
  refine (putText_l ao len cap bs s _ (by omega) hs hL).mono ?_
  rintro e w1 ⟨g, m, k, rfl, hL1, hg, hb⟩
  go_wp2
  go_ret
  exact ⟨g, m, k, rfl, hL1, hg, hb⟩

set_option maxHeartbeats 400000 in
theorem content_put (bo : Option Addr) (dl dc : Nat) (ds : List Int) (ao : Option Addr) (len cap : Nat) (bs : List Int) (w : World) (hbd : len ≤ 100000000) (hd : dl ≤ 100000000) (hD : Lies w bo dl dc ds) (hL : Lies w ao len cap bs) :
    Calls Tryz.prog 212 #[.slice bo dl dc, .slice ao len cap] w fun e w' => Laid1 w e w' (bs ++ putV (.content ds)) := by
  unfold putV
  go_enter Tryz.func212, Tryz.ntmps212
  go_wp2_with fail
  refine (putBytes_l ao len cap bs bo dl dc ds _ (by omega) hd hL hD).mono ?_
  rintro e w1 ⟨g, m, k, rfl, hL1, hg, hb⟩
  go_wp2
  go_ret
  exact ⟨g, m, k, rfl, hL1, hg, hb⟩

set_option maxHeartbeats 400000 in
theorem flag_put (b : Bool) (ao : Option Addr) (len cap : Nat) (bs : List Int) (w : World) (hbd : len ≤ 100000000) (hL : Lies w ao len cap bs) :
    Calls Tryz.prog 220 #[.bool b, .slice ao len cap] w fun e w' => Laid1 w e w' (bs ++ putV (.flag b)) := by
  unfold putV
  cases b
  · go_enter Tryz.func220, Tryz.ntmps220
    go_wp2_with fail
    refine (put32_l ao len cap 0 bs _ (by omega) hL).mono ?_
    rintro e w1 ⟨g, m, k, rfl, hL1, hg, hb⟩
    go_wp2
    go_ret
    exact ⟨g, m, k, rfl, hL1, hg, hb⟩
  · go_enter Tryz.func220, Tryz.ntmps220
    go_wp2_with fail
    refine (put32_l ao len cap 1 bs _ (by omega) hL).mono ?_
    rintro e w1 ⟨g, m, k, rfl, hL1, hg, hb⟩
    go_wp2
    go_ret
    exact ⟨g, m, k, rfl, hL1, hg, hb⟩

set_option maxHeartbeats 1000000 in
theorem attr_put (i kd z c : Int) (ao : Option Addr) (len cap : Nat) (bs : List Int) (w : World) (hbd : len ≤ 100000000) (hL : Lies w ao len cap bs) :
    Calls Tryz.prog 216 #[.agg #[.int .i64 i, .int .i64 kd, .int .i64 z, .int .i64 c], .slice ao len cap] w fun e w' => Laid1 w e w' (bs ++ putV (.attr i kd z c)) := by
  unfold putV
  go_enter Tryz.func216, Tryz.ntmps216
  go_wp2_with fail
  refine (put64_l ao len cap i bs _ (by omega) (hL.boxed _)).mono ?_
  rintro e w1 ⟨g1, m1, k1, rfl, hL1, hg1, hb1⟩
  have hq : Below w.heap.size w w1 := (newBox w _).trans (hb1.mono (by simp))
  have c1 := cell_later hb1 (show (w.alloc (.cells #[.int .i64 i, .int .i64 kd, .int .i64 z, .int .i64 c] 161)).cell? ⟨w.heap.size, 1, none⟩ = some (.int .i64 kd) by simp [go_sem]) (Nat.le_refl _)
  have c2 := cell_later hb1 (show (w.alloc (.cells #[.int .i64 i, .int .i64 kd, .int .i64 z, .int .i64 c] 161)).cell? ⟨w.heap.size, 2, none⟩ = some (.int .i64 z) by simp [go_sem]) (Nat.le_refl _)
  have c3 := cell_later hb1 (show (w.alloc (.cells #[.int .i64 i, .int .i64 kd, .int .i64 z, .int .i64 c] 161)).cell? ⟨w.heap.size, 3, none⟩ = some (.int .i64 c) by simp [go_sem]) (Nat.le_refl _)
  have n1 : m1 ≤ len + 8 := by have h1 := hL1.hlen; have h2 := hL.hlen; simp [be_length] at h1; omega
  clear hb1 hL
  go_wp2_with fail
  refine (put32_l _ m1 k1 kd _ _ (by omega) hL1).mono ?_
  rintro e w2 ⟨g2, m2, k2, rfl, hL2, hg2, hb2⟩
  have hq2 := hq.trans (hb2.mono hq.size)
  have c2 := cell_later hb2 c2 (Nat.le_refl _)
  have c3 := cell_later hb2 c3 (Nat.le_refl _)
  have n2 : m2 ≤ len + 12 := by have h1 := hL2.hlen; have h2 := hL1.hlen; simp [be_length] at h1 h2; omega
  clear hb2 hL1 c1
  go_wp2_with fail
  refine (put32_l _ m2 k2 z _ _ (by omega) hL2).mono ?_
  rintro e w3 ⟨g3, m3, k3, rfl, hL3, hg3, hb3⟩
  have hq3 := hq2.trans (hb3.mono hq2.size)
  have c3 := cell_later hb3 c3 (Nat.le_refl _)
  have n3 : m3 ≤ len + 16 := by have h1 := hL3.hlen; have h2 := hL2.hlen; simp [be_length] at h1 h2; omega
  clear hb3 hL2 c2
  go_wp2_with fail
  refine (put64_l _ m3 k3 c _ _ (by omega) hL3).mono ?_
  rintro e w4 ⟨g4, m4, k4, rfl, hL4, hg4, hb4⟩
  have hq4 := hq3.trans (hb4.mono hq3.size)
  go_wp2
  go_ret
  refine ⟨g4, m4, k4, rfl, ?_, Nat.le_trans hq3.size hg4, hq4⟩
  simpa using hL4

end Go.Proofs.YtdkcplndplhblaaGreatDoor

/- A list of entries is put behind bytes. -/
namespace Go.Proofs.YtdkcplndplhblaaGreatDoor
open Go.RowKit
set_option maxRecDepth 100000

theorem entCells_get : ∀ (l : List Ent) (t : Nat) (h : t < l.length), (entCells l)[t * 3]? = some (.string l[t].name) ∧ (entCells l)[t * 3 + 1]? = some (.int .i64 l[t].id) ∧ (entCells l)[t * 3 + 2]? = some (.int .i64 l[t].kind)
  | e :: l, 0, _ => ⟨rfl, rfl, rfl⟩
  | e :: l, t + 1, h => by
    have ih := entCells_get l t (by simpa using h)
    have q : entCells (e :: l) = .string e.name :: .int .i64 e.id :: .int .i64 e.kind :: entCells l := rfl
    rw [q, show (t + 1) * 3 = t * 3 + 1 + 1 + 1 by omega]
    simpa using ih
theorem ents_at {w : World} {ao : Option Addr} {n cap : Nat} {l : List Ent} (h : CLies w ao n cap 3 (entCells l)) {t : Nat} (ht : t < l.length) :
    ∃ b o, ao = some ⟨b, o, none⟩ ∧ b < w.heap.size ∧ w.cell? ⟨b, o + t * 3, none⟩ = some (.string l[t].name) ∧ w.cell? ⟨b, o + t * 3 + 1, none⟩ = some (.int .i64 l[t].id) ∧ w.cell? ⟨b, o + t * 3 + 2, none⟩ = some (.int .i64 l[t].kind) := by
  have hlen := entCells_length l
  have hl := h.hlen
  obtain ⟨b, o, rfl, hb, hc⟩ := h.at (by omega) (by omega)
  obtain ⟨q0, q1, q2⟩ := entCells_get l t ht
  rw [List.getElem?_eq_getElem (by omega)] at q0 q1 q2
  refine ⟨b, o, rfl, hb, ?_, ?_, ?_⟩
  · rw [hc (t * 3) (by omega)]; exact q0
  · rw [Nat.add_assoc, hc (t * 3 + 1) (by omega)]; exact q1
  · rw [Nat.add_assoc, hc (t * 3 + 2) (by omega)]; exact q2

set_option maxHeartbeats 1000000 in
theorem entries_put (l : List Ent) (lo : Option Addr) (n lc : Nat) (ao : Option Addr) (len cap : Nat) (bs : List Int) (w : World) (hbd : len ≤ 100000000) (hL : Lies w ao len cap bs)
    (hE : CLies w lo n lc 3 (entCells l)) (hl : l.length = n) (hn : n ≤ 1000) (hnm : ∀ e ∈ l, e.name.size ≤ 1000) :
    Calls Tryz.prog 218 #[.slice lo n lc, .slice ao len cap] w fun e w' => Laid1 w e w' (bs ++ putV (.entries l)) := by
  have hni : (n : Int) ≤ 1000 := by omega
  go_enter Tryz.func218, Tryz.ntmps218
  go_wp2_with fail
  refine (put32_l ao len cap n bs _ (by omega) hL).mono ?_
  rintro e w1 ⟨g1, m1, k1, rfl, hL1, hg1, hb1⟩
  have n1 : m1 ≤ len + 4 := by have h1 := hL1.hlen; have h2 := hL.hlen; simp [be_length] at h1; omega
  have HL1 : Lies w1 (some ⟨g1, 0, none⟩) m1 k1 (bs ++ be (IntKind.u64.wrap (l.length : Int)) 4 ++ (l.take 0).flatMap entB) := by rw [hl]; simpa using hL1
  clear hL1 hL
  go_wp2
  go_loopw [1, 13] (fun s i wr => ∃ k g m c : Nat, k ≤ n ∧ i = .int .i64 k ∧ s = .slice (some ⟨g, 0, none⟩) m c ∧ Lies wr (some ⟨g, 0, none⟩) m c (bs ++ be (IntKind.u64.wrap (l.length : Int)) 4 ++ (l.take k).flatMap entB) ∧ m ≤ len + 4 + k * 2000 ∧ w.heap.size ≤ g ∧ Below w.heap.size w wr) (fun _ i _ => n - (intOf i).toNat)
  case atStart => exact ⟨0, g1, m1, k1, Nat.zero_le _, rfl, rfl, HL1, by omega, hg1, hb1⟩
  case round =>
    obtain ⟨k, g, m, c, hk, rfl, rfl, hLk, hm, hg, hb⟩ := hrel
    have hbs := hb.size
    by_cases hlt : k < n
    · have hki : decide ((k : Int) < (n : Int)) = true := by simpa using hlt
      obtain ⟨b', o', rfl, _, q0, q1, q2⟩ := ents_at hE (show k < l.length by omega)
      have q0 := cell_later hb q0 (Nat.le_refl _)
      have q1 := cell_later hb q1 (Nat.le_refl _)
      have q2 := cell_later hb q2 (Nat.le_refl _)
      have hst : (l.take (k + 1)).flatMap entB = (l.take k).flatMap entB ++ entB (l[k]'(by omega)) := by
        rw [List.take_succ_eq_append_getElem (by omega), List.flatMap_append]; simp
      have hsz := hnm _ (List.getElem_mem (show k < l.length by omega))
      have HS : Hid ((l.take (k + 1)).flatMap entB = (l.take k).flatMap entB ++ entB (l[k]'(by omega))) := hst
      clear hst hE hnm HL1 hb1
      generalize (l[k]'(by omega)) = x at *
      obtain ⟨nm, id, kd⟩ := x
      simp only at q0 q1 q2 hsz
      generalize bs ++ be (IntKind.u64.wrap (l.length : Int)) 4 = pre at *
      generalize (l.take k).flatMap entB = mid at *
      go_wp2_with fail
      refine (putText_l _ m c _ nm _ (by omega) (by omega) (hLk.boxed _)).mono ?_
      rintro e w2 ⟨g2, m2, c2, rfl, hL2, hg2, hb2⟩
      have hq2 : Below w.heap.size w w2 := (hb.alloc hb.size _).trans (hb2.mono (by simp; omega))
      have d1 := cell_later hb2 (show (wr.alloc (.cells #[.string nm, .int .i64 id, .int .i64 kd] 86)).cell? ⟨wr.heap.size, 1, none⟩ = some (.int .i64 id) by simp [go_sem]) (Nat.le_refl _)
      have d2 := cell_later hb2 (show (wr.alloc (.cells #[.string nm, .int .i64 id, .int .i64 kd] 86)).cell? ⟨wr.heap.size, 2, none⟩ = some (.int .i64 kd) by simp [go_sem]) (Nat.le_refl _)
      have n2 : m2 ≤ m + 1010 := by have h1 := hL2.hlen; have h2 := hLk.hlen; have h3 := txB_length nm; have h4 := padN_le nm.size; simp at h1 h2; omega
      clear hb2 hLk q0 q1 q2
      go_wp2_with fail
      refine (put64_l _ m2 c2 id _ _ (by omega) hL2).mono ?_
      rintro e w3 ⟨g3, m3, c3, rfl, hL3, hg3, hb3⟩
      have hq3 := hq2.trans (hb3.mono hq2.size)
      have d2 := cell_later hb3 d2 (Nat.le_refl _)
      have n3 : m3 ≤ m2 + 8 := by have h1 := hL3.hlen; have h2 := hL2.hlen; simp [be_length] at h1 h2; omega
      clear hb3 hL2 d1
      go_wp2_with fail
      refine (put32_l _ m3 c3 kd _ _ (by omega) hL3).mono ?_
      rintro e w4 ⟨g4, m4, c4, rfl, hL4, hg4, hb4⟩
      have hq4 := hq3.trans (hb4.mono hq3.size)
      have n4 : m4 ≤ m3 + 4 := by have h1 := hL4.hlen; have h2 := hL3.hlen; simp [be_length] at h1 h2; omega
      have hL5 : Lies w4 (some ⟨g4, 0, none⟩) m4 c4 (pre ++ (l.take (k + 1)).flatMap entB) := by
        have := HS.out
        rw [this]
        simpa [entB] using hL4
      have hg5 := Nat.le_trans hq3.size hg4
      clear hb4 hL3 hL4 d2
      go_wp2
      go_roundw
      case rel => exact ⟨k + 1, g4, m4, c4, by omega, by go_num, rfl, hL5, by omega, hg5, hq4⟩
      case measure => simp [intOf]; omega
    · clear hE hnm HL1 hb1
      have hki : decide ((k : Int) < (n : Int)) = false := by simp; omega
      go_wp2
      go_ret
      rw [List.take_of_length_le (by omega)] at hLk
      exact ⟨g, m, c, rfl, by simpa [putV] using hLk, hg, hb⟩
end Go.Proofs.YtdkcplndplhblaaGreatDoor

/- The methods that the interface value bears. -/
namespace Go.Proofs.YtdkcplndplhblaaGreatDoor
open Go.RowKit
set_option maxRecDepth 100000

theorem meth_small_put (x : Int) (w : World) : (Go.method 359 128 (.int .i64 x) "annex/msg.put").run Tryz.prog w = .ok (190, .int .i64 x) w := by kernel_rfl
theorem meth_small_take (x : Int) (w : World) : (Go.method 359 128 (.int .i64 x) "annex/msg.take").run Tryz.prog w = .ok (191, .int .i64 x) w := by kernel_rfl
theorem meth_great_put (x : Int) (w : World) : (Go.method 359 133 (.int .i64 x) "annex/msg.put").run Tryz.prog w = .ok (197, .int .i64 x) w := by kernel_rfl
theorem meth_great_take (x : Int) (w : World) : (Go.method 359 133 (.int .i64 x) "annex/msg.take").run Tryz.prog w = .ok (198, .int .i64 x) w := by kernel_rfl
theorem meth_flag_put (b : Bool) (w : World) : (Go.method 359 163 (.bool b) "annex/msg.put").run Tryz.prog w = .ok (220, .bool b) w := by kernel_rfl
theorem meth_flag_take (b : Bool) (w : World) : (Go.method 359 163 (.bool b) "annex/msg.take").run Tryz.prog w = .ok (221, .bool b) w := by kernel_rfl
theorem meth_path_put (s : ByteArray) (w : World) : (Go.method 359 155 (.string s) "annex/msg.put").run Tryz.prog w = .ok (202, .string s) w := by kernel_rfl
theorem meth_path_take (s : ByteArray) (w : World) : (Go.method 359 155 (.string s) "annex/msg.take").run Tryz.prog w = .ok (203, .string s) w := by kernel_rfl
theorem meth_name_put (s : ByteArray) (w : World) : (Go.method 359 156 (.string s) "annex/msg.put").run Tryz.prog w = .ok (210, .string s) w := by kernel_rfl
theorem meth_name_take (s : ByteArray) (w : World) : (Go.method 359 156 (.string s) "annex/msg.take").run Tryz.prog w = .ok (211, .string s) w := by kernel_rfl
theorem meth_content_put (ao : Option Addr) (n c : Nat) (w : World) : (Go.method 359 157 (.slice ao n c) "annex/msg.put").run Tryz.prog w = .ok (212, .slice ao n c) w := by kernel_rfl
theorem meth_content_take (ao : Option Addr) (n c : Nat) (w : World) : (Go.method 359 157 (.slice ao n c) "annex/msg.take").run Tryz.prog w = .ok (213, .slice ao n c) w := by kernel_rfl
theorem meth_attr_put (i k z c : Int) (w : World) : (Go.method 359 161 (.agg #[.int .i64 i, .int .i64 k, .int .i64 z, .int .i64 c]) "annex/msg.put").run Tryz.prog w = .ok (216, .agg #[.int .i64 i, .int .i64 k, .int .i64 z, .int .i64 c]) w := by kernel_rfl
theorem meth_attr_take (i k z c : Int) (w : World) : (Go.method 359 161 (.agg #[.int .i64 i, .int .i64 k, .int .i64 z, .int .i64 c]) "annex/msg.take").run Tryz.prog w = .ok (217, .agg #[.int .i64 i, .int .i64 k, .int .i64 z, .int .i64 c]) w := by kernel_rfl
theorem meth_entries_put (ao : Option Addr) (n c : Nat) (w : World) : (Go.method 359 162 (.slice ao n c) "annex/msg.put").run Tryz.prog w = .ok (218, .slice ao n c) w := by kernel_rfl
theorem meth_entries_take (ao : Option Addr) (n c : Nat) (w : World) : (Go.method 359 162 (.slice ao n c) "annex/msg.take").run Tryz.prog w = .ok (219, .slice ao n c) w := by kernel_rfl
end Go.Proofs.YtdkcplndplhblaaGreatDoor
