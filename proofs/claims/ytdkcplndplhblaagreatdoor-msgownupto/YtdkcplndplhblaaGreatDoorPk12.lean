/- What was taken is put in its place in a message. -/
import Derived.Test.YtdkcplndplhblaaGreatDoorPk11
import Derived.Test.YtdkcplndplhblaaGreatDoorPk09
import Derived.Test.YtdkcplndplhblaaGreatDoorPk10
import Derived.Deep.RegionHeld3
namespace Go.Proofs.YtdkcplndplhblaaGreatDoor
open Go.RowKit
set_option maxRecDepth 100000

theorem own_other {w w' : World} {base q : Nat} {e T : TypeId} {k : Nat} {v : Value} {n : Nat} {xs : List Value} (h : w.ownsRow base e k v n xs) (hg : w.grownBy w' (some q)) (hq : ∃ C : Array Value, w.heap[q]? = some (.cells C T (0, 0))) (he : e ≠ T) : w'.ownsRow base e k v n xs := by
  refine h.kept hg ?_
  rcases h.2 with ⟨hv, _⟩ | ⟨g', cap', cur, hv, _, hb, _⟩
  · subst hv; exact .inl rfl
  · subst hv
    refine .inr fun e' => ?_
    obtain ⟨C, hC⟩ := hq
    have : g' = q := by simpa [Value.ownBlock] using e'
    subst this
    rw [hb] at hC
    cases hC
    exact he rfl
theorem TRep.other {w w' : World} {base q : Nat} {T : TypeId} {v : Value} {x : Val} (h : TRep w base v x) (hg : w.grownBy w' (some q)) (hq : ∃ C : Array Value, w.heap[q]? = some (.cells C T (0, 0))) (h5 : 5 ≠ T) (h95 : 86 ≠ T) : TRep w' base v x := by
  cases x with
  | content d => obtain ⟨ao, n, c, rfl, hL⟩ := h; exact ⟨ao, n, c, rfl, own_other hL hg hq h5⟩
  | entries l => obtain ⟨ao, n, c, rfl, hL, hl⟩ := h; exact ⟨ao, n, c, rfl, own_other hL hg hq h95, hl⟩
  | _ => exact h
/-- A request in a block. -/
abbrev RqB (w : World) (B : Nat) (r : Req) (ao : Option Addr) (n c : Nat) : Prop := w.heap[B]? = some (.cells #[.int .i64 r.client, .int .i64 r.seq, .int .i64 r.ack, .int .i64 r.epoch, .int .i64 r.op, .int .i64 r.id, .int .i64 r.id2, .int .i64 r.off, .int .i64 r.len, .string r.path, .string r.name, .string r.name2, .slice ao n c] 24 (0, 0))
theorem RqB.c {w : World} {B : Nat} {r : Req} {ao : Option Addr} {n c : Nat} (h : RqB w B r ao n c) : RqBox w B r ao n c ∧ ∀ o, w.frozen? ⟨B, o, none⟩ = false := by
  refine ⟨⟨?_, ?_, ?_, ?_, ?_, ?_, ?_, ?_, ?_, ?_, ?_, ?_, ?_⟩, fun o => ?_⟩ <;> simp [World.cell?, World.frozen?, h]
/-- A reply in a block. -/
abbrev RpB (w : World) (B : Nat) (r : Rep) (ao : Option Addr) (n c : Nat) (lo : Option Addr) (ln lc : Nat) : Prop := w.heap[B]? = some (.cells #[.int .i64 r.client, .int .i64 r.seq, .int .i64 r.epoch, .int .i64 r.op, .int .i64 r.status, .int .i64 r.ai, .int .i64 r.ak, .int .i64 r.az, .int .i64 r.ac, .slice ao n c, .slice lo ln lc, .bool r.more] 30 (0, 0))
theorem RpB.c {w : World} {B : Nat} {r : Rep} {ao : Option Addr} {n c : Nat} {lo : Option Addr} {ln lc : Nat} (h : RpB w B r ao n c lo ln lc) : RpBox w B r ao n c lo ln lc ∧ ∀ o, w.frozen? ⟨B, o, none⟩ = false := by
  refine ⟨⟨?_, ?_, ?_, ?_, ?_, ?_, ?_, ?_, ?_, ?_, ?_, ?_⟩, fun o => ?_⟩ <;> simp [World.cell?, World.frozen?, h]

def rqSmall (r : Req) (no x : Int) : Req := if no = 0 then { r with client := x } else if no = 4 then { r with op := x } else if no = 7 then { r with off := x } else if no = 8 then { r with len := x } else r
def rqGreat (r : Req) (no x : Int) : Req := if no = 1 then { r with seq := x } else if no = 2 then { r with ack := x } else if no = 3 then { r with epoch := x } else if no = 6 then { r with id := x } else if no = 11 then { r with id2 := x } else r
/-- A field is put in its place in a request. -/
def rqPlace (r : Req) (g : Int × Val) : Req := match g.2 with
  | .small x => rqSmall r g.1 x
  | .great x => rqGreat r g.1 x
  | .path s => { r with path := s }
  | .name s => if g.1 = 12 then { r with name2 := s } else { r with name := s }
  | .content d => { r with data := d }
  | _ => r
def rpSmall (r : Rep) (no x : Int) : Rep := if no = 0 then { r with client := x } else if no = 4 then { r with op := x } else if no = 5 then { r with status := x } else r
def rpGreat (r : Rep) (no x : Int) : Rep := if no = 1 then { r with seq := x } else if no = 3 then { r with epoch := x } else r
def rpPlace (r : Rep) (g : Int × Val) : Rep := match g.2 with
  | .small x => rpSmall r g.1 x
  | .great x => rpGreat r g.1 x
  | .attr i k z c => { r with ai := i, ak := k, az := z, ac := c }
  | .content d => { r with data := d }
  | .entries l => { r with list := l }
  | .flag b => { r with more := b }
  | _ => r

set_option maxHeartbeats 2000000 in
theorem placeSmallInRequest_any (r : Req) (ao : Option Addr) (n c : Nat) (B : Nat) (no x : Int) (w : World) (h : RqB w B r ao n c) :
    Calls Tryz.prog 129 #[.pointer (some ⟨B, 0, none⟩), .int .i64 no, .int .i64 x] w fun e w' => e = .returned (.tuple #[]) ∧ RqB w' B (rqSmall r no x) ao n c ∧ w.grownBy w' (some B) := by
  obtain ⟨⟨q0, q1, q2, q3, q4, q5, q6, q7, q8, q9, q10, q11, q12⟩, qf⟩ := h.c
  have HB : Hid (RqB w B r ao n c) := h
  clear h
  by_cases h0 : no = 0
  · subst h0
    go_enter Tryz.func129, Tryz.ntmps129
    go_wp2
    first | go_end0 | refine bodyPost_ret (results_none rfl _ _ _) rfl ?_
    exact ⟨rfl, by rw [RqB, heap_setCell_same _ _ _ _ _ _ HB.out]; rfl, grown_setCell _ _ _ _⟩
  by_cases h4 : no = 4
  · subst h4
    go_enter Tryz.func129, Tryz.ntmps129
    go_wp2
    first | go_end0 | refine bodyPost_ret (results_none rfl _ _ _) rfl ?_
    exact ⟨rfl, by rw [RqB, heap_setCell_same _ _ _ _ _ _ HB.out]; rfl, grown_setCell _ _ _ _⟩
  by_cases h7 : no = 7
  · subst h7
    go_enter Tryz.func129, Tryz.ntmps129
    go_wp2
    first | go_end0 | refine bodyPost_ret (results_none rfl _ _ _) rfl ?_
    exact ⟨rfl, by rw [RqB, heap_setCell_same _ _ _ _ _ _ HB.out]; rfl, grown_setCell _ _ _ _⟩
  by_cases h8 : no = 8
  · subst h8
    go_enter Tryz.func129, Tryz.ntmps129
    go_wp2
    first | go_end0 | refine bodyPost_ret (results_none rfl _ _ _) rfl ?_
    exact ⟨rfl, by rw [RqB, heap_setCell_same _ _ _ _ _ _ HB.out]; rfl, grown_setCell _ _ _ _⟩
  go_enter Tryz.func129, Tryz.ntmps129
  go_wp2
  first | go_end0 | refine bodyPost_ret (results_none rfl _ _ _) rfl ?_
  have e : rqSmall r no x = r := by simp [rqSmall, h0, h4, h7, h8]
  exact ⟨rfl, by rw [e]; exact HB.out, ⟨rfl, rfl, rfl, Nat.le_refl _, fun _ _ _ => rfl⟩⟩

set_option maxHeartbeats 2000000 in
theorem placeGreatInRequest_any (r : Req) (ao : Option Addr) (n c : Nat) (B : Nat) (no x : Int) (w : World) (h : RqB w B r ao n c) :
    Calls Tryz.prog 130 #[.pointer (some ⟨B, 0, none⟩), .int .i64 no, .int .i64 x] w fun e w' => e = .returned (.tuple #[]) ∧ RqB w' B (rqGreat r no x) ao n c ∧ w.grownBy w' (some B) := by
  obtain ⟨⟨q0, q1, q2, q3, q4, q5, q6, q7, q8, q9, q10, q11, q12⟩, qf⟩ := h.c
  have HB : Hid (RqB w B r ao n c) := h
  clear h
  by_cases h1 : no = 1
  · subst h1
    go_enter Tryz.func130, Tryz.ntmps130
    go_wp2
    first | go_end0 | refine bodyPost_ret (results_none rfl _ _ _) rfl ?_
    exact ⟨rfl, by rw [RqB, heap_setCell_same _ _ _ _ _ _ HB.out]; rfl, grown_setCell _ _ _ _⟩
  by_cases h2 : no = 2
  · subst h2
    go_enter Tryz.func130, Tryz.ntmps130
    go_wp2
    first | go_end0 | refine bodyPost_ret (results_none rfl _ _ _) rfl ?_
    exact ⟨rfl, by rw [RqB, heap_setCell_same _ _ _ _ _ _ HB.out]; rfl, grown_setCell _ _ _ _⟩
  by_cases h3 : no = 3
  · subst h3
    go_enter Tryz.func130, Tryz.ntmps130
    go_wp2
    first | go_end0 | refine bodyPost_ret (results_none rfl _ _ _) rfl ?_
    exact ⟨rfl, by rw [RqB, heap_setCell_same _ _ _ _ _ _ HB.out]; rfl, grown_setCell _ _ _ _⟩
  by_cases h6 : no = 6
  · subst h6
    go_enter Tryz.func130, Tryz.ntmps130
    go_wp2
    first | go_end0 | refine bodyPost_ret (results_none rfl _ _ _) rfl ?_
    exact ⟨rfl, by rw [RqB, heap_setCell_same _ _ _ _ _ _ HB.out]; rfl, grown_setCell _ _ _ _⟩
  by_cases h11 : no = 11
  · subst h11
    go_enter Tryz.func130, Tryz.ntmps130
    go_wp2
    first | go_end0 | refine bodyPost_ret (results_none rfl _ _ _) rfl ?_
    exact ⟨rfl, by rw [RqB, heap_setCell_same _ _ _ _ _ _ HB.out]; rfl, grown_setCell _ _ _ _⟩
  go_enter Tryz.func130, Tryz.ntmps130
  go_wp2
  first | go_end0 | refine bodyPost_ret (results_none rfl _ _ _) rfl ?_
  have e : rqGreat r no x = r := by simp [rqGreat, h1, h2, h3, h6, h11]
  exact ⟨rfl, by rw [e]; exact HB.out, ⟨rfl, rfl, rfl, Nat.le_refl _, fun _ _ _ => rfl⟩⟩

set_option maxHeartbeats 2000000 in
theorem placeSmallInReply_any (r : Rep) (ao : Option Addr) (n c : Nat) (lo : Option Addr) (ln lc : Nat) (B : Nat) (no x : Int) (w : World) (h : RpB w B r ao n c lo ln lc) :
    Calls Tryz.prog 132 #[.pointer (some ⟨B, 0, none⟩), .int .i64 no, .int .i64 x] w fun e w' => e = .returned (.tuple #[]) ∧ RpB w' B (rpSmall r no x) ao n c lo ln lc ∧ w.grownBy w' (some B) := by
  obtain ⟨⟨q0, q1, q2, q3, q4, q5, q6, q7, q8, q9, q10, q11⟩, qf⟩ := h.c
  have HB : Hid (RpB w B r ao n c lo ln lc) := h
  clear h
  by_cases h0 : no = 0
  · subst h0
    go_enter Tryz.func132, Tryz.ntmps132
    go_wp2
    first | go_end0 | refine bodyPost_ret (results_none rfl _ _ _) rfl ?_
    exact ⟨rfl, by rw [RpB, heap_setCell_same _ _ _ _ _ _ HB.out]; rfl, grown_setCell _ _ _ _⟩
  by_cases h4 : no = 4
  · subst h4
    go_enter Tryz.func132, Tryz.ntmps132
    go_wp2
    first | go_end0 | refine bodyPost_ret (results_none rfl _ _ _) rfl ?_
    exact ⟨rfl, by rw [RpB, heap_setCell_same _ _ _ _ _ _ HB.out]; rfl, grown_setCell _ _ _ _⟩
  by_cases h5 : no = 5
  · subst h5
    go_enter Tryz.func132, Tryz.ntmps132
    go_wp2
    first | go_end0 | refine bodyPost_ret (results_none rfl _ _ _) rfl ?_
    exact ⟨rfl, by rw [RpB, heap_setCell_same _ _ _ _ _ _ HB.out]; rfl, grown_setCell _ _ _ _⟩
  go_enter Tryz.func132, Tryz.ntmps132
  go_wp2
  first | go_end0 | refine bodyPost_ret (results_none rfl _ _ _) rfl ?_
  have e : rpSmall r no x = r := by simp [rpSmall, h0, h4, h5]
  exact ⟨rfl, by rw [e]; exact HB.out, ⟨rfl, rfl, rfl, Nat.le_refl _, fun _ _ _ => rfl⟩⟩

set_option maxHeartbeats 2000000 in
theorem placeGreatInReply_any (r : Rep) (ao : Option Addr) (n c : Nat) (lo : Option Addr) (ln lc : Nat) (B : Nat) (no x : Int) (w : World) (h : RpB w B r ao n c lo ln lc) :
    Calls Tryz.prog 133 #[.pointer (some ⟨B, 0, none⟩), .int .i64 no, .int .i64 x] w fun e w' => e = .returned (.tuple #[]) ∧ RpB w' B (rpGreat r no x) ao n c lo ln lc ∧ w.grownBy w' (some B) := by
  obtain ⟨⟨q0, q1, q2, q3, q4, q5, q6, q7, q8, q9, q10, q11⟩, qf⟩ := h.c
  have HB : Hid (RpB w B r ao n c lo ln lc) := h
  clear h
  by_cases h1 : no = 1
  · subst h1
    go_enter Tryz.func133, Tryz.ntmps133
    go_wp2
    first | go_end0 | refine bodyPost_ret (results_none rfl _ _ _) rfl ?_
    exact ⟨rfl, by rw [RpB, heap_setCell_same _ _ _ _ _ _ HB.out]; rfl, grown_setCell _ _ _ _⟩
  by_cases h3 : no = 3
  · subst h3
    go_enter Tryz.func133, Tryz.ntmps133
    go_wp2
    first | go_end0 | refine bodyPost_ret (results_none rfl _ _ _) rfl ?_
    exact ⟨rfl, by rw [RpB, heap_setCell_same _ _ _ _ _ _ HB.out]; rfl, grown_setCell _ _ _ _⟩
  go_enter Tryz.func133, Tryz.ntmps133
  go_wp2
  first | go_end0 | refine bodyPost_ret (results_none rfl _ _ _) rfl ?_
  have e : rpGreat r no x = r := by simp [rpGreat, h1, h3]
  exact ⟨rfl, by rw [e]; exact HB.out, ⟨rfl, rfl, rfl, Nat.le_refl _, fun _ _ _ => rfl⟩⟩

end Go.Proofs.YtdkcplndplhblaaGreatDoor

/- placeInRequest and placeInReply by their contracts. -/
namespace Go.Proofs.YtdkcplndplhblaaGreatDoor
open Go.RowKit
set_option maxRecDepth 100000

theorem TReps.other {w w' : World} {base q : Nat} {T : TypeId} {fs : List (Int × Value)} {gs : List (Int × Val)} (h : TReps w base fs gs) (hg : w.grownBy w' (some q)) (hq : ∃ C : Array Value, w.heap[q]? = some (.cells C T (0, 0))) (h5 : 5 ≠ T) (h95 : 86 ≠ T) : TReps w' base fs gs := h.imp fun _ _ p => p.other hg hq h5 h95
theorem TLies.other {w w' : World} {base q : Nat} {T : TypeId} {ao : Option Addr} {n cap : Nat} {gs : List (Int × Val)} (h : TLies w base ao n cap gs) (hg : w.grownBy w' (some q)) (hq : ∃ C : Array Value, w.heap[q]? = some (.cells C T (0, 0))) (h5 : 5 ≠ T) (h95 : 86 ≠ T) (hne : ∀ ad, ao = some ad → q < ad.block) : TLies w' base ao n cap gs := by
  obtain ⟨fs, h1, h2⟩ := h.ex
  exact ⟨h.hlen, fs, h1.grown hg (fun ad had => by have := hne ad had; simp; omega), h2.other hg hq h5 h95⟩
theorem TLies.alloc {w w' : World} {base : Nat} {ao : Option Addr} {n cap : Nat} {gs : List (Int × Val)} (h : TLies w base ao n cap gs) (hg : w.grownBy w' none) : TLies w' base ao n cap gs := by
  obtain ⟨fs, h1, h2⟩ := h.ex
  exact ⟨h.hlen, fs, h1.grown hg (fun _ _ => by simp), h2.imp fun v x q => q.alloc hg⟩
theorem fold_take {α β : Type} (f : β → α → β) (b : β) (l : List α) {k : Nat} (h : k < l.length) : (l.take (k + 1)).foldl f b = f ((l.take k).foldl f b) l[k] := by
  rw [List.take_succ_eq_append_getElem h, List.foldl_append]; rfl

set_option maxHeartbeats 4000000 in
theorem placeInRequest_any (r : Req) (ao : Option Addr) (n c : Nat) (B base : Nat) (gs : List (Int × Val)) (to : Option Addr) (m k0 : Nat) (w : World) (h : RqB w B r ao n c) (hown : w.ownsRow base 5 1 (.slice ao n c) n (r.data.map (Value.int .u8))) (hT : TLies w base to m k0 gs) (hne : ∀ ad, to = some ad → B < ad.block) (hm : m ≤ 20) :
    Calls Tryz.prog 106 #[.pointer (some ⟨B, 0, none⟩), .slice to m k0] w fun e w' => e = .returned (.tuple #[]) ∧ (∃ ao n c, RqB w' B (gs.foldl rqPlace r) ao n c ∧ w'.ownsRow base 5 1 (.slice ao n c) n (((gs.foldl rqPlace r)).data.map (Value.int .u8))) ∧ w.grownBy w' (some B) := by
  have hmi : (m : Int) ≤ 20 := by omega
  have hgl := hT.hlen
  go_enter Tryz.func106, Tryz.ntmps106
  go_wp2
  go_loopw [13] (fun i wr => ∃ (k : Nat) (s : Req) (ao : Option Addr) (n c : Nat), k ≤ m ∧ i = .int .i64 k ∧ RqB wr B s ao n c ∧ wr.ownsRow base 5 1 (.slice ao n c) n ((s).data.map (Value.int .u8)) ∧ Hid (s = (gs.take k).foldl rqPlace r) ∧ TLies wr base to m k0 gs ∧ w.grownBy wr (some B)) (fun i _ => m - (intOf i).toNat)
  case atStart => exact ⟨0, r, ao, n, c, Nat.zero_le _, rfl, h, hown, (rfl : r = (gs.take 0).foldl rqPlace r), hT, ⟨rfl, rfl, rfl, Nat.le_refl _, fun _ _ _ => rfl⟩⟩
  case round =>
    obtain ⟨k, s, ao, n, c, hk, rfl, hB, hO, HS, hTk, hGk⟩ := hrel
    clear h hT hown
    have hgs := hGk.size
    by_cases hlt : k < m
    · have hki : decide ((k : Int) < (m : Int)) = true := by simpa using hlt
      have hkl : k < gs.length := by omega
      obtain ⟨b', o', v, rfl, _, q0, q1, hv⟩ := hTk.at hkl
      have hst := fold_take rqPlace r gs hkl
      generalize gs[k] = x at *
      obtain ⟨no, x⟩ := x
      simp only at q0 q1 hv
      have hnext : rqPlace s (no, x) = (gs.take (k + 1)).foldl rqPlace r := by rw [hst]; have := HS.out; rw [← this]
      have HN : Hid (rqPlace s (no, x) = (gs.take (k + 1)).foldl rqPlace r) := hnext
      clear hst hnext
      obtain ⟨t0, u0, rfl⟩ := hv.iface
      have hgb := World.grownBy_alloc wr (.cells #[.int .i64 no, .iface t0 u0] 132) none
      have hgbB := World.grownBy_alloc wr (.cells #[.int .i64 no, .iface t0 u0] 132) (some B)
      have hBb : RqB (wr.alloc (.cells #[.int .i64 no, .iface t0 u0] 132)) B s ao n c := (hgb.block B (lt_of_block hB) (by simp)).trans hB
      have hTb := hTk.alloc hgb
      have hvb := hv.alloc hgb
      have hOb := hO.alloc (.cells #[.int .i64 no, .iface t0 u0] 132)
      have hGb := grown_trans hGk hgbB
      clear hB hTk hO hGk hgb hgbB
      cases x with
      | small x =>
        cases hvb
        have tf0 := ta_small_small
        go_wp2_with fail
        refine (placeSmallInRequest_any s ao n c B no x _ hBb).mono ?_
        rintro e w2 ⟨rfl, hB2, hg2⟩
        go_wp2
        have hT2 := hTb.other hg2 ⟨_, hBb⟩ (by decide) (by decide) hne
        have hG2 := grown_trans hGb hg2
        have hdata : (rqSmall s no x).data = s.data := by unfold rqSmall; (repeat' split) <;> rfl
        have hO2 : w2.ownsRow base 5 1 (.slice ao n c) n ((rqSmall s no x).data.map (Value.int .u8)) := by rw [hdata]; exact own_other hOb hg2 ⟨_, hBb⟩ (by decide)
        clear hdata
        clear hBb hTb hOb  hGb q0 q1
        go_roundw
        case rel => exact ⟨k + 1, rqSmall s no x, _, _, _, by omega, by go_num, hB2, hO2, HN, hT2, hG2⟩
        case measure => simp [intOf]; omega
      | great x =>
        cases hvb
        have tf0 := ta_great_small
        have tf1 := ta_great_great
        go_wp2_with fail
        refine (placeGreatInRequest_any s ao n c B no x _ hBb).mono ?_
        rintro e w2 ⟨rfl, hB2, hg2⟩
        go_wp2
        have hT2 := hTb.other hg2 ⟨_, hBb⟩ (by decide) (by decide) hne
        have hG2 := grown_trans hGb hg2
        have hdata : (rqGreat s no x).data = s.data := by unfold rqGreat; (repeat' split) <;> rfl
        have hO2 : w2.ownsRow base 5 1 (.slice ao n c) n ((rqGreat s no x).data.map (Value.int .u8)) := by rw [hdata]; exact own_other hOb hg2 ⟨_, hBb⟩ (by decide)
        clear hdata
        clear hBb hTb hOb  hGb q0 q1
        go_roundw
        case rel => exact ⟨k + 1, rqGreat s no x, _, _, _, by omega, by go_num, hB2, hO2, HN, hT2, hG2⟩
        case measure => simp [intOf]; omega
      | path t =>
        cases hvb
        have tf0 := ta_path_small
        have tf1 := ta_path_great
        have tf2 := ta_path_path
        obtain ⟨⟨q10, q11, q12, q13, q14, q15, q16, q17, q18, q19, q20, q21, q22⟩, qf⟩ := hBb.c
        go_wp2
        have hg2 := grown_setCell (wr.alloc (.cells #[.int .i64 no, .iface 155 (.string t)] 132)) B 9 (.string t)
        have hB2 : RqB ((wr.alloc (.cells #[.int .i64 no, .iface 155 (.string t)] 132)).setCell ⟨B, 9, none⟩ (.string t)) B ({ s with path := t } : Req) ao n c := by rw [RqB, heap_setCell_same _ _ _ _ _ _ hBb]; rfl
        have hT2 := hTb.other hg2 ⟨_, hBb⟩ (by decide) (by decide) hne
        have hG2 := grown_trans hGb hg2
        have hO2 := own_other hOb hg2 ⟨_, hBb⟩ (by decide)
        clear hBb hTb hOb hGb q0 q1 q10 q11 q12 q13 q14 q15 q16 q17 q18 q19 q20 q21 q22 qf
        go_roundw
        case rel => exact ⟨k + 1, { s with path := t }, ao, n, c, by omega, by go_num, hB2, hO2, HN, hT2, hG2⟩
        case measure => simp [intOf]; omega
      | name t =>
        cases hvb
        have tf0 := ta_name_small
        have tf1 := ta_name_great
        have tf2 := ta_name_path
        have tf3 := ta_name_name
        obtain ⟨⟨q10, q11, q12, q13, q14, q15, q16, q17, q18, q19, q20, q21, q22⟩, qf⟩ := hBb.c
        by_cases h12 : no = 12
        · subst h12
          go_wp2
          have hg2 := grown_setCell (wr.alloc (.cells #[.int .i64 12, .iface 156 (.string t)] 132)) B 11 (.string t)
          have hB2 : RqB ((wr.alloc (.cells #[.int .i64 12, .iface 156 (.string t)] 132)).setCell ⟨B, 11, none⟩ (.string t)) B ({ s with name2 := t } : Req) ao n c := by rw [RqB, heap_setCell_same _ _ _ _ _ _ hBb]; rfl
          have hT2 := hTb.other hg2 ⟨_, hBb⟩ (by decide) (by decide) hne
          have hG2 := grown_trans hGb hg2
          have hO2 := own_other hOb hg2 ⟨_, hBb⟩ (by decide)
          clear hBb hTb hOb hGb q0 q1 q10 q11 q12 q13 q14 q15 q16 q17 q18 q19 q20 q21 q22 qf
          go_roundw
          case rel => exact ⟨k + 1, { s with name2 := t }, ao, n, c, by omega, by go_num, hB2, hO2, HN, hT2, hG2⟩
          case measure => simp [intOf]; omega
        · have HN2 : Hid ({ s with name := t } = (gs.take (k + 1)).foldl rqPlace r) := by have h1 := HN.out; simp only [rqPlace, if_neg h12] at h1; exact h1
          go_wp2
          have hg2 := grown_setCell (wr.alloc (.cells #[.int .i64 no, .iface 156 (.string t)] 132)) B 10 (.string t)
          have hB2 : RqB ((wr.alloc (.cells #[.int .i64 no, .iface 156 (.string t)] 132)).setCell ⟨B, 10, none⟩ (.string t)) B ({ s with name := t } : Req) ao n c := by rw [RqB, heap_setCell_same _ _ _ _ _ _ hBb]; rfl
          have hT2 := hTb.other hg2 ⟨_, hBb⟩ (by decide) (by decide) hne
          have hG2 := grown_trans hGb hg2
          have hO2 := own_other hOb hg2 ⟨_, hBb⟩ (by decide)
          clear hBb hTb hOb hGb q0 q1 q10 q11 q12 q13 q14 q15 q16 q17 q18 q19 q20 q21 q22 qf
          go_roundw
          case rel => exact ⟨k + 1, { s with name := t }, ao, n, c, by omega, by go_num, hB2, hO2, HN2, hT2, hG2⟩
          case measure => simp [intOf]; omega
      | content d =>
        obtain ⟨da, dn, dc, hvv, hD⟩ := hvb
        cases hvv
        have tf0 := ta_content_small
        have tf1 := ta_content_great
        have tf2 := ta_content_path
        have tf3 := ta_content_name
        have tf4 := ta_content_content
        obtain ⟨⟨q10, q11, q12, q13, q14, q15, q16, q17, q18, q19, q20, q21, q22⟩, qf⟩ := hBb.c
        go_wp2
        have hg2 := grown_setCell (wr.alloc (.cells #[.int .i64 no, .iface 157 (.slice da dn dc)] 132)) B 12 (.slice da dn dc)
        have hB2 : RqB ((wr.alloc (.cells #[.int .i64 no, .iface 157 (.slice da dn dc)] 132)).setCell ⟨B, 12, none⟩ (.slice da dn dc)) B ({ s with data := d } : Req) da dn dc := by rw [RqB, heap_setCell_same _ _ _ _ _ _ hBb]; rfl
        have hT2 := hTb.other hg2 ⟨_, hBb⟩ (by decide) (by decide) hne
        have hG2 := grown_trans hGb hg2
        have hO2 := own_other hD hg2 ⟨_, hBb⟩ (by decide)
        clear hBb hTb hOb hGb q0 q1 q10 q11 q12 q13 q14 q15 q16 q17 q18 q19 q20 q21 q22 qf hD
        go_roundw
        case rel => exact ⟨k + 1, { s with data := d }, da, dn, dc, by omega, by go_num, hB2, hO2, HN, hT2, hG2⟩
        case measure => simp [intOf]; omega
      | flag b =>
        cases hvb
        have tf0 := ta_flag_small
        have tf1 := ta_flag_great
        have tf2 := ta_flag_path
        have tf3 := ta_flag_name
        have tf4 := ta_flag_content
        go_wp2
        clear q0 q1
        go_roundw
        case rel => exact ⟨k + 1, s, ao, n, c, by omega, by go_num, hBb, hOb, HN, hTb, hGb⟩
        case measure => simp [intOf]; omega
      | attr i kd z cg =>
        cases hvb
        have tf0 := ta_attr_small
        have tf1 := ta_attr_great
        have tf2 := ta_attr_path
        have tf3 := ta_attr_name
        have tf4 := ta_attr_content
        go_wp2
        clear q0 q1
        go_roundw
        case rel => exact ⟨k + 1, s, ao, n, c, by omega, by go_num, hBb, hOb, HN, hTb, hGb⟩
        case measure => simp [intOf]; omega
      | entries l =>
        obtain ⟨da, dn, dc, hvv, hD, hdl⟩ := hvb
        cases hvv
        clear hdl hD
        have tf0 := ta_entries_small
        have tf1 := ta_entries_great
        have tf2 := ta_entries_path
        have tf3 := ta_entries_name
        have tf4 := ta_entries_content
        go_wp2
        clear q0 q1
        go_roundw
        case rel => exact ⟨k + 1, s, ao, n, c, by omega, by go_num, hBb, hOb, HN, hTb, hGb⟩
        case measure => simp [intOf]; omega
    · have hki : decide ((k : Int) < (m : Int)) = false := by simp; omega
      go_wp2
      first | go_end0 | refine bodyPost_ret (results_none rfl _ _ _) rfl ?_
      have h2 := HS.out
      rw [List.take_of_length_le (by omega)] at h2
      subst h2
      exact ⟨rfl, ⟨ao, n, c, hB, hO⟩, hGk⟩

end Go.Proofs.YtdkcplndplhblaaGreatDoor

/- placeInRequest and placeInReply by their contracts. -/
namespace Go.Proofs.YtdkcplndplhblaaGreatDoor
open Go.RowKit
set_option maxRecDepth 100000

set_option maxHeartbeats 4000000 in
theorem placeInReply_any (r : Rep) (ao : Option Addr) (n c : Nat) (lo : Option Addr) (ln lc : Nat) (B base : Nat) (gs : List (Int × Val)) (to : Option Addr) (m k0 : Nat) (w : World) (h : RpB w B r ao n c lo ln lc) (hown : w.ownsRow base 5 1 (.slice ao n c) n (r.data.map (Value.int .u8))) (hownL : w.ownsRow base 86 3 (.slice lo ln lc) ln (entCells r.list)) (hell : r.list.length = ln) (hT : TLies w base to m k0 gs) (hne : ∀ ad, to = some ad → B < ad.block) (hm : m ≤ 20) :
    Calls Tryz.prog 113 #[.pointer (some ⟨B, 0, none⟩), .slice to m k0] w fun e w' => e = .returned (.tuple #[]) ∧ (∃ ao n c lo ln lc, RpB w' B (gs.foldl rpPlace r) ao n c lo ln lc ∧ (w'.ownsRow base 5 1 (.slice ao n c) n (((gs.foldl rpPlace r)).data.map (Value.int .u8)) ∧ w'.ownsRow base 86 3 (.slice lo ln lc) ln (entCells ((gs.foldl rpPlace r)).list) ∧ ((gs.foldl rpPlace r)).list.length = ln)) ∧ w.grownBy w' (some B) := by
  have hmi : (m : Int) ≤ 20 := by omega
  have hgl := hT.hlen
  go_enter Tryz.func113, Tryz.ntmps113
  go_wp2
  go_loopw [14] (fun i wr => ∃ (k : Nat) (s : Rep) (ao : Option Addr) (n c : Nat) (lo : Option Addr) (ln lc : Nat), k ≤ m ∧ i = .int .i64 k ∧ RpB wr B s ao n c lo ln lc ∧ (wr.ownsRow base 5 1 (.slice ao n c) n ((s).data.map (Value.int .u8)) ∧ wr.ownsRow base 86 3 (.slice lo ln lc) ln (entCells (s).list) ∧ (s).list.length = ln) ∧ Hid (s = (gs.take k).foldl rpPlace r) ∧ TLies wr base to m k0 gs ∧ w.grownBy wr (some B)) (fun i _ => m - (intOf i).toNat)
  case atStart => exact ⟨0, r, ao, n, c, lo, ln, lc, Nat.zero_le _, rfl, h, ⟨hown, hownL, hell⟩, (rfl : r = (gs.take 0).foldl rpPlace r), hT, ⟨rfl, rfl, rfl, Nat.le_refl _, fun _ _ _ => rfl⟩⟩
  case round =>
    obtain ⟨k, s, ao, n, c, lo, ln, lc, hk, rfl, hB, ⟨hO, hOL, hll⟩, HS, hTk, hGk⟩ := hrel
    clear h hT hown hownL hell
    have hgs := hGk.size
    by_cases hlt : k < m
    · have hki : decide ((k : Int) < (m : Int)) = true := by simpa using hlt
      have hkl : k < gs.length := by omega
      obtain ⟨b', o', v, rfl, _, q0, q1, hv⟩ := hTk.at hkl
      have hst := fold_take rpPlace r gs hkl
      generalize gs[k] = x at *
      obtain ⟨no, x⟩ := x
      simp only at q0 q1 hv
      have hnext : rpPlace s (no, x) = (gs.take (k + 1)).foldl rpPlace r := by rw [hst]; have := HS.out; rw [← this]
      have HN : Hid (rpPlace s (no, x) = (gs.take (k + 1)).foldl rpPlace r) := hnext
      clear hst hnext
      obtain ⟨t0, u0, rfl⟩ := hv.iface
      have hgb := World.grownBy_alloc wr (.cells #[.int .i64 no, .iface t0 u0] 132) none
      have hgbB := World.grownBy_alloc wr (.cells #[.int .i64 no, .iface t0 u0] 132) (some B)
      have hBb : RpB (wr.alloc (.cells #[.int .i64 no, .iface t0 u0] 132)) B s ao n c lo ln lc := (hgb.block B (lt_of_block hB) (by simp)).trans hB
      have hTb := hTk.alloc hgb
      have hvb := hv.alloc hgb
      have hOb := hO.alloc (.cells #[.int .i64 no, .iface t0 u0] 132)
      have hOLb := hOL.alloc (.cells #[.int .i64 no, .iface t0 u0] 132)
      have HLL : Hid (s.list.length = ln) := hll
      have hGb := grown_trans hGk hgbB
      clear hB hTk hO hOL hll hGk hgb hgbB
      cases x with
      | small x =>
        cases hvb
        have tf0 := ta_small_small
        go_wp2_with fail
        refine (placeSmallInReply_any s ao n c lo ln lc B no x _ hBb).mono ?_
        rintro e w2 ⟨rfl, hB2, hg2⟩
        go_wp2
        have hT2 := hTb.other hg2 ⟨_, hBb⟩ (by decide) (by decide) hne
        have hG2 := grown_trans hGb hg2
        have hdata : (rpSmall s no x).data = s.data := by unfold rpSmall; (repeat' split) <;> rfl
        have hlist : (rpSmall s no x).list = s.list := by unfold rpSmall; (repeat' split) <;> rfl
        have hO2 : w2.ownsRow base 5 1 (.slice ao n c) n ((rpSmall s no x).data.map (Value.int .u8)) := by rw [hdata]; exact own_other hOb hg2 ⟨_, hBb⟩ (by decide)
        have hOL2 : w2.ownsRow base 86 3 (.slice lo ln lc) ln (entCells (rpSmall s no x).list) := by rw [hlist]; exact own_other hOLb hg2 ⟨_, hBb⟩ (by decide)
        have HLL2 : Hid ((rpSmall s no x).list.length = ln) := by rw [hlist]; exact HLL
        clear hdata hlist
        clear hBb hTb hOb hOLb hGb q0 q1
        go_roundw
        case rel => exact ⟨k + 1, rpSmall s no x, _, _, _, _, _, _, by omega, by go_num, hB2, ⟨hO2, hOL2, HLL2.out⟩, HN, hT2, hG2⟩
        case measure => simp [intOf]; omega
      | great x =>
        cases hvb
        have tf0 := ta_great_small
        have tf1 := ta_great_great
        go_wp2_with fail
        refine (placeGreatInReply_any s ao n c lo ln lc B no x _ hBb).mono ?_
        rintro e w2 ⟨rfl, hB2, hg2⟩
        go_wp2
        have hT2 := hTb.other hg2 ⟨_, hBb⟩ (by decide) (by decide) hne
        have hG2 := grown_trans hGb hg2
        have hdata : (rpGreat s no x).data = s.data := by unfold rpGreat; (repeat' split) <;> rfl
        have hlist : (rpGreat s no x).list = s.list := by unfold rpGreat; (repeat' split) <;> rfl
        have hO2 : w2.ownsRow base 5 1 (.slice ao n c) n ((rpGreat s no x).data.map (Value.int .u8)) := by rw [hdata]; exact own_other hOb hg2 ⟨_, hBb⟩ (by decide)
        have hOL2 : w2.ownsRow base 86 3 (.slice lo ln lc) ln (entCells (rpGreat s no x).list) := by rw [hlist]; exact own_other hOLb hg2 ⟨_, hBb⟩ (by decide)
        have HLL2 : Hid ((rpGreat s no x).list.length = ln) := by rw [hlist]; exact HLL
        clear hdata hlist
        clear hBb hTb hOb hOLb hGb q0 q1
        go_roundw
        case rel => exact ⟨k + 1, rpGreat s no x, _, _, _, _, _, _, by omega, by go_num, hB2, ⟨hO2, hOL2, HLL2.out⟩, HN, hT2, hG2⟩
        case measure => simp [intOf]; omega
      | attr i kd z cg =>
        cases hvb
        have hgc := World.grownBy_alloc (wr.alloc (.cells #[.int .i64 no, .iface 161 (.agg #[.int .i64 i, .int .i64 kd, .int .i64 z, .int .i64 cg])] 132)) (.cells #[.int .i64 i, .int .i64 kd, .int .i64 z, .int .i64 cg] 161) none
        have hgcB := World.grownBy_alloc (wr.alloc (.cells #[.int .i64 no, .iface 161 (.agg #[.int .i64 i, .int .i64 kd, .int .i64 z, .int .i64 cg])] 132)) (.cells #[.int .i64 i, .int .i64 kd, .int .i64 z, .int .i64 cg] 161) (some B)
        have hBb2 : RpB ((wr.alloc (.cells #[.int .i64 no, .iface 161 (.agg #[.int .i64 i, .int .i64 kd, .int .i64 z, .int .i64 cg])] 132)).alloc (.cells #[.int .i64 i, .int .i64 kd, .int .i64 z, .int .i64 cg] 161)) B s ao n c lo ln lc := (hgc.block B (lt_of_block hBb) (by simp)).trans hBb
        replace hTb := hTb.alloc hgc
        replace hOb := hOb.alloc (.cells #[.int .i64 i, .int .i64 kd, .int .i64 z, .int .i64 cg] 161)
        replace hOLb := hOLb.alloc (.cells #[.int .i64 i, .int .i64 kd, .int .i64 z, .int .i64 cg] 161)
        replace hGb := grown_trans hGb hgcB
        clear hBb hgc hgcB
        have hBb := hBb2
        clear hBb2
        have tf0 := ta_attr_small
        have tf1 := ta_attr_great
        have tf2 := ta_attr_attr
        obtain ⟨⟨q10, q11, q12, q13, q14, q15, q16, q17, q18, q19, q20, q21⟩, qf⟩ := hBb.c
        go_wp2
        have hg2 : ((wr.alloc (.cells #[.int .i64 no, .iface 161 (.agg #[.int .i64 i, .int .i64 kd, .int .i64 z, .int .i64 cg])] 132)).alloc (.cells #[.int .i64 i, .int .i64 kd, .int .i64 z, .int .i64 cg] 161)).grownBy ((((((wr.alloc (.cells #[.int .i64 no, .iface 161 (.agg #[.int .i64 i, .int .i64 kd, .int .i64 z, .int .i64 cg])] 132)).alloc (.cells #[.int .i64 i, .int .i64 kd, .int .i64 z, .int .i64 cg] 161)).setCell ⟨B, 5, none⟩ (.int .i64 i)).setCell ⟨B, 6, none⟩ (.int .i64 kd)).setCell ⟨B, 7, none⟩ (.int .i64 z)).setCell ⟨B, 8, none⟩ (.int .i64 cg)) (some B) := grown_trans (grown_trans (grown_trans (grown_setCell ((wr.alloc (.cells #[.int .i64 no, .iface 161 (.agg #[.int .i64 i, .int .i64 kd, .int .i64 z, .int .i64 cg])] 132)).alloc (.cells #[.int .i64 i, .int .i64 kd, .int .i64 z, .int .i64 cg] 161)) B 5 (.int .i64 i)) (grown_setCell _ B 6 (.int .i64 kd))) (grown_setCell _ B 7 (.int .i64 z))) (grown_setCell _ B 8 (.int .i64 cg))
        have hB2 : RpB ((((((wr.alloc (.cells #[.int .i64 no, .iface 161 (.agg #[.int .i64 i, .int .i64 kd, .int .i64 z, .int .i64 cg])] 132)).alloc (.cells #[.int .i64 i, .int .i64 kd, .int .i64 z, .int .i64 cg] 161)).setCell ⟨B, 5, none⟩ (.int .i64 i)).setCell ⟨B, 6, none⟩ (.int .i64 kd)).setCell ⟨B, 7, none⟩ (.int .i64 z)).setCell ⟨B, 8, none⟩ (.int .i64 cg)) B ({ s with ai := i, ak := kd, az := z, ac := cg } : Rep) ao n c lo ln lc := by rw [RpB, heap_setCell_same _ _ _ _ _ _ (heap_setCell_same _ _ _ _ _ _ (heap_setCell_same _ _ _ _ _ _ (heap_setCell_same _ _ _ _ _ _ hBb)))]; rfl
        have hT2 := hTb.other hg2 ⟨_, hBb⟩ (by decide) (by decide) hne
        have hG2 := grown_trans hGb hg2
        have hO2 := own_other hOb hg2 ⟨_, hBb⟩ (by decide)
        have hOL2 := own_other hOLb hg2 ⟨_, hBb⟩ (by decide)
        have HLL2 := HLL
        clear hBb hTb hOb hOLb hGb q0 q1 q10 q11 q12 q13 q14 q15 q16 q17 q18 q19 q20 q21 qf
        go_roundw
        case rel => exact ⟨k + 1, { s with ai := i, ak := kd, az := z, ac := cg }, ao, n, c, lo, ln, lc, by omega, by go_num, hB2, ⟨hO2, hOL2, HLL2.out⟩, HN, hT2, hG2⟩
        case measure => simp [intOf]; omega
      | content d =>
        obtain ⟨da, dn, dc, hvv, hD⟩ := hvb
        cases hvv
        have tf0 := ta_content_small
        have tf1 := ta_content_great
        have tf2 := ta_content_attr
        have tf3 := ta_content_content
        obtain ⟨⟨q10, q11, q12, q13, q14, q15, q16, q17, q18, q19, q20, q21⟩, qf⟩ := hBb.c
        go_wp2
        have hg2 := grown_setCell (wr.alloc (.cells #[.int .i64 no, .iface 157 (.slice da dn dc)] 132)) B 9 (.slice da dn dc)
        have hB2 : RpB ((wr.alloc (.cells #[.int .i64 no, .iface 157 (.slice da dn dc)] 132)).setCell ⟨B, 9, none⟩ (.slice da dn dc)) B ({ s with data := d } : Rep) da dn dc lo ln lc := by rw [RpB, heap_setCell_same _ _ _ _ _ _ hBb]; rfl
        have hT2 := hTb.other hg2 ⟨_, hBb⟩ (by decide) (by decide) hne
        have hG2 := grown_trans hGb hg2
        have hO2 := own_other hD hg2 ⟨_, hBb⟩ (by decide)
        have hOL2 := own_other hOLb hg2 ⟨_, hBb⟩ (by decide)
        have HLL2 := HLL
        clear hBb hTb hOb hOLb hGb q0 q1 q10 q11 q12 q13 q14 q15 q16 q17 q18 q19 q20 q21 qf hD
        go_roundw
        case rel => exact ⟨k + 1, { s with data := d }, da, dn, dc, lo, ln, lc, by omega, by go_num, hB2, ⟨hO2, hOL2, HLL2.out⟩, HN, hT2, hG2⟩
        case measure => simp [intOf]; omega
      | entries l =>
        obtain ⟨da, dn, dc, hvv, hD, hdl⟩ := hvb
        cases hvv
        have HDL : Hid (l.length = dn) := hdl
        clear hdl
        have tf0 := ta_entries_small
        have tf1 := ta_entries_great
        have tf2 := ta_entries_attr
        have tf3 := ta_entries_content
        have tf4 := ta_entries_entries
        obtain ⟨⟨q10, q11, q12, q13, q14, q15, q16, q17, q18, q19, q20, q21⟩, qf⟩ := hBb.c
        go_wp2
        have hg2 := grown_setCell (wr.alloc (.cells #[.int .i64 no, .iface 162 (.slice da dn dc)] 132)) B 10 (.slice da dn dc)
        have hB2 : RpB ((wr.alloc (.cells #[.int .i64 no, .iface 162 (.slice da dn dc)] 132)).setCell ⟨B, 10, none⟩ (.slice da dn dc)) B ({ s with list := l } : Rep) ao n c da dn dc := by rw [RpB, heap_setCell_same _ _ _ _ _ _ hBb]; rfl
        have hT2 := hTb.other hg2 ⟨_, hBb⟩ (by decide) (by decide) hne
        have hG2 := grown_trans hGb hg2
        have hO2 := own_other hOb hg2 ⟨_, hBb⟩ (by decide)
        have hOL2 := own_other hD hg2 ⟨_, hBb⟩ (by decide)
        have HLL2 := HDL
        clear hBb hTb hOb hOLb hGb q0 q1 q10 q11 q12 q13 q14 q15 q16 q17 q18 q19 q20 q21 qf hD
        go_roundw
        case rel => exact ⟨k + 1, { s with list := l }, ao, n, c, da, dn, dc, by omega, by go_num, hB2, ⟨hO2, hOL2, HLL2.out⟩, HN, hT2, hG2⟩
        case measure => simp [intOf]; omega
      | flag b =>
        cases hvb
        have tf0 := ta_flag_small
        have tf1 := ta_flag_great
        have tf2 := ta_flag_attr
        have tf3 := ta_flag_content
        have tf4 := ta_flag_entries
        have tf5 := ta_flag_flag
        obtain ⟨⟨q10, q11, q12, q13, q14, q15, q16, q17, q18, q19, q20, q21⟩, qf⟩ := hBb.c
        go_wp2
        have hg2 := grown_setCell (wr.alloc (.cells #[.int .i64 no, .iface 163 (.bool b)] 132)) B 11 (.bool b)
        have hB2 : RpB ((wr.alloc (.cells #[.int .i64 no, .iface 163 (.bool b)] 132)).setCell ⟨B, 11, none⟩ (.bool b)) B ({ s with more := b } : Rep) ao n c lo ln lc := by rw [RpB, heap_setCell_same _ _ _ _ _ _ hBb]; rfl
        have hT2 := hTb.other hg2 ⟨_, hBb⟩ (by decide) (by decide) hne
        have hG2 := grown_trans hGb hg2
        have hO2 := own_other hOb hg2 ⟨_, hBb⟩ (by decide)
        have hOL2 := own_other hOLb hg2 ⟨_, hBb⟩ (by decide)
        have HLL2 := HLL
        clear hBb hTb hOb hOLb hGb q0 q1 q10 q11 q12 q13 q14 q15 q16 q17 q18 q19 q20 q21 qf
        go_roundw
        case rel => exact ⟨k + 1, { s with more := b }, ao, n, c, lo, ln, lc, by omega, by go_num, hB2, ⟨hO2, hOL2, HLL2.out⟩, HN, hT2, hG2⟩
        case measure => simp [intOf]; omega
      | path t =>
        cases hvb
        have tf0 := ta_path_small
        have tf1 := ta_path_great
        have tf2 := ta_path_attr
        have tf3 := ta_path_content
        have tf4 := ta_path_entries
        have tf5 := ta_path_flag
        go_wp2
        clear q0 q1
        go_roundw
        case rel => exact ⟨k + 1, s, ao, n, c, lo, ln, lc, by omega, by go_num, hBb, ⟨hOb, hOLb, HLL.out⟩, HN, hTb, hGb⟩
        case measure => simp [intOf]; omega
      | name t =>
        cases hvb
        have tf0 := ta_name_small
        have tf1 := ta_name_great
        have tf2 := ta_name_attr
        have tf3 := ta_name_content
        have tf4 := ta_name_entries
        have tf5 := ta_name_flag
        go_wp2
        clear q0 q1
        go_roundw
        case rel => exact ⟨k + 1, s, ao, n, c, lo, ln, lc, by omega, by go_num, hBb, ⟨hOb, hOLb, HLL.out⟩, HN, hTb, hGb⟩
        case measure => simp [intOf]; omega
    · have hki : decide ((k : Int) < (m : Int)) = false := by simp; omega
      go_wp2
      first | go_end0 | refine bodyPost_ret (results_none rfl _ _ _) rfl ?_
      have h2 := HS.out
      rw [List.take_of_length_le (by omega)] at h2
      subst h2
      exact ⟨rfl, ⟨ao, n, c, lo, ln, lc, hB, hO, hOL, hll⟩, hGk⟩

end Go.Proofs.YtdkcplndplhblaaGreatDoor

/- begins, summed, open and Kind by their contracts. -/
namespace Go.Proofs.YtdkcplndplhblaaGreatDoor
open Go.RowKit
set_option maxRecDepth 100000

/-- The bytes begin with these four. -/
def begB (mg bs : List Int) : Bool := decide (bs.take 4 = mg)

theorem txt_eq {l : List Int} (hl : Bys l) (s : ByteArray) : ((txt l).toList == s.toList) = decide (l = nums s) := by
  by_cases h : l = nums s
  · subst h
    have : txt (nums s) = s := by
      apply N3.bs_inj
      simp only [txt, nums, N3.bs, List.map_map]
      conv => rhs; rw [← List.map_id s.data.toList]
      apply List.map_congr_left
      intro b _
      simp
    rw [this]; simp
  · have h2 : ¬ (txt l).toList = s.toList := by
      intro e
      apply h
      have e2 : txt l = s := by
        apply N3.bs_inj
        rw [ByteArray.toList_eq, ByteArray.toList_eq] at e
        exact e
      rw [← e2, nums_txt l hl]
    have h3 : ((txt l).toList == s.toList) = false := by simpa using h2
    rw [h3]; exact (decide_eq_false h).symm

theorem Lies.pre {w : World} {ao : Option Addr} {n c : Nat} {bs : List Int} (h : Lies w ao n c bs) {k : Nat} (hk : k ≤ n) : Lies w ao k c (bs.take k) := by
  refine ⟨by have := h.hlen; simp; omega, Nat.le_trans hk h.hle, fun hn => ?_, fun ad had t u hu => ?_⟩
  · have := h.hnone hn; omega
  · refine h.hcells ad had t u ?_
    rw [List.map_take, List.getElem?_take] at hu
    by_cases ht : t < k
    · rw [if_pos ht] at hu; exact hu
    · rw [if_neg ht] at hu; cases hu
theorem Lies.mid {w : World} {b o n c : Nat} {bs : List Int} (h : Lies w (some ⟨b, o, none⟩) n c bs) {p k : Nat} (hk : p + k ≤ n) : Lies w (some ⟨b, o + p, none⟩) k (c - p) ((bs.drop p).take k) := by
  have hl := h.hlen
  have hle := h.hle
  refine ⟨by simp; omega, by omega, (fun h => by cases h), fun ad had t u hu => ?_⟩
  obtain rfl := Option.some.inj had
  have ht : t < k := by
    have := (List.getElem?_eq_some_iff.1 hu).1
    simp at this; omega
  have h2 := h.hcells _ rfl (p + t) u (by rw [← hu, List.getElem?_map, List.getElem?_map, List.getElem?_take, if_pos ht, List.getElem?_drop])
  rw [Addr.add_lit] at h2 ⊢
  rwa [Nat.add_assoc]
theorem take_bys {bs : List Int} (h : Bys bs) (k : Nat) : Bys (bs.take k) := fun x hx => h x (List.mem_of_mem_take hx)
theorem drop_bys {bs : List Int} (h : Bys bs) (k : Nat) : Bys (bs.drop k) := fun x hx => h x (List.mem_of_mem_drop hx)

set_option maxHeartbeats 1000000 in
theorem begins_short (s : ByteArray) (ao : Option Addr) (n c : Nat) (w : World) (hn : n < 4) :
    Calls Tryz.prog 77 #[.string s, .slice ao n c] w fun e w' => e = .returned (.bool false) ∧ w' = w := by
  have hni : decide ((4 : Int) ≤ (n : Int)) = false := by simp; omega
  go_enter Tryz.func77, Tryz.ntmps77
  go_wp2
  go_ret
  exact ⟨rfl, rfl⟩
set_option maxHeartbeats 1000000 in
theorem begins_long (s : ByteArray) (b o n c : Nat) (bs : List Int) (w : World) (hn : 4 ≤ n) (hL : Lies w (some ⟨b, o, none⟩) n c bs) (hby : Bys bs) :
    Calls Tryz.prog 77 #[.string s, .slice (some ⟨b, o, none⟩) n c] w fun e w' => e = .returned (.bool (decide (bs.take 4 = nums s))) ∧ w' = w := by
  have hni : decide ((4 : Int) ≤ (n : Int)) = true := by simp; omega
  have hle := hL.hle
  have h4c : 4 ≤ c := by omega
  have hcv := run_string_of w ⟨b, o, none⟩ 4 c (bs.take 4) (hL.pre hn)
  have HE : Hid (((txt (bs.take 4)).toList == s.toList) = decide (bs.take 4 = nums s)) := txt_eq (take_bys hby 4) s
  go_enter Tryz.func77, Tryz.ntmps77
  go_wp2
  go_ret
  exact ⟨ret_b HE.out, rfl⟩
/-- begins, of any bytes. -/
theorem begins_any (s : ByteArray) (ao : Option Addr) (n c : Nat) (bs : List Int) (w : World) (hs : s.size = 4) (hL : Lies w ao n c bs) (hby : Bys bs) :
    Calls Tryz.prog 77 #[.string s, .slice ao n c] w fun e w' => e = .returned (.bool (decide (bs.take 4 = nums s))) ∧ w' = w := by
  by_cases hn : n < 4
  · refine (begins_short s ao n c w hn).mono ?_
    rintro e w' ⟨rfl, rfl⟩
    have : ¬ bs.take 4 = nums s := fun e => by
      have h1 := congrArg List.length e
      rw [nums_length, hs] at h1
      have h2 := hL.hlen
      simp at h1; omega
    exact ⟨ret_b (decide_eq_false this).symm, rfl⟩
  · obtain ⟨b, o, rfl, _⟩ := hL.at (by omega)
    exact begins_long s b o n c bs w (by omega) hL hby

set_option maxHeartbeats 1000000 in
theorem kind_any (ao : Option Addr) (n c : Nat) (bs : List Int) (w : World) (hL : Lies w ao n c bs) (hby : Bys bs) :
    Calls Tryz.prog 33 #[.slice ao n c] w fun e w' => e = .returned (.int .i64 (if bs.take 4 = [65, 78, 81, 49] then 1 else if bs.take 4 = [65, 78, 82, 49] then 2 else 0)) ∧ w' = w := by
  have e1 : nums ⟨#[65, 78, 81, 49]⟩ = [65, 78, 81, 49] := by decide
  have e2 : nums ⟨#[65, 78, 82, 49]⟩ = [65, 78, 82, 49] := by decide
  have b1 := begins_any ⟨#[65, 78, 81, 49]⟩ ao n c bs w rfl hL hby
  have b2 := begins_any ⟨#[65, 78, 82, 49]⟩ ao n c bs w rfl hL hby
  rw [e1] at b1
  rw [e2] at b2
  clear e1 e2
  by_cases h1 : bs.take 4 = [65, 78, 81, 49]
  · rw [if_pos h1]
    rw [decide_eq_true h1] at b1
    clear h1
    go_enter Tryz.func33, Tryz.ntmps33
    go_wp2_with fail
    refine b1.mono ?_
    rintro e w1 ⟨rfl, hw1⟩
    subst w1
    go_wp2
    go_ret
    exact ⟨rfl, rfl⟩
  · rw [if_neg h1]
    rw [decide_eq_false h1] at b1
    clear h1
    by_cases h2 : bs.take 4 = [65, 78, 82, 49]
    · rw [if_pos h2]
      rw [decide_eq_true h2] at b2
      clear h2
      go_enter Tryz.func33, Tryz.ntmps33
      go_wp2_with fail
      refine b1.mono ?_
      rintro e w1 ⟨rfl, hw1⟩
      subst w1
      go_wp2_with fail
      refine b2.mono ?_
      rintro e w1 ⟨rfl, hw1⟩
      subst w1
      go_wp2
      go_ret
      exact ⟨rfl, rfl⟩
    · rw [if_neg h2]
      rw [decide_eq_false h2] at b2
      clear h2
      go_enter Tryz.func33, Tryz.ntmps33
      go_wp2_with fail
      refine b1.mono ?_
      rintro e w1 ⟨rfl, hw1⟩
      subst w1
      go_wp2_with fail
      refine b2.mono ?_
      rintro e w1 ⟨rfl, hw1⟩
      subst w1
      go_wp2
      go_ret
      exact ⟨rfl, rfl⟩

set_option maxHeartbeats 1000000 in
theorem summed_any (b o p c : Nat) (bs : List Int) (er : Nat → Addr) (w : World) (hp : 4 ≤ p) (hp2 : p ≤ 1392) (hL : Lies w (some ⟨b, o, none⟩) (p + 8) c bs) (hby : Bys bs) (hE : Errs w er) :
    Calls Tryz.prog 103 #[.slice (some ⟨b, o, none⟩) (p + 8) c] w fun e w' => e = .returned (.bool (decide (val (bs.drop p) = sumOf (bs.take p)))) ∧ Below w.heap.size w w' := by
  have hle := hL.hle
  have h1 : (0 : Int) ≤ (p : Int) := by omega
  have h2 : (p : Int) ≤ (p : Int) + 8 := by omega
  have h3 : (p : Int) ≤ (c : Int) := by omega
  have h4 : (p : Int) + 8 ≤ (c : Int) := by omega
  have hcp : ¬ c = p := by omega
  have hpc : p ≤ c := by omega
  go_enter Tryz.func103, Tryz.ntmps103
  go_wp2_with fail
  have hLd : Lies w.drew (some ⟨b, o, none⟩) (p + 8) c bs := ⟨hL.hlen, hL.hle, hL.hnone, hL.hcells⟩
  have hEd : Errs w.drew er := ⟨hE.cell, hE.row, hE.ne⟩
  have hM : Lies w.drew (some ⟨b, o + p, none⟩) 8 (c - p) ((bs.drop p).take 8) := hLd.mid (p := p) (k := 8) (Nat.le_refl _)
  have hby8 : Bys ((bs.drop p).take 8) := take_bys (drop_bys hby p) 8
  have hbyp : Bys (bs.take p) := take_bys hby p
  have hl8 : (bs.drop p).take 8 = bs.drop p := List.take_of_length_le (by have := hL.hlen; simp; omega)
  have hrd : (rdSum 8 ((bs.drop p).take 8) 0 0).1 = val (bs.drop p) := by
    unfold rdSum
    rw [if_neg (by simp), if_neg (by omega)]
    simp only [List.drop_zero, List.take_take, Nat.min_self]
    rw [hl8]
  have HRD : Hid ((rdSum 8 ((bs.drop p).take 8) 0 0).1 = val (bs.drop p)) := hrd
  clear hl8 hrd
  generalize (bs.drop p).take 8 = t8 at *
  go_region_held3 (fun _ => True) (trivial) (first
    | (go_at_call 104; refine (newReader_any _ 8 (c - p) t8 _ (by omega) hM).mono ?_; rintro e w1 ⟨rb, g, rfl, hR1, hrb, hg, hb1⟩)
    | (go_at_call 127; refine (sum_any rb g 8 8 0 0 t8 er _ hR1 (hEd.below hb1 (Nat.le_refl _)) (by omega) (by omega) hby8).mono ?_; rintro e w2 ⟨rfl, hW2⟩; have hL2 : Lies w2 (some ⟨b, o, none⟩) p c (bs.take p) := ((hLd.below hb1 (Nat.le_refl _)).grown hW2.2 (fun ad had => by have h7 := hL.at (show 0 < p + 8 by omega); obtain ⟨b7, o7, e7, h7⟩ := h7; have h8 := World.block_lt_of_cell? w _ (h7 0 (by omega)); cases e7; cases had; have : w.drew.heap.size = w.heap.size := rfl; simp at h8 ⊢; omega)).pre (by omega))
    | (go_at_call 95; refine (S2.sum_any _ p c (bs.take p) _ (by omega) hL2 hbyp).mono ?_; rintro e w3 ⟨rfl, hw3⟩; subst w3))
  have hq1 : Below w.heap.size w w1 := (drw (Below.refl _ w)).trans hb1
  have hq2 : Below w.heap.size w w2 := hq1.grown hW2.2 hq1.size (fun k hk => by cases hk; exact hrb)
  clear hL2 hR1 hW2 hb1 hLd hEd hM
  go_wp2
  go_ret
  refine ⟨ret_b ?_, hq2⟩
  have h9 := HRD.out
  rw [h9]
  rfl
end Go.Proofs.YtdkcplndplhblaaGreatDoor

/- open by its contract. -/
namespace Go.Proofs.YtdkcplndplhblaaGreatDoor
open Go.RowKit
set_option maxRecDepth 100000

/-- The first errors of Decode. -/
def openE (mg : List Int) (n : Nat) (bs : List Int) : Int :=
  if 1400 < n then 49 else if ¬ bs.take 4 = mg then 41 else if n < 12 then 48 else if ¬ val (bs.drop (n - 8)) = sumOf (bs.take (n - 8)) then 48 else 0
/-- What open leaves. -/
def OpenR (w : World) (mg : List Int) (n : Nat) (bs : List Int) (er : Nat → Addr) (e : Ending) (w' : World) : Prop :=
  (openE mg n bs ≠ 0 ∧ e = .returned (.tuple #[.pointer none, .int .i64 (openE mg n bs)]) ∧ Below w.heap.size w w') ∨
  (openE mg n bs = 0 ∧ ∃ rb g, e = .returned (.tuple #[.pointer (some ⟨rb, 0, none⟩), .int .i64 0]) ∧ Rd w' rb g (n - 12) ((bs.drop 4).take (n - 12)) er (0, 0) ∧ w.heap.size ≤ rb ∧ Below w.heap.size w w')

set_option maxHeartbeats 1000000 in
theorem open_big (s : ByteArray) (ao : Option Addr) (n c : Nat) (w : World) (hn : 1400 < n) :
    Calls Tryz.prog 61 #[.string s, .slice ao n c] w fun e w' => e = .returned (.tuple #[.pointer none, .int .i64 49]) ∧ w' = w := by
  have hni : decide ((1400 : Int) < (n : Int)) = true := by simp; omega
  go_enter Tryz.func61, Tryz.ntmps61
  go_wp2
  go_ret2
  exact ⟨rfl, rfl⟩
set_option maxHeartbeats 1000000 in
theorem open_magic (s : ByteArray) (ao : Option Addr) (n c : Nat) (w : World) (hn : n ≤ 1400) (hb : Calls Tryz.prog 77 #[.string s, .slice ao n c] w fun e w' => e = .returned (.bool false) ∧ w' = w) :
    Calls Tryz.prog 61 #[.string s, .slice ao n c] w fun e w' => e = .returned (.tuple #[.pointer none, .int .i64 41]) ∧ w' = w := by
  have hni : decide ((1400 : Int) < (n : Int)) = false := by simp; omega
  go_enter Tryz.func61, Tryz.ntmps61
  go_wp2_with fail
  refine hb.mono ?_
  rintro e w1 ⟨rfl, hw1⟩
  subst w1
  go_wp2
  go_ret2
  exact ⟨rfl, rfl⟩
set_option maxHeartbeats 1000000 in
theorem open_few (s : ByteArray) (ao : Option Addr) (n c : Nat) (w : World) (hn : n ≤ 1400) (hn2 : n < 12) (hb : Calls Tryz.prog 77 #[.string s, .slice ao n c] w fun e w' => e = .returned (.bool true) ∧ w' = w) :
    Calls Tryz.prog 61 #[.string s, .slice ao n c] w fun e w' => e = .returned (.tuple #[.pointer none, .int .i64 48]) ∧ w' = w := by
  have hni : decide ((1400 : Int) < (n : Int)) = false := by simp; omega
  have hni2 : decide ((n : Int) < 12) = true := by simp; omega
  go_enter Tryz.func61, Tryz.ntmps61
  go_wp2_with fail
  refine hb.mono ?_
  rintro e w1 ⟨rfl, hw1⟩
  subst w1
  go_wp2
  go_ret2
  exact ⟨rfl, rfl⟩
set_option maxHeartbeats 1000000 in
theorem open_sum (s : ByteArray) (b o p c : Nat) (w : World) (hp : 4 ≤ p) (hp2 : p ≤ 1392) (hb : Calls Tryz.prog 77 #[.string s, .slice (some ⟨b, o, none⟩) (p + 8) c] w fun e w' => e = .returned (.bool true) ∧ w' = w)
    (hs : Calls Tryz.prog 103 #[.slice (some ⟨b, o, none⟩) (p + 8) c] w fun e w' => e = .returned (.bool false) ∧ Below w.heap.size w w') :
    Calls Tryz.prog 61 #[.string s, .slice (some ⟨b, o, none⟩) (p + 8) c] w fun e w' => e = .returned (.tuple #[.pointer none, .int .i64 48]) ∧ Below w.heap.size w w' := by
  have hni : decide ((1400 : Int) < ((p : Int) + 8)) = false := by simp; omega
  have hni2 : decide (((p : Int) + 8) < 12) = false := by simp; omega
  go_enter Tryz.func61, Tryz.ntmps61
  go_wp2_with fail
  refine hb.mono ?_
  rintro e w1 ⟨rfl, hw1⟩
  subst w1
  go_wp2_with fail
  refine hs.mono ?_
  rintro e w1 ⟨rfl, hb1⟩
  go_wp2
  go_ret2
  exact ⟨rfl, hb1⟩
set_option maxHeartbeats 1000000 in
theorem open_ok (s : ByteArray) (b o p c : Nat) (bs : List Int) (w : World) (hp : 4 ≤ p) (hp2 : p ≤ 1392) (hL : Lies w (some ⟨b, o, none⟩) (p + 8) c bs) (hb : Calls Tryz.prog 77 #[.string s, .slice (some ⟨b, o, none⟩) (p + 8) c] w fun e w' => e = .returned (.bool true) ∧ w' = w)
    (hs : Calls Tryz.prog 103 #[.slice (some ⟨b, o, none⟩) (p + 8) c] w fun e w' => e = .returned (.bool true) ∧ Below w.heap.size w w') :
    Calls Tryz.prog 61 #[.string s, .slice (some ⟨b, o, none⟩) (p + 8) c] w fun e w' => ∃ rb g, e = .returned (.tuple #[.pointer (some ⟨rb, 0, none⟩), .int .i64 0]) ∧ Rdr w' rb g (p - 4) (p - 4) 0 0 ((bs.drop 4).take (p - 4)) ∧ w.heap.size ≤ rb ∧ w.heap.size ≤ g ∧ Below w.heap.size w w' := by
  have hle := hL.hle
  have hni : decide ((1400 : Int) < ((p : Int) + 8)) = false := by simp; omega
  have hni2 : decide (((p : Int) + 8) < 12) = false := by simp; omega
  have h1 : (4 : Int) ≤ (p : Int) := by omega
  have h3 : (p : Int) ≤ (c : Int) := by omega
  have h4 : (4 : Int) ≤ (c : Int) := by omega
  have hcp : ¬ c = 4 := by omega
  go_enter Tryz.func61, Tryz.ntmps61
  go_wp2_with fail
  refine hb.mono ?_
  rintro e w1 ⟨rfl, hw1⟩
  subst w1
  go_wp2_with fail
  refine hs.mono ?_
  rintro e w1 ⟨rfl, hb1⟩
  have hL1 : Lies w1 (some ⟨b, o + 4, none⟩) (p - 4) (c - 4) ((bs.drop 4).take (p - 4)) := (hL.below hb1 (Nat.le_refl _)).mid (p := 4) (k := p - 4) (by omega)
  clear hni hni2 hs hb
  go_wp2_with fail
  refine (newReader_any _ (p - 4) (c - 4) _ _ (by omega) hL1).mono ?_
  rintro e w2 ⟨rb, g, rfl, hR2, hrb, hg, hb2⟩
  have hq2 := hb1.trans (hb2.mono hb1.size)
  go_wp2
  go_ret2
  exact ⟨rb, g, rfl, hR2, Nat.le_trans hb1.size hrb, Nat.le_trans hb1.size hg, hq2⟩

theorem open_any (s : ByteArray) (ao : Option Addr) (n c : Nat) (bs : List Int) (er : Nat → Addr) (w : World) (hs : s.size = 4) (hL : Lies w ao n c bs) (hby : Bys bs) (hE : Errs w er) :
    Calls Tryz.prog 61 #[.string s, .slice ao n c] w fun e w' => OpenR w (nums s) n bs er e w' := by
  have hb := begins_any s ao n c bs w hs hL hby
  have hlen := hL.hlen
  by_cases h1 : 1400 < n
  · have e1 : openE (nums s) n bs = 49 := by unfold openE; rw [if_pos h1]
    refine (open_big s ao n c w h1).mono ?_
    rintro e w' ⟨rfl, rfl⟩
    exact .inl ⟨by rw [e1]; decide, by rw [e1], Below.refl _ _⟩
  by_cases h2 : ¬ bs.take 4 = nums s
  · have e1 : openE (nums s) n bs = 41 := by unfold openE; rw [if_neg h1, if_pos h2]
    rw [decide_eq_false h2] at hb
    refine (open_magic s ao n c w (by omega) hb).mono ?_
    rintro e w' ⟨rfl, rfl⟩
    exact .inl ⟨by rw [e1]; decide, by rw [e1], Below.refl _ _⟩
  replace h2 := Classical.not_not.1 h2
  rw [decide_eq_true h2] at hb
  by_cases h3 : n < 12
  · have e1 : openE (nums s) n bs = 48 := by unfold openE; rw [if_neg h1, if_neg (by simpa using h2), if_pos h3]
    refine (open_few s ao n c w (by omega) h3 hb).mono ?_
    rintro e w' ⟨rfl, rfl⟩
    exact .inl ⟨by rw [e1]; decide, by rw [e1], Below.refl _ _⟩
  obtain ⟨p, rfl⟩ : ∃ p, n = p + 8 := ⟨n - 8, by omega⟩
  obtain ⟨b, o, rfl, _⟩ := hL.at (by omega)
  have hsm := summed_any b o p c bs er w (by omega) (by omega) hL hby hE
  have e0 : openE (nums s) (p + 8) bs = if ¬ val (bs.drop p) = sumOf (bs.take p) then 48 else 0 := by
    unfold openE; rw [if_neg h1, if_neg (by simpa using h2), if_neg h3]; rfl
  by_cases h4 : ¬ val (bs.drop p) = sumOf (bs.take p)
  · rw [if_pos h4] at e0
    rw [decide_eq_false h4] at hsm
    refine (open_sum s b o p c w (by omega) (by omega) hb hsm).mono ?_
    rintro e w' ⟨rfl, hb1⟩
    exact .inl ⟨by rw [e0]; decide, by rw [e0], hb1⟩
  · replace h4 := Classical.not_not.1 h4
    rw [if_neg (by simpa using h4)] at e0
    rw [decide_eq_true h4] at hsm
    refine (open_ok s b o p c bs w (by omega) (by omega) hL hb hsm).mono ?_
    rintro e w' ⟨rb, g, rfl, hR, hrb, hg, hb1⟩
    refine .inr ⟨e0, rb, g, rfl, ?_, hrb, hb1⟩
    rw [show p + 8 - 12 = p - 4 by omega]
    refine ⟨hR, hE.below hb1 (Nat.le_refl _), by simp, by omega, take_bys (drop_bys hby 4) _, fun i hi => ?_⟩
    have q1 := World.block_lt_of_cell? w _ (hE.cell i hi)
    obtain ⟨c1, t1, q2⟩ := hE.row i hi
    have q3 := lt_of_block q2
    simp only at q1
    exact ⟨by simp; omega, by simp; omega⟩
end Go.Proofs.YtdkcplndplhblaaGreatDoor

/- takeLast and takeRequest by their contracts. -/
namespace Go.Proofs.YtdkcplndplhblaaGreatDoor
open Go.RowKit
set_option maxRecDepth 100000

/-- takeLast's error. -/
def lastE (n : Nat) (bs : List Int) (gs : List (Int × Val)) (st : Nat × Int) : Int :=
  if takeLE n bs gs st = 46 then 46 else rdClose n (takeL n bs gs st).2.1 (takeL n bs gs st).2.2
theorem close_ne {n pl : Nat} {code : Int} (h : ¬ code = 0) : rdClose n pl code = code := by unfold rdClose; rw [if_neg (fun q => h q.1)]

set_option maxHeartbeats 2000000 in
theorem takeLast_any (gs : List (Int × Val)) (fo : Option Addr) (m fc : Nat) {rb g n : Nat} {bs : List Int} {er : Nat → Addr} {st : Nat × Int} (base : Nat) (w : World) (h : Rd w rb g n bs er st) (hbase : base ≤ w.heap.size) (hrb : rb < base) (hF : FLies w fo m fc gs) (hFn : ∀ ad, fo = some ad → rb < ad.block) (hvd : ∀ g ∈ gs, Void g.2) (hm : m ≤ 20) :
    Calls Tryz.prog 107 #[.pointer (some ⟨rb, 0, none⟩), .slice fo m fc] w fun e w' =>
      ∃ to m' k, e = .returned (.tuple #[.slice to m' k, .int .i64 (lastE n bs gs st)]) ∧ (lastE n bs gs st = 0 → m' = m ∧ TLies w' base to m k (takeL n bs gs st).1 ∧ ∀ ad, to = some ad → w.heap.size ≤ ad.block) ∧ w.grownBy w' (some rb) := by
  go_enter Tryz.func107, Tryz.ntmps107
  go_wp2_with fail
  refine (takeAll_any gs fo m fc base _ h hbase hrb hF hFn hvd hm).mono ?_
  rintro e w1 (⟨hE, to, k, rfl, hT1, hn1, hR1, hg1⟩ | ⟨hE, rfl, hg1⟩)
  · have hl : lastE n bs gs st = rdClose n (takeL n bs gs st).2.1 (takeL n bs gs st).2.2 := by unfold lastE; rw [if_neg (by rw [hE]; decide)]
    have HL : Hid (lastE n bs gs st = rdClose n (takeL n bs gs st).2.1 (takeL n bs gs st).2.2) := hl
    clear hl hE
    generalize hT : takeL n bs gs st = T at *
    have HT : Hid (takeL n bs gs st = T) := hT
    clear hT
    by_cases h0 : T.2.2 = 0
    · rw [h0]
      have H0 : Hid (T.2.2 = 0) := h0
      clear h0
      go_wp2_with fail
      refine (rd_close _ hR1).mono ?_
      rintro e w2 ⟨rfl, hR2, hg2⟩
      have hT2 : TLies w2 base to m k T.1 := by
        obtain ⟨fs, c1, c2⟩ := hT1.ex
        refine ⟨hT1.hlen, fs, c1.grown hg2 (fun ad had => ?_), c2.imp fun v x q => q.grown hg2 hrb⟩
        have := hn1 ad had
        simp; omega
      have hG2 := grown_trans hg1 hg2
      clear hT1 hR1 hR2 hg1 hg2
      go_wp2
      go_ret2
      refine ⟨to, m, k, by rw [HL.out]; rfl, fun _ => ⟨rfl, by rw [HT.out]; exact hT2, hn1⟩, hG2⟩
    · have hne : (T.2.2 != 0) = true := by simpa using h0
      have H0 : Hid (¬ T.2.2 = 0) := h0
      clear h0
      go_wp2
      go_ret2
      have e0 := close_ne (n := n) (pl := T.2.1) H0.out
      refine ⟨none, 0, 0, by rw [HL.out, e0]; rfl, fun q => absurd (by rw [← e0, ← HL.out]; exact q) H0.out, hg1⟩
  · have hl : lastE n bs gs st = 46 := by unfold lastE; rw [if_pos hE]
    have HL : Hid (lastE n bs gs st = 46) := hl
    clear hl hE
    go_wp2
    go_ret2
    refine ⟨none, 0, 0, by rw [HL.out]; rfl, fun q => ?_, hg1⟩
    rw [HL.out] at q; cases q
end Go.Proofs.YtdkcplndplhblaaGreatDoor
