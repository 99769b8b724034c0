/- Plain mathematics: a datagram of which one byte was changed is no datagram any more. -/
import Derived.Test.YtdcliiojdlonbaaGreatDoorPk21
namespace Go.Proofs.YtdcliiojdlonbaaGreatDoor
open Go.RowKit
set_option maxRecDepth 100000

theorem stp_inj {h x y : Int} (hh : S2.U h) (hx : S2.By x) (hy : S2.By y) (e : S2.stp h x = S2.stp h y) : x = y := by
  have e1 := S2.inv_mul (hh.xor hx.u)
  have e2 := S2.inv_mul (hh.xor hy.u)
  have e' : IntKind.u64.wrap (bits .xor .u64 h x * 1099511628211) = IntKind.u64.wrap (bits .xor .u64 h y * 1099511628211) := e
  rw [e'] at e1
  exact S2.xor_inj hh hx.u hy.u (e1.symm.trans e2)
theorem fwd_inj {g h : Int} (l : List Int) (hl : ∀ x ∈ l, S2.By x) (hg : S2.U g) (hh : S2.U h) (e : S2.fwd g l = S2.fwd h l) : g = h := by
  have e1 := S2.bwd_fwd l hl hg
  have e2 := S2.bwd_fwd l hl hh
  rw [e] at e1
  exact e1.symm.trans e2
theorem set_parts {X : List Int} {a : Nat} (x : Int) (ha : a < X.length) : X.set a x = X.take a ++ x :: X.drop (a + 1) := by
  rw [List.set_eq_take_append_cons_drop, if_pos ha]
theorem self_parts {X : List Int} {a : Nat} (ha : a < X.length) : X = X.take a ++ X.getD a 0 :: X.drop (a + 1) := by
  have h := set_parts (X.getD a 0) ha
  have e : X.getD a 0 = X[a] := by simp [List.getD, ha]
  rw [e, List.set_getElem_self] at h
  rw [e]; exact h
theorem getD_by {X : List Int} {a : Nat} (hX : Bys X) (ha : a < X.length) : 0 ≤ X.getD a 0 ∧ X.getD a 0 ≤ 255 := by
  have e : X.getD a 0 = X[a] := by simp [List.getD, ha]
  rw [e]; exact hX _ (List.getElem_mem _)
theorem sum_set {X : List Int} {a : Nat} {x : Int} (hX : Bys X) (hx : 0 ≤ x ∧ x ≤ 255) (ha : a < X.length) (e : sumOf (X.set a x) = sumOf X) : x = X.getD a 0 := by
  have e1 : sumOf (X.set a x) = S2.fwd (S2.stp (S2.fwd 14695981039346656037 (X.take a)) x) (X.drop (a + 1)) := by
    rw [set_parts x ha]; show S2.fwd _ _ = _; rw [S2.fwd_append]; rfl
  have e2 : sumOf X = S2.fwd (S2.stp (S2.fwd 14695981039346656037 (X.take a)) (X.getD a 0)) (X.drop (a + 1)) := by
    have q := congrArg (S2.fwd 14695981039346656037) (self_parts ha)
    rw [S2.fwd_append] at q
    exact q
  rw [e1, e2] at e
  have e3 := fwd_inj _ (fun y hy => hX y (List.mem_of_mem_drop hy)) (S2.U.stp _ _) (S2.U.stp _ _) e
  exact stp_inj (S2.U.fwd _ (by decide)) hx (getD_by hX ha) e3
theorem set_bys {X : List Int} {a : Nat} {x : Int} (hX : Bys X) (hx : 0 ≤ x ∧ x ≤ 255) : Bys (X.set a x) := fun y hy => by
  rcases List.mem_or_eq_of_mem_set hy with h | rfl
  · exact hX y h
  · exact hx
theorem close_inj {X Y : List Int} (h : closeB X = closeB Y) : X = Y ∧ be (sumOf X) 8 = be (sumOf Y) 8 := by
  have hl := congrArg List.length h
  simp [closeB, be_length] at hl
  exact List.append_inj h hl
theorem sum_eq {X Y : List Int} (h : be (sumOf X) 8 = be (sumOf Y) 8) : sumOf X = sumOf Y := by
  have h1 := sumOf_bd X
  have h2 := sumOf_bd Y
  have e1 := val_be 8 (sumOf X) h1.1 (Int.lt_of_le_of_lt h1.2 (by decide))
  have e2 := val_be 8 (sumOf Y) h2.1 (Int.lt_of_le_of_lt h2.2 (by decide))
  rw [← e1, ← e2, h]

theorem spoil_open {mg X : List Int} {a : Nat} {x : Int} (hX : Bys X) (hx : 0 ≤ x ∧ x ≤ 255) (ha : a < (closeB X).length) (hne : ¬ x = (closeB X).getD a 0) :
    openE mg ((closeB X).set a x).length ((closeB X).set a x) ≠ 0 := by
  intro h
  have hC : Bys (closeB X) := hX.app (be_bys _ _)
  obtain ⟨B, hB, _, _⟩ := open_parts (set_bys hC hx) h
  have hlen := congrArg List.length hB
  rw [List.length_set] at hlen
  generalize mg ++ B = Y at *
  have hl : X.length = Y.length := by simp [closeB, be_length] at hlen; exact hlen
  by_cases hax : a < X.length
  · have e1 : (closeB X).set a x = X.set a x ++ be (sumOf X) 8 := by unfold closeB; rw [List.set_append_left _ _ hax]
    rw [e1] at hB
    obtain ⟨e2, e3⟩ := List.append_inj hB (by simpa using hl)
    have e4 := sum_eq e3
    rw [← e2] at e4
    have e5 := sum_set hX hx hax e4.symm
    apply hne
    rw [e5]
    unfold closeB
    rw [List.getD_eq_getElem?_getD, List.getD_eq_getElem?_getD, List.getElem?_append_left hax]
  · have e1 : (closeB X).set a x = X ++ (be (sumOf X) 8).set (a - X.length) x := by unfold closeB; rw [List.set_append_right _ _ (by omega)]
    rw [e1] at hB
    obtain ⟨e2, e3⟩ := List.append_inj hB hl
    subst e2
    apply hne
    have e4 : (closeB X).set a x = closeB X := by rw [e1, e3]; rfl
    have e5 := congrArg (fun l => l.getD a 0) e4
    simp only [List.getD_eq_getElem?_getD, List.getElem?_set_self ha, Option.getD_some] at e5
    rw [List.getD_eq_getElem?_getD]
    exact e5
theorem spoil_rq {X : List Int} {a : Nat} {x : Int} (hX : Bys X) (hx : 0 ≤ x ∧ x ≤ 255) (ha : a < (closeB X).length) (hne : ¬ x = (closeB X).getD a 0) : ¬ rqDE ((closeB X).set a x) = 0 := by
  have h := spoil_open (mg := [65, 78, 81, 49]) hX hx ha hne
  unfold rqDE
  rw [if_pos h]; exact h
theorem spoil_rp {X : List Int} {a : Nat} {x : Int} (hX : Bys X) (hx : 0 ≤ x ∧ x ≤ 255) (ha : a < (closeB X).length) (hne : ¬ x = (closeB X).getD a 0) : ¬ rpDE ((closeB X).set a x) = 0 := by
  have h := spoil_open (mg := [65, 78, 82, 49]) hX hx ha hne
  unfold rpDE
  rw [if_pos h]; exact h
end Go.Proofs.YtdcliiojdlonbaaGreatDoor

/- spoilt by its contract. -/
namespace Go.Proofs.YtdcliiojdlonbaaGreatDoor
open Go.RowKit
set_option maxRecDepth 100000

/-- '(at%n + n) % n' is a place of a list of n. -/
theorem place_of (x : Int) (n : Nat) (h0 : 0 < n) (hn : n ≤ 140737488351232) : ∃ a : Nat, (wrap64 (x.tmod n + n)).tmod n = (a : Int) ∧ a < n := by
  have h1 : (x.tmod n).natAbs < n := by
    rw [Int.natAbs_tmod]
    exact Nat.mod_lt _ h0
  have h2 : wrap64 (x.tmod n + n) = x.tmod n + n := by
    unfold wrap64
    omega
  rw [h2, Int.tmod_eq_emod_of_nonneg (by omega)]
  have h3 := Int.emod_nonneg (x.tmod n + n) (show (n : Int) ≠ 0 by omega)
  have h4 := Int.emod_lt_of_pos (x.tmod n + n) (show (0 : Int) < n by omega)
  exact ⟨((x.tmod n + n) % n).toNat, by omega, by omega⟩

theorem next_ne {x : Int} (_hx : 0 ≤ x ∧ x ≤ 255) : ¬ (x + 1) % 256 = x ∧ 0 ≤ (x + 1) % 256 ∧ (x + 1) % 256 ≤ 255 := by
  omega

set_option maxHeartbeats 4000000 in
theorem spoilt_any (X : List Int) (ao : Option Addr) (n c : Nat) (at0 x : Int) (er : Nat → Addr) (w : World) (hE : Errs w er) (hL : Lies w ao n c (closeB X)) (h12 : 12 ≤ n) (hn : n ≤ 200000) (hX : Bys X) (hx : 0 ≤ x ∧ x ≤ 255) :
    Calls Tryz.prog 23 #[.slice ao n c, .int .i64 at0, .int .u8 x] w fun e w' => e = .returned (.bool true) ∧ Below w.heap.size w w' := by
  have hni : (n : Int) ≤ 200000 := by omega
  have hn0 : (0 : Int) < n := by omega
  have hnz : ((n : Int) == 0) = false := by simp; omega
  have hlen := hL.hlen
  go_enter Tryz.func23, Tryz.ntmps23
  go_wp2_with fail
  obtain ⟨a, hae, han⟩ := place_of at0 n (by omega) (by omega)
  rw [hae]
  clear hae
  have hani : (a : Int) < n := by omega
  refine (bytes29_any _ n c (closeB X) _ (by omega) hL).mono ?_
  rintro e w2 ⟨co, cc, rfl, hown, hb2⟩
  obtain ⟨g, rfl⟩ : ∃ g, co = some ⟨g, 0, none⟩ := by
    rcases hown.2 with ⟨hv, hn0⟩ | ⟨g, cap, cur, hv, r⟩
    · omega
    · cases hv; exact ⟨g, rfl⟩
  have hcell : w2.cell? ⟨g, a, none⟩ = some (.int .u8 ((closeB X).getD a 0)) := by
    rw [hown.cellAt a (by omega)]
    have : a < (closeB X).length := by omega
    simp [List.getD, this]
  have hfz := hown.frozenAt a
  have hC : Bys (closeB X) := hX.app (be_bys _ _)
  have key : ∀ y : Int, 0 ≤ y ∧ y ≤ 255 → ¬ y = (closeB X).getD a 0 →
      ∃ w3, w3 = w2.setCell ⟨g, a, none⟩ (.int .u8 y) ∧ Lies w3 (some ⟨g, 0, none⟩) n cc ((closeB X).set a y) ∧ Below w.heap.size w w3 ∧ Bys ((closeB X).set a y) ∧ ¬ rqDE ((closeB X).set a y) = 0 ∧ ¬ rpDE ((closeB X).set a y) = 0 := fun y hy hne => by
    have hst := hown.stored a (.int .u8 y)
    rw [← List.map_set] at hst
    exact ⟨_, rfl, Lies.owned hst.1, hb2.grown hst.2 hb2.size (fun k hk => by cases hk; exact (hown.lt g rfl).1), set_bys hC hy, spoil_rq hX hy (by omega) hne, spoil_rp hX hy (by omega) hne⟩
  have HK : Hid _ := key
  clear key hC hown hb2 hL
  generalize (closeB X).getD a 0 = ba at *
  by_cases hxe : x = ba
  · subst hxe
    obtain ⟨k1, k2⟩ := next_ne hx
    obtain ⟨w3, hw3, hL3, hB3, hby, hq, hp⟩ := HK.out _ k2 k1
    clear HK k1
    go_wp2_with fail
    rw [← hw3]
    clear hw3 hcell hfz
    refine (decodeRequest_any _ n cc _ er _ hL3 (by omega) hby (hE.below hB3 (Nat.le_refl _))).mono ?_
    rintro e w4 ⟨r, bo, m, d, rfl, _, _, hb4⟩
    have hB4 := hB3.trans (hb4.mono hB3.size)
    have hL4 := hL3.below hb4 (Nat.le_refl _)
    have hne1 : (rqDE ((closeB X).set a ((x + 1) % 256)) != 0) = true := by simpa using hq
    have hne2 : (rqDE ((closeB X).set a ((x + 1) % 256)) == 0) = false := by simpa using hq
    have HBX : Hid (∀ o, Below w.heap.size w (w4.alloc o) ∧ Lies (w4.alloc o) (some ⟨g, 0, none⟩) n cc _ ∧ Errs (w4.alloc o) er) := fun o => ⟨hB4.trans ((newBox w4 o).mono hB4.size), hL4.below (newBox w4 o) (Nat.le_refl _), hE.below (hB4.trans ((newBox w4 o).mono hB4.size)) (Nat.le_refl _)⟩
    clear hb4 hL3
    generalize rqDE ((closeB X).set a ((x + 1) % 256)) = E1 at *
    go_wp2_with fail
    refine (decodeReply_any _ n cc _ er _ (HBX.out _).2.1 (by omega) hby (HBX.out _).2.2).mono ?_
    rintro e w5 ⟨y, co, k1, d1, lo, ln, lc, rfl, _, _, _, _, hb5⟩
    have hB5 := (HBX.out _).1.trans (hb5.mono (HBX.out _).1.size)
    have HB5 : Hid (∀ o, Below w.heap.size w (w5.alloc o)) := fun o => hB5.trans ((newBox w5 o).mono hB5.size)
    have hne3 : (rpDE ((closeB X).set a ((x + 1) % 256)) != 0) = true := by simpa using hp
    have hne4 : (rpDE ((closeB X).set a ((x + 1) % 256)) == 0) = false := by simpa using hp
    generalize rpDE ((closeB X).set a ((x + 1) % 256)) = E2 at *
    go_wp2_with (go_at_call 11; refine (num_id _ _).mono ?_; rintro e wn ⟨rfl, hwn⟩; subst wn)
    go_ret
    first | exact ⟨rfl, hB5⟩ | exact ⟨rfl, HB5.out _⟩
  · obtain ⟨w3, hw3, hL3, hB3, hby, hq, hp⟩ := HK.out _ hx hxe
    have hxb : (x == ba) = false := by simpa using hxe
    clear HK
    go_wp2_with fail
    rw [← hw3]
    clear hw3 hcell hfz
    refine (decodeRequest_any _ n cc _ er _ hL3 (by omega) hby (hE.below hB3 (Nat.le_refl _))).mono ?_
    rintro e w4 ⟨r, bo, m, d, rfl, _, _, hb4⟩
    have hB4 := hB3.trans (hb4.mono hB3.size)
    have hL4 := hL3.below hb4 (Nat.le_refl _)
    have hne1 : (rqDE ((closeB X).set a x) != 0) = true := by simpa using hq
    have hne2 : (rqDE ((closeB X).set a x) == 0) = false := by simpa using hq
    have HBX : Hid (∀ o, Below w.heap.size w (w4.alloc o) ∧ Lies (w4.alloc o) (some ⟨g, 0, none⟩) n cc _ ∧ Errs (w4.alloc o) er) := fun o => ⟨hB4.trans ((newBox w4 o).mono hB4.size), hL4.below (newBox w4 o) (Nat.le_refl _), hE.below (hB4.trans ((newBox w4 o).mono hB4.size)) (Nat.le_refl _)⟩
    clear hb4 hL3
    generalize rqDE ((closeB X).set a x) = E1 at *
    go_wp2_with fail
    refine (decodeReply_any _ n cc _ er _ (HBX.out _).2.1 (by omega) hby (HBX.out _).2.2).mono ?_
    rintro e w5 ⟨y, co, k1, d1, lo, ln, lc, rfl, _, _, _, _, hb5⟩
    have hB5 := (HBX.out _).1.trans (hb5.mono (HBX.out _).1.size)
    have HB5 : Hid (∀ o, Below w.heap.size w (w5.alloc o)) := fun o => hB5.trans ((newBox w5 o).mono hB5.size)
    have hne3 : (rpDE ((closeB X).set a x) != 0) = true := by simpa using hp
    have hne4 : (rpDE ((closeB X).set a x) == 0) = false := by simpa using hp
    generalize rpDE ((closeB X).set a x) = E2 at *
    go_wp2_with (go_at_call 11; refine (num_id _ _).mono ?_; rintro e wn ⟨rfl, hwn⟩; subst wn)
    go_ret
    first | exact ⟨rfl, hB5⟩ | exact ⟨rfl, HB5.out _⟩
end Go.Proofs.YtdcliiojdlonbaaGreatDoor

/- MsgOneByte by its contract. -/
namespace Go.Proofs.YtdcliiojdlonbaaGreatDoor
open Go.RowKit
set_option maxRecDepth 100000

theorem rq_small {r : Req} (h : rqE r = 0) (hby : Bys r.data) {n : Nat} (hn : (rqB r).length = n) : ∃ X, rqB r = closeB X ∧ Bys X ∧ 12 ≤ n ∧ n ≤ 200000 := by
  obtain ⟨X, hX, h1, h2, h3⟩ := rqB_is h hby
  rw [hX] at hn
  simp [closeB, be_length] at hn
  exact ⟨X, hX, h3, by omega, by omega⟩
theorem rp_small {r : Rep} (h : rpE r = 0) (hby : Bys r.data) {n : Nat} (hn : (rpB r).length = n) : ∃ X, rpB r = closeB X ∧ Bys X ∧ 12 ≤ n ∧ n ≤ 200000 := by
  obtain ⟨X, hX, h1, h2, h3⟩ := rpB_is h hby
  rw [hX] at hn
  simp [closeB, be_length] at hn
  exact ⟨X, hX, h3, by omega, by omega⟩

set_option maxHeartbeats 8000000 in
theorem oneByte_any (r : Req) (ao : Option Addr) (n c : Nat) (y : Rep) (bo : Option Addr) (m d : Nat) (lo : Option Addr) (ln lc : Nat) (at0 x : Int) (er : Nat → Addr) (w : World) (hE : Errs w er)
    (hD : Lies w ao n c r.data) (hp : r.path.size ≤ 281474976710656) (hby : Bys r.data) (hD2 : Lies w bo m d y.data) (hby2 : Bys y.data) (hN : CLies w lo ln lc 3 (entCells y.list)) (hel : y.list.length = ln) (hx : 0 ≤ x ∧ x ≤ 255) :
    Calls Tryz.prog 6 #[rqV r ao n c, rpV y bo m d lo ln lc, .int .i64 at0, .int .u8 x] w fun e w' => e = .returned (.bool true) ∧ Below w.heap.size w w' := by
  have HEL : Hid (y.list.length = ln) := hel
  clear hel
  have hq0 := RqBox.new w r ao n c
  have hp0 : RpBox ((w.alloc (.cells #[.int .i64 r.client, .int .i64 r.seq, .int .i64 r.ack, .int .i64 r.epoch, .int .i64 r.op, .int .i64 r.id, .int .i64 r.id2, .int .i64 r.off, .int .i64 r.len, .string r.path, .string r.name, .string r.name2, .slice ao n c] 24)).alloc (.cells #[.int .i64 y.client, .int .i64 y.seq, .int .i64 y.epoch, .int .i64 y.op, .int .i64 y.status, .int .i64 y.ai, .int .i64 y.ak, .int .i64 y.az, .int .i64 y.ac, .slice bo m d, .slice lo ln lc, .bool y.more] 30)) (w.heap.size + 1) y bo m d lo ln lc := by
    have q := RpBox.new (w.alloc (.cells #[.int .i64 r.client, .int .i64 r.seq, .int .i64 r.ack, .int .i64 r.epoch, .int .i64 r.op, .int .i64 r.id, .int .i64 r.id2, .int .i64 r.off, .int .i64 r.len, .string r.path, .string r.name, .string r.name2, .slice ao n c] 24)) y bo m d lo ln lc
    rw [show (w.alloc (.cells #[.int .i64 r.client, .int .i64 r.seq, .int .i64 r.ack, .int .i64 r.epoch, .int .i64 r.op, .int .i64 r.id, .int .i64 r.id2, .int .i64 r.off, .int .i64 r.len, .string r.path, .string r.name, .string r.name2, .slice ao n c] 24)).heap.size = w.heap.size + 1 by simp] at q
    exact q
  have hq0 := RqBox.later hq0 (newBox (w.alloc (.cells #[.int .i64 r.client, .int .i64 r.seq, .int .i64 r.ack, .int .i64 r.epoch, .int .i64 r.op, .int .i64 r.id, .int .i64 r.id2, .int .i64 r.off, .int .i64 r.len, .string r.path, .string r.name, .string r.name2, .slice ao n c] 24)) (.cells #[.int .i64 y.client, .int .i64 y.seq, .int .i64 y.epoch, .int .i64 y.op, .int .i64 y.status, .int .i64 y.ai, .int .i64 y.ak, .int .i64 y.az, .int .i64 y.ac, .slice bo m d, .slice lo ln lc, .bool y.more] 30)) (Nat.le_refl _)
  have hb0 := box2 w (.cells #[.int .i64 r.client, .int .i64 r.seq, .int .i64 r.ack, .int .i64 r.epoch, .int .i64 r.op, .int .i64 r.id, .int .i64 r.id2, .int .i64 r.off, .int .i64 r.len, .string r.path, .string r.name, .string r.name2, .slice ao n c] 24) (.cells #[.int .i64 y.client, .int .i64 y.seq, .int .i64 y.epoch, .int .i64 y.op, .int .i64 y.status, .int .i64 y.ai, .int .i64 y.ak, .int .i64 y.az, .int .i64 y.ac, .slice bo m d, .slice lo ln lc, .bool y.more] 30)
  go_enter Tryz.func6, Tryz.ntmps6
  go_wp2_with fail
  generalize (w.alloc (.cells #[.int .i64 r.client, .int .i64 r.seq, .int .i64 r.ack, .int .i64 r.epoch, .int .i64 r.op, .int .i64 r.id, .int .i64 r.id2, .int .i64 r.off, .int .i64 r.len, .string r.path, .string r.name, .string r.name2, .slice ao n c] 24)).alloc (.cells #[.int .i64 y.client, .int .i64 y.seq, .int .i64 y.epoch, .int .i64 y.op, .int .i64 y.status, .int .i64 y.ai, .int .i64 y.ak, .int .i64 y.az, .int .i64 y.ac, .slice bo m d, .slice lo ln lc, .bool y.more] 30) = w0 at *
  refine (head_any er _ (hE.below hb0 (Nat.le_refl _))).mono ?_
  rintro e w1 ⟨rfl, hb1⟩
  have hq1 := RqBox.later hq0 hb1 (Nat.le_refl _)
  have hp1 := RpBox.later hp0 hb1 (Nat.le_refl _)
  have hB1 := hb0.trans (hb1.mono hb0.size)
  clear hq0 hp0 hb0 hb1
  obtain ⟨q0, q1, q2, q3, q4, q5, q6, q7, q8, q9, q10, q11, q12⟩ := hq1
  go_wp2_with fail
  clear q0 q1 q2 q3 q4 q5 q6 q7 q8 q9 q10 q11 q12
  refine (encRq r ao n c _ (hD.below hB1 (Nat.le_refl _)) hp hby).mono ?_
  rintro e w2 ⟨a2, k2, l2, rfl, hb2, hok2, _⟩
  have hp2 := RpBox.later hp1 hb2 (Nat.le_refl _)
  have hB2 := hB1.trans (hb2.mono hB1.size)
  clear hp1 hb2 hB1
  by_cases hz : rqE r = 0
  · have hLb := hok2 hz
    obtain ⟨X, hX, hXb, hX1, hX2⟩ := rq_small hz hby hLb.hlen
    rw [hX] at hLb
    rw [hz]
    have hB3 := hB2
    clear hok2 hX hB2
    generalize hnb : k2 = nb at *
    clear hnb
    obtain ⟨p0, p1, p2, p3, p4, p5, p6, p7, p8, p9, p10, p11⟩ := hp2
    go_wp2_with (go_at_call 11; refine (num_id _ _).mono ?_; rintro e wn ⟨rfl, hwn⟩; subst wn)
    clear p0 p1 p2 p3 p4 p5 p6 p7 p8 p9 p10 p11
    refine (encRp y bo m d lo ln lc _ (hD2.below hB3 (Nat.le_refl _)) (hN.below hB3 (Nat.le_refl _)) HEL.out hby2).mono ?_
    rintro e w4 ⟨a4, k4, l4, rfl, hb4, hok4, _⟩
    have hB4 := hB3.trans (hb4.mono hB3.size)
    have hLb4 := hLb.below hb4 (Nat.le_refl _)
    clear hLb hB3 hb4
    by_cases hy : rpE y = 0
    · have hLc := hok4 hy
      obtain ⟨Y, hY, hYb, hY1, hY2⟩ := rp_small hy hby2 hLc.hlen
      rw [hY] at hLc
      rw [hy]
      have hB5 := hB4
      have hLb := hLb4
      clear hok4 hY hB4 hLb4
      generalize hnc : k4 = nc at *
      clear hnc
      have hiX1 : (12 : Int) ≤ (nb : Int) := by omega
      have hiX2 : (nb : Int) ≤ 200000 := by omega
      have hiY1 : (12 : Int) ≤ (nc : Int) := by omega
      have hiY2 : (nc : Int) ≤ 200000 := by omega
      go_wp2_with (go_at_call 11; refine (num_id _ _).mono ?_; rintro e wn ⟨rfl, hwn⟩; subst wn)
      refine (spoilt_any X _ nb _ at0 x er _ (hE.below hB5 (Nat.le_refl _)) hLb hX1 hX2 hXb hx).mono ?_
      rintro e w6 ⟨rfl, hb6⟩
      have hB6 := hB5.trans (hb6.mono hB5.size)
      have hLc6 := hLc.below hb6 (Nat.le_refl _)
      clear hLb hLc hb6 hB5
      go_wp2_with fail
      refine (spoilt_any Y _ nc _ at0 x er _ (hE.below hB6 (Nat.le_refl _)) hLc6 hY1 hY2 hYb hx).mono ?_
      rintro e w7 ⟨rfl, hb7⟩
      have hB7 := hB6.trans (hb7.mono hB6.size)
      go_wp2_with fail
      go_ret
      exact ⟨rfl, hB7⟩
    · have hne1 : (rpE y != 0) = true := by simpa using hy
      have hne2 : (rpE y == 0) = false := by simpa using hy
      clear hok4
      generalize rpE y = E4 at *
      go_wp2_with (go_at_call 11; refine (num_id _ _).mono ?_; rintro e wn ⟨rfl, hwn⟩; subst wn)
      refine (refusal_any _).mono ?_
      rintro e w8 ⟨rfl, hb8⟩
      have hB8 := hB4.trans (hb8.mono hB4.size)
      have hLb8 := hLb4.below hb8 (Nat.le_refl _)
      clear hB4 hLb4 hb8
      go_wp2_with fail
      refine (encReply_ref _).mono ?_
      rintro e w9 ⟨a9, l9, rfl, hLc, hb9⟩
      have hB5 := hB8.trans (hb9.mono hB8.size)
      have hLb := hLb8.below hb9 (Nat.le_refl _)
      clear hB8 hLb8 hb9
      obtain ⟨Y, hY⟩ : ∃ Y, rfB = Y := ⟨_, rfl⟩
      have hYb : Bys Y := by rw [← hY]; exact rfB_bys
      rw [hY] at hLc
      have hY1 : 12 ≤ 40 := by decide
      have hY2 : 40 ≤ 200000 := by decide
      clear hY
      have hiX1 : (12 : Int) ≤ (nb : Int) := by omega
      have hiX2 : (nb : Int) ≤ 200000 := by omega
      have hiY1 : (12 : Int) ≤ (40 : Int) := by omega
      have hiY2 : (40 : Int) ≤ 200000 := by omega
      go_wp2_with (go_at_call 11; refine (num_id _ _).mono ?_; rintro e wn ⟨rfl, hwn⟩; subst wn)
      refine (spoilt_any X _ nb _ at0 x er _ (hE.below hB5 (Nat.le_refl _)) hLb hX1 hX2 hXb hx).mono ?_
      rintro e w6 ⟨rfl, hb6⟩
      have hB6 := hB5.trans (hb6.mono hB5.size)
      have hLc6 := hLc.below hb6 (Nat.le_refl _)
      clear hLb hLc hb6 hB5
      go_wp2_with fail
      refine (spoilt_any Y _ 40 _ at0 x er _ (hE.below hB6 (Nat.le_refl _)) hLc6 hY1 hY2 hYb hx).mono ?_
      rintro e w7 ⟨rfl, hb7⟩
      have hB7 := hB6.trans (hb7.mono hB6.size)
      go_wp2_with fail
      go_ret
      exact ⟨rfl, hB7⟩
  · have hne1 : (rqE r != 0) = true := by simpa using hz
    have hne2 : (rqE r == 0) = false := by simpa using hz
    clear hok2
    generalize rqE r = E2 at *
    go_wp2_with (go_at_call 11; refine (num_id _ _).mono ?_; rintro e wn ⟨rfl, hwn⟩; subst wn)
    refine (plain_any _).mono ?_
    rintro e w8 ⟨rfl, hb8⟩
    have hB8 := hB2.trans (hb8.mono hB2.size)
    have hp8 := RpBox.later hp2 hb8 (Nat.le_refl _)
    clear hB2 hb8 hp2
    go_wp2_with fail
    refine (encRequest_plain _).mono ?_
    rintro e w9 ⟨a9, l9, rfl, hLb, hb9⟩
    have hB3 := hB8.trans (hb9.mono hB8.size)
    have hp9 := RpBox.later hp8 hb9 (Nat.le_refl _)
    clear hB8 hp8 hb9
    obtain ⟨X, hX⟩ : ∃ X, plB = X := ⟨_, rfl⟩
    have hXb : Bys X := by rw [← hX]; exact plB_bys
    rw [hX] at hLb
    have hX1 : 12 ≤ 52 := by decide
    have hX2 : 52 ≤ 200000 := by decide
    clear hX
    obtain ⟨p0, p1, p2, p3, p4, p5, p6, p7, p8, p9, p10, p11⟩ := hp9
    go_wp2_with fail
    clear p0 p1 p2 p3 p4 p5 p6 p7 p8 p9 p10 p11
    refine (encRp y bo m d lo ln lc _ (hD2.below hB3 (Nat.le_refl _)) (hN.below hB3 (Nat.le_refl _)) HEL.out hby2).mono ?_
    rintro e w4 ⟨a4, k4, l4, rfl, hb4, hok4, _⟩
    have hB4 := hB3.trans (hb4.mono hB3.size)
    have hLb4 := hLb.below hb4 (Nat.le_refl _)
    clear hLb hB3 hb4
    by_cases hy : rpE y = 0
    · have hLc := hok4 hy
      obtain ⟨Y, hY, hYb, hY1, hY2⟩ := rp_small hy hby2 hLc.hlen
      rw [hY] at hLc
      rw [hy]
      have hB5 := hB4
      have hLb := hLb4
      clear hok4 hY hB4 hLb4
      generalize hnc : k4 = nc at *
      clear hnc
      have hiX1 : (12 : Int) ≤ (52 : Int) := by omega
      have hiX2 : (52 : Int) ≤ 200000 := by omega
      have hiY1 : (12 : Int) ≤ (nc : Int) := by omega
      have hiY2 : (nc : Int) ≤ 200000 := by omega
      go_wp2_with (go_at_call 11; refine (num_id _ _).mono ?_; rintro e wn ⟨rfl, hwn⟩; subst wn)
      refine (spoilt_any X _ 52 _ at0 x er _ (hE.below hB5 (Nat.le_refl _)) hLb hX1 hX2 hXb hx).mono ?_
      rintro e w6 ⟨rfl, hb6⟩
      have hB6 := hB5.trans (hb6.mono hB5.size)
      have hLc6 := hLc.below hb6 (Nat.le_refl _)
      clear hLb hLc hb6 hB5
      go_wp2_with fail
      refine (spoilt_any Y _ nc _ at0 x er _ (hE.below hB6 (Nat.le_refl _)) hLc6 hY1 hY2 hYb hx).mono ?_
      rintro e w7 ⟨rfl, hb7⟩
      have hB7 := hB6.trans (hb7.mono hB6.size)
      go_wp2_with fail
      go_ret
      exact ⟨rfl, hB7⟩
    · have hne1 : (rpE y != 0) = true := by simpa using hy
      have hne2 : (rpE y == 0) = false := by simpa using hy
      clear hok4
      generalize rpE y = E4 at *
      go_wp2_with (go_at_call 11; refine (num_id _ _).mono ?_; rintro e wn ⟨rfl, hwn⟩; subst wn)
      refine (refusal_any _).mono ?_
      rintro e w18 ⟨rfl, hb18⟩
      have hB18 := hB4.trans (hb18.mono hB4.size)
      have hLb18 := hLb4.below hb18 (Nat.le_refl _)
      clear hB4 hLb4 hb18
      go_wp2_with fail
      refine (encReply_ref _).mono ?_
      rintro e w19 ⟨a19, l19, rfl, hLc, hb19⟩
      have hB5 := hB18.trans (hb19.mono hB18.size)
      have hLb := hLb18.below hb19 (Nat.le_refl _)
      clear hB18 hLb18 hb19
      obtain ⟨Y, hY⟩ : ∃ Y, rfB = Y := ⟨_, rfl⟩
      have hYb : Bys Y := by rw [← hY]; exact rfB_bys
      rw [hY] at hLc
      have hY1 : 12 ≤ 40 := by decide
      have hY2 : 40 ≤ 200000 := by decide
      clear hY
      have hiX1 : (12 : Int) ≤ (52 : Int) := by omega
      have hiX2 : (52 : Int) ≤ 200000 := by omega
      have hiY1 : (12 : Int) ≤ (40 : Int) := by omega
      have hiY2 : (40 : Int) ≤ 200000 := by omega
      go_wp2_with (go_at_call 11; refine (num_id _ _).mono ?_; rintro e wn ⟨rfl, hwn⟩; subst wn)
      refine (spoilt_any X _ 52 _ at0 x er _ (hE.below hB5 (Nat.le_refl _)) hLb hX1 hX2 hXb hx).mono ?_
      rintro e w6 ⟨rfl, hb6⟩
      have hB6 := hB5.trans (hb6.mono hB5.size)
      have hLc6 := hLc.below hb6 (Nat.le_refl _)
      clear hLb hLc hb6 hB5
      go_wp2_with fail
      refine (spoilt_any Y _ 40 _ at0 x er _ (hE.below hB6 (Nat.le_refl _)) hLc6 hY1 hY2 hYb hx).mono ?_
      rintro e w7 ⟨rfl, hb7⟩
      have hB7 := hB6.trans (hb7.mono hB6.size)
      go_wp2_with fail
      go_ret
      exact ⟨rfl, hB7⟩
end Go.Proofs.YtdcliiojdlonbaaGreatDoor
