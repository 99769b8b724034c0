/- annexlaw4.turned: the same memory, turned in place: the three loops. -/
import Derived.Test.YtdkcplndplhblaaGreatDoorPk23
import Derived.Test.YtdkcplndplhblaaGreatDoorPk25
import Derived.Test.YtdkcplndplhblaaGreatDoorPk16
import Derived.Test.YtdkcplndplhblaaGreatDoorPk22
namespace Go.Proofs.YtdkcplndplhblaaGreatDoor
open Go.RowKit
set_option maxRecDepth 100000

theorem xor_by (a b : Int) : 0 ≤ bits .xor .u8 a b ∧ bits .xor .u8 a b ≤ 255 := by
  unfold bits
  rw [IntKind.wrap_u8]
  omega
theorem set_bys {Z : List Int} (h : Bys Z) {k : Nat} {x : Int} (hx : 0 ≤ x ∧ x ≤ 255) : Bys (Z.set k x) := by
  intro y hy
  rcases List.mem_or_eq_of_mem_set hy with h1 | rfl
  · exact h y h1
  · exact hx
theorem entCells_set : ∀ (l : List Ent) (k : Nat) (x : Int) (hk : k < l.length), (entCells l).set (k * 3 + 2) (.int .i64 x) = entCells (l.set k { l[k] with kind := x })
  | e :: l, 0, x, _ => rfl
  | e :: l, k + 1, x, hk => by
    have hk' : k < l.length := by simpa using hk
    have ih := entCells_set l k x hk'
    have e1 : entCells (e :: l) = .string e.name :: .int .i64 e.id :: .int .i64 e.kind :: entCells l := rfl
    have e2 : (k + 1) * 3 + 2 = k * 3 + 2 + 1 + 1 + 1 := by omega
    rw [e1, e2, List.set_cons_succ, List.set_cons_succ, List.set_cons_succ, ih]
    rfl
theorem entCells_at {l : List Ent} {k : Nat} (h : k < l.length) : (entCells l)[k * 3 + 2]? = some (.int .i64 l[k].kind) := by
  induction l generalizing k with
  | nil => simp at h
  | cons e l ih =>
    cases k with
    | zero => rfl
    | succ k =>
      have e1 : entCells (e :: l) = .string e.name :: .int .i64 e.id :: .int .i64 e.kind :: entCells l := rfl
      have e2 : (k + 1) * 3 + 2 = k * 3 + 2 + 1 + 1 + 1 := by omega
      rw [e1, e2]
      simpa using ih (k := k) (by simpa using h)
theorem RqBox.row {w w' : World} {B q : Nat} {r : Req} {ao : Option Addr} {n c : Nat} (h : RqBox w B r ao n c) (hg : w.grownBy w' (some q)) (hne : B ≠ q) : RqBox w' B r ao n c := by
  obtain ⟨q0, q1, q2, q3, q4, q5, q6, q7, q8, q9, q10, q11, q12⟩ := h
  have hx : some B ≠ some q := by simpa using hne
  exact ⟨hg.cell q0 hx, hg.cell q1 hx, hg.cell q2 hx, hg.cell q3 hx, hg.cell q4 hx, hg.cell q5 hx, hg.cell q6 hx, hg.cell q7 hx, hg.cell q8 hx, hg.cell q9 hx, hg.cell q10 hx, hg.cell q11 hx, hg.cell q12 hx⟩
theorem RpBox.row {w w' : World} {B q : Nat} {r : Rep} {ao : Option Addr} {n c : Nat} {lo : Option Addr} {ln lc : Nat} (h : RpBox w B r ao n c lo ln lc) (hg : w.grownBy w' (some q)) (hne : B ≠ q) : RpBox w' B r ao n c lo ln lc := by
  obtain ⟨q0, q1, q2, q3, q4, q5, q6, q7, q8, q9, q10, q11⟩ := h
  have hx : some B ≠ some q := by simpa using hne
  exact ⟨hg.cell q0 hx, hg.cell q1 hx, hg.cell q2 hx, hg.cell q3 hx, hg.cell q4 hx, hg.cell q5 hx, hg.cell q6 hx, hg.cell q7 hx, hg.cell q8 hx, hg.cell q9 hx, hg.cell q10 hx, hg.cell q11 hx⟩
theorem own_in {w : World} {base n c : Nat} {e : TypeId} {k : Nat} {ao : Option Addr} {xs : List Value} (h : w.ownsRow base e k (.slice ao n c) n xs) : ∀ ad, ao = some ad → base ≤ ad.block ∧ ad.block < w.heap.size := by
  rintro ad rfl
  rcases h.2 with ⟨h, _⟩ | ⟨g, cap, cur, h, hb, hh, _⟩
  · cases h
  · cases h
    exact ⟨hb, lt_of_block hh⟩

/-- What the three loops of turned leave. -/
structure Trn (w : World) (base g n c g2 m c2 h ln hc : Nat) : Prop where
  d : ∃ Z : List Int, Bys Z ∧ w.ownsRow base 5 1 (.slice (some ⟨g, 0, none⟩) (n + 3) c) (n + 3) (Z.map (Value.int .u8))
  x : ∃ Z : List Int, Bys Z ∧ w.ownsRow base 5 1 (.slice (some ⟨g2, 0, none⟩) (m + 3) c2) (m + 3) (Z.map (Value.int .u8))
  l : ∃ q : List Ent, q.length = ln + 1 ∧ w.ownsRow base 86 3 (.slice (some ⟨h, 0, none⟩) (ln + 1) hc) (ln + 1) (entCells q)
theorem Trn.below {w w' : World} {base g n c g2 m c2 h ln hc : Nat} (t : Trn w base g n c g2 m c2 h ln hc) (hb : Below w.heap.size w w') : Trn w' base g n c g2 m c2 h ln hc := by
  obtain ⟨Z1, b1, o1⟩ := t.d
  obtain ⟨Z2, b2, o2⟩ := t.x
  obtain ⟨q, hq, o3⟩ := t.l
  exact ⟨⟨Z1, b1, own_below o1 hb⟩, ⟨Z2, b2, own_below o2 hb⟩, ⟨q, hq, own_below o3 hb⟩⟩
theorem Trn.set1 {w : World} {base g n c g2 m c2 h ln hc : Nat} (t : Trn w base g n c g2 m c2 h ln hc) (h12 : g ≠ g2) (h13 : g ≠ h) {k : Nat} (hk : k < n + 3) :
    (∃ z, w.cell? ⟨g, k, none⟩ = some (.int .u8 z)) ∧ w.frozen? ⟨g, k, none⟩ = false ∧ base ≤ g ∧ g < w.heap.size ∧ ∀ x : Int, 0 ≤ x ∧ x ≤ 255 → Trn (w.setCell ⟨g, k, none⟩ (.int .u8 x)) base g n c g2 m c2 h ln hc := by
  obtain ⟨Z1, b1, o1⟩ := t.d
  obtain ⟨Z2, b2, o2⟩ := t.x
  obtain ⟨q, hq, o3⟩ := t.l
  have hl1 : Z1.length = n + 3 := by simpa using o1.1
  refine ⟨⟨Z1[k]'(by omega), ?_⟩, o1.frozenAt k, (o1.lt g rfl).1, (o1.lt g rfl).2, fun x hx => ⟨⟨Z1.set k x, set_bys b1 hx, ?_⟩, ⟨Z2, b2, ?_⟩, ⟨q, hq, ?_⟩⟩⟩
  · rw [o1.cellAt k (by omega), List.getElem?_map, List.getElem?_eq_getElem (by omega)]; rfl
  · have h := (o1.stored k (.int .u8 x)).1
    rwa [← List.map_set] at h
  · exact o2.kept (grown_setCell _ _ _ _) (.inr (by simp [Value.ownBlock]; exact fun e => h12 e.symm))
  · exact o3.kept (grown_setCell _ _ _ _) (.inr (by simp [Value.ownBlock]; exact fun e => h13 e.symm))
theorem Trn.set2 {w : World} {base g n c g2 m c2 h ln hc : Nat} (t : Trn w base g n c g2 m c2 h ln hc) (h12 : g ≠ g2) (h23 : g2 ≠ h) {k : Nat} (hk : k < m + 3) :
    (∃ z, w.cell? ⟨g2, k, none⟩ = some (.int .u8 z)) ∧ w.frozen? ⟨g2, k, none⟩ = false ∧ base ≤ g2 ∧ g2 < w.heap.size ∧ ∀ x : Int, 0 ≤ x ∧ x ≤ 255 → Trn (w.setCell ⟨g2, k, none⟩ (.int .u8 x)) base g n c g2 m c2 h ln hc := by
  obtain ⟨Z1, b1, o1⟩ := t.d
  obtain ⟨Z2, b2, o2⟩ := t.x
  obtain ⟨q, hq, o3⟩ := t.l
  have hl2 : Z2.length = m + 3 := by simpa using o2.1
  refine ⟨⟨Z2[k]'(by omega), ?_⟩, o2.frozenAt k, (o2.lt g2 rfl).1, (o2.lt g2 rfl).2, fun x hx => ⟨⟨Z1, b1, ?_⟩, ⟨Z2.set k x, set_bys b2 hx, ?_⟩, ⟨q, hq, ?_⟩⟩⟩
  · rw [o2.cellAt k (by omega), List.getElem?_map, List.getElem?_eq_getElem (by omega)]; rfl
  · exact o1.kept (grown_setCell _ _ _ _) (.inr (by simp [Value.ownBlock]; exact h12))
  · have h := (o2.stored k (.int .u8 x)).1
    rwa [← List.map_set] at h
  · exact o3.kept (grown_setCell _ _ _ _) (.inr (by simp [Value.ownBlock]; exact fun e => h23 e.symm))
theorem Trn.set3 {w : World} {base g n c g2 m c2 h ln hc : Nat} (t : Trn w base g n c g2 m c2 h ln hc) (h13 : g ≠ h) (h23 : g2 ≠ h) {k : Nat} (hk : k < ln + 1) :
    (∃ z, w.cell? ⟨h, k * 3 + 2, none⟩ = some (.int .i64 z)) ∧ w.frozen? ⟨h, k * 3 + 2, none⟩ = false ∧ base ≤ h ∧ h < w.heap.size ∧ ∀ x : Int, Trn (w.setCell ⟨h, k * 3 + 2, none⟩ (.int .i64 x)) base g n c g2 m c2 h ln hc := by
  obtain ⟨Z1, b1, o1⟩ := t.d
  obtain ⟨Z2, b2, o2⟩ := t.x
  obtain ⟨q, hq, o3⟩ := t.l
  refine ⟨⟨(q[k]'(by omega)).kind, ?_⟩, o3.frozenAt _, (o3.lt h rfl).1, (o3.lt h rfl).2, fun x => ⟨⟨Z1, b1, ?_⟩, ⟨Z2, b2, ?_⟩, ⟨q.set k { q[k]'(by omega) with kind := x }, by simpa using hq, ?_⟩⟩⟩
  · rw [o3.cellAt _ (by omega)]; exact entCells_at (by omega)
  · exact o1.kept (grown_setCell _ _ _ _) (.inr (by simp [Value.ownBlock]; exact h13))
  · exact o2.kept (grown_setCell _ _ _ _) (.inr (by simp [Value.ownBlock]; exact h23))
  · have h := (o3.stored (k * 3 + 2) (.int .i64 x)).1
    rwa [entCells_set q k x (by omega)] at h

/-- What lies beside the three lists while they are turned. -/
def TS (w : World) (r : Req) (y : Rep) (base g n c g2 m c2 h ln hc : Nat) (wr : World) : Prop :=
  Trn wr base g n c g2 m c2 h ln hc ∧ RqBox wr w.heap.size r (some ⟨g, 0, none⟩) n c ∧ RpBox wr (w.heap.size + 1) y (some ⟨g2, 0, none⟩) m c2 (some ⟨h, 0, none⟩) ln hc ∧ Below base w wr
theorem TS.set {w : World} {r : Req} {y : Rep} {base g n c g2 m c2 h ln hc : Nat} {wr : World} {q j : Nat} {u : Value} (t : TS w r y base g n c g2 m c2 h ln hc wr) (hq : q < w.heap.size) (hb : base ≤ w.heap.size) (hbq : base ≤ q) (hT : Trn (wr.setCell ⟨q, j, none⟩ u) base g n c g2 m c2 h ln hc) :
    TS w r y base g n c g2 m c2 h ln hc (wr.setCell ⟨q, j, none⟩ u) :=
  ⟨hT, RqBox.row t.2.1 (grown_setCell _ _ _ _) (by omega), RpBox.row t.2.2.1 (grown_setCell _ _ _ _) (by omega), t.2.2.2.grown (grown_setCell wr q j u) (Nat.le_trans hb t.2.2.2.size) (fun k hk => by cases hk; exact hbq)⟩
/-- Two datagrams, of one message, or of none. -/
theorem same_enc {E : Int} {X : List Int} {a1 a2 : Option Addr} {k1 c1 k2 c2 : Nat} {w : World} (hX : E = 0 → X.length ≤ 2000) (o1 : E = 0 → Lies w a1 k1 c1 X) (z1 : E ≠ 0 → k1 = 0) (o2 : E = 0 → Lies w a2 k2 c2 X) (z2 : E ≠ 0 → k2 = 0) :
    Calls Tryz.prog 11 #[.slice a1 k1 c1, .slice a2 k2 c2] w fun e w' => e = .returned (.bool true) ∧ Below w.heap.size w w' := by
  by_cases h : E = 0
  · refine (same_any _ _ _ _ _ _ X X w (by have := hX h; rw [← (o1 h).hlen]; omega) (o1 h) (o2 h)).mono ?_
    rintro e w' ⟨rfl, m, rfl⟩
    exact ⟨by rw [decide_eq_true rfl], below_drewN (Below.refl _ _) m⟩
  · obtain rfl := z1 h
    obtain rfl := z2 h
    refine (same_zero a1 a2 c1 c2 w).mono ?_
    rintro e w' ⟨rfl, rfl⟩
    exact ⟨rfl, Below.refl _ _⟩
theorem rqB_len {r : Req} (h : rqE r = 0) : (rqB r).length ≤ 2000 := by have := (rq_back h).2.2; omega
theorem rpB_len {r : Rep} (h : rpE r = 0) : (rpB r).length ≤ 2000 := by have := (rp_back h).2.2; omega

/-- What lies there behind the three loops. -/
structure VS (w : World) (r : Req) (y : Rep) (base g n c g2 m c2 h ln hc : Nat) (zd zx : List Int) (q : List Ent) (wr : World) : Prop where
  R : RqBox wr w.heap.size r (some ⟨g, 0, none⟩) n c
  P : RpBox wr (w.heap.size + 1) y (some ⟨g2, 0, none⟩) m c2 (some ⟨h, 0, none⟩) ln hc
  d : Lies wr (some ⟨g, 0, none⟩) n c zd
  x : Lies wr (some ⟨g2, 0, none⟩) m c2 zx
  l : CLies wr (some ⟨h, 0, none⟩) ln hc 3 (entCells q)
  B : Below base w wr
theorem VS.below {w : World} {r : Req} {y : Rep} {base g n c g2 m c2 h ln hc : Nat} {zd zx : List Int} {q : List Ent} {wr w' : World} (t : VS w r y base g n c g2 m c2 h ln hc zd zx q wr) (hbase : base ≤ w.heap.size) (hb : Below wr.heap.size wr w') : VS w r y base g n c g2 m c2 h ln hc zd zx q w' :=
  ⟨RqBox.later t.R hb (Nat.le_refl _), RpBox.later t.P hb (Nat.le_refl _), t.d.below hb (Nat.le_refl _), t.x.below hb (Nat.le_refl _), t.l.below hb (Nat.le_refl _), t.B.trans (hb.mono (Nat.le_trans hbase t.B.size))⟩
theorem VS.set {w : World} {r : Req} {y : Rep} {base g n c g2 m c2 h ln hc : Nat} {zd zx : List Int} {q : List Ent} {wr : World} (t : VS w r y base g n c g2 m c2 h ln hc zd zx q wr) (hbase : base ≤ w.heap.size) (hg : g < w.heap.size) (hg2 : g2 < w.heap.size) (hh : h < w.heap.size) {b j : Nat} {u : Value} (hb : w.heap.size + 2 ≤ b) : VS w r y base g n c g2 m c2 h ln hc zd zx q (wr.setCell ⟨b, j, none⟩ u) :=
  ⟨RqBox.row t.R (grown_setCell _ _ _ _) (by omega), RpBox.row t.P (grown_setCell _ _ _ _) (by omega), t.d.grown (grown_setCell _ _ _ _) (fun ad had => by cases had; simp; omega), t.x.grown (grown_setCell _ _ _ _) (fun ad had => by cases had; simp; omega), t.l.grown (grown_setCell _ _ _ _) (fun ad had => by cases had; simp; omega),
    t.B.grown (grown_setCell wr b j u) (Nat.le_trans hbase t.B.size) (fun k hk => by cases hk; omega)⟩
theorem VS.of {w : World} {r : Req} {y : Rep} {base g n c g2 m c2 h ln hc : Nat} {wr : World} (t : TS w r y base g n c g2 m c2 h ln hc wr) : ∃ zd zx q, Bys zd ∧ Bys zx ∧ q.length = ln ∧ VS w r y base g n c g2 m c2 h ln hc zd zx q wr := by
  obtain ⟨hT, hR, hP, hB⟩ := t
  obtain ⟨Z1, b1, o1⟩ := hT.d
  obtain ⟨Z2, b2, o2⟩ := hT.x
  obtain ⟨q, hq, o3⟩ := hT.l
  refine ⟨Z1.take n, Z2.take m, q.take ln, take_bys b1 _, take_bys b2 _, by simp; omega, hR, hP, (Lies.owned o1).pre (by omega), (Lies.owned o2).pre (by omega), ?_, hB⟩
  have h := CLies.owned o3
  rw [← List.take_append_drop ln q] at h
  exact h.ents (by simp; omega) (by omega)

set_option maxHeartbeats 8000000 in
theorem turned_true (r : Req) (y : Rep) (base g n c g2 m c2 h ln hc : Nat) (w : World) (hT : Trn w base g n c g2 m c2 h ln hc) (h12 : g ≠ g2) (h13 : g ≠ h) (h23 : g2 ≠ h) (hbase : base ≤ w.heap.size)
    (hn : n ≤ 1048576) (hp : r.path.size ≤ 1048576) (hm : m ≤ 1048576) (hln : ln ≤ 1048576) :
    Calls Tryz.prog 22 #[rqV r (some ⟨g, 0, none⟩) n c, .slice (some ⟨g, 0, none⟩) (n + 3) c, rpV y (some ⟨g2, 0, none⟩) m c2 (some ⟨h, 0, none⟩) ln hc, .slice (some ⟨g2, 0, none⟩) (m + 3) c2, .slice (some ⟨h, 0, none⟩) (ln + 1) hc] w fun e w' => e = .returned (.bool true) ∧ Below base w w' := by
  have hni : (n : Int) ≤ 1048576 := by omega
  have hmi : (m : Int) ≤ 1048576 := by omega
  have hli : (ln : Int) ≤ 1048576 := by omega
  have hbx := box2 w (.cells #[.int .i64 r.client, .int .i64 r.seq, .int .i64 r.ack, .int .i64 r.epoch, .int .i64 r.op, .int .i64 r.id, .int .i64 r.id2, .int .i64 r.off, .int .i64 r.len, .string r.path, .string r.name, .string r.name2, .slice (some ⟨g, 0, none⟩) n c] 24) (.cells #[.int .i64 y.client, .int .i64 y.seq, .int .i64 y.epoch, .int .i64 y.op, .int .i64 y.status, .int .i64 y.ai, .int .i64 y.ak, .int .i64 y.az, .int .i64 y.ac, .slice (some ⟨g2, 0, none⟩) m c2, .slice (some ⟨h, 0, none⟩) ln hc, .bool y.more] 30)
  have hR0 := RqBox.later (RqBox.new w r (some ⟨g, 0, none⟩) n c) (newBox (w.alloc (.cells #[.int .i64 r.client, .int .i64 r.seq, .int .i64 r.ack, .int .i64 r.epoch, .int .i64 r.op, .int .i64 r.id, .int .i64 r.id2, .int .i64 r.off, .int .i64 r.len, .string r.path, .string r.name, .string r.name2, .slice (some ⟨g, 0, none⟩) n c] 24)) (.cells #[.int .i64 y.client, .int .i64 y.seq, .int .i64 y.epoch, .int .i64 y.op, .int .i64 y.status, .int .i64 y.ai, .int .i64 y.ak, .int .i64 y.az, .int .i64 y.ac, .slice (some ⟨g2, 0, none⟩) m c2, .slice (some ⟨h, 0, none⟩) ln hc, .bool y.more] 30)) (Nat.le_refl _)
  have hP0 := RpBox.new (w.alloc (.cells #[.int .i64 r.client, .int .i64 r.seq, .int .i64 r.ack, .int .i64 r.epoch, .int .i64 r.op, .int .i64 r.id, .int .i64 r.id2, .int .i64 r.off, .int .i64 r.len, .string r.path, .string r.name, .string r.name2, .slice (some ⟨g, 0, none⟩) n c] 24)) y (some ⟨g2, 0, none⟩) m c2 (some ⟨h, 0, none⟩) ln hc
  rw [show (w.alloc (.cells #[.int .i64 r.client, .int .i64 r.seq, .int .i64 r.ack, .int .i64 r.epoch, .int .i64 r.op, .int .i64 r.id, .int .i64 r.id2, .int .i64 r.off, .int .i64 r.len, .string r.path, .string r.name, .string r.name2, .slice (some ⟨g, 0, none⟩) n c] 24)).heap.size = w.heap.size + 1 by simp] at hP0
  have hT0 : TS w r y base g n c g2 m c2 h ln hc ((w.alloc (.cells #[.int .i64 r.client, .int .i64 r.seq, .int .i64 r.ack, .int .i64 r.epoch, .int .i64 r.op, .int .i64 r.id, .int .i64 r.id2, .int .i64 r.off, .int .i64 r.len, .string r.path, .string r.name, .string r.name2, .slice (some ⟨g, 0, none⟩) n c] 24)).alloc (.cells #[.int .i64 y.client, .int .i64 y.seq, .int .i64 y.epoch, .int .i64 y.op, .int .i64 y.status, .int .i64 y.ai, .int .i64 y.ak, .int .i64 y.az, .int .i64 y.ac, .slice (some ⟨g2, 0, none⟩) m c2, .slice (some ⟨h, 0, none⟩) ln hc, .bool y.more] 30)) := ⟨hT.below hbx, hR0, hP0, hbx.mono hbase⟩
  have hgw := (hT.set1 h12 h13 (k := 0) (by omega)).2.2.2.1
  have hgw2 := (hT.set2 h12 h23 (k := 0) (by omega)).2.2.2.1
  have hgw3 := (hT.set3 h13 h23 (k := 0) (by omega)).2.2.2.1
  clear hR0 hP0 hbx hT
  go_enter Tryz.func22, Tryz.ntmps22
  go_wp2
  generalize (w.alloc (.cells #[.int .i64 r.client, .int .i64 r.seq, .int .i64 r.ack, .int .i64 r.epoch, .int .i64 r.op, .int .i64 r.id, .int .i64 r.id2, .int .i64 r.off, .int .i64 r.len, .string r.path, .string r.name, .string r.name2, .slice (some ⟨g, 0, none⟩) n c] 24)).alloc (.cells #[.int .i64 y.client, .int .i64 y.seq, .int .i64 y.epoch, .int .i64 y.op, .int .i64 y.status, .int .i64 y.ai, .int .i64 y.ak, .int .i64 y.az, .int .i64 y.ac, .slice (some ⟨g2, 0, none⟩) m c2, .slice (some ⟨h, 0, none⟩) ln hc, .bool y.more] 30) = w0 at *
  go_loopw [11] (fun i wr => ∃ k : Nat, k ≤ n + 3 ∧ i = .int .i64 k ∧ TS w r y base g n c g2 m c2 h ln hc wr) (fun i _ => n + 3 - (intOf i).toNat)
  case atStart => exact ⟨0, Nat.zero_le _, rfl, hT0⟩
  case round =>
    obtain ⟨k, hk, rfl, hTk⟩ := hrel
    clear hT0
    by_cases hlt : k < n + 3
    · have hki : decide ((k : Int) < (n : Int) + 3) = true := by simp; omega
      obtain ⟨⟨z, hz⟩, hfz, hbg, hgs, hset⟩ := hTk.1.set1 h12 h13 hlt
      have hT1 := hTk.set hgw hbase hbg (hset (bits .xor .u8 z 90) (xor_by _ _))
      clear hset hTk
      go_wp2
      go_roundw
      case rel => exact ⟨k + 1, by omega, by go_num, hT1⟩
      case measure => simp [intOf]; omega
    · have hki : decide ((k : Int) < (n : Int) + 3) = false := by simp; omega
      obtain ⟨wb, hwb⟩ : ∃ wb, wb = wr := ⟨wr, rfl⟩
      subst hwb
      have hkn : k = n + 3 := by omega
      clear hk hlt
      subst hkn
      go_wp2
      go_loopw [12] (fun i wr => ∃ k : Nat, k ≤ m + 3 ∧ i = .int .i64 k ∧ TS w r y base g n c g2 m c2 h ln hc wr) (fun i _ => m + 3 - (intOf i).toNat)
      case atStart => exact ⟨0, Nat.zero_le _, rfl, hTk⟩
      case round =>
        obtain ⟨k, hk, rfl, hTk⟩ := hrel
        by_cases hlt : k < m + 3
        · have hki : decide ((k : Int) < (m : Int) + 3) = true := by simp; omega
          obtain ⟨⟨z, hz⟩, hfz, hbg, hgs, hset⟩ := hTk.1.set2 h12 h23 hlt
          have hT1 := hTk.set hgw2 hbase hbg (hset (bits .xor .u8 z 51) (xor_by _ _))
          clear hset hTk
          go_wp2
          go_roundw
          case rel => exact ⟨k + 1, by omega, by go_num, hT1⟩
          case measure => simp [intOf]; omega
        · have hki : decide ((k : Int) < (m : Int) + 3) = false := by simp; omega
          obtain ⟨wc, hwc⟩ : ∃ wc, wc = wr := ⟨wr, rfl⟩
          subst hwc
          have hkn : k = m + 3 := by omega
          clear hk hlt
          subst hkn
          go_wp2
          go_loopw [13] (fun i wr => ∃ k : Nat, k ≤ ln + 1 ∧ i = .int .i64 k ∧ TS w r y base g n c g2 m c2 h ln hc wr) (fun i _ => ln + 1 - (intOf i).toNat)
          case atStart => exact ⟨0, Nat.zero_le _, rfl, hTk⟩
          case round =>
            obtain ⟨k, hk, rfl, hTk⟩ := hrel
            by_cases hlt : k < ln + 1
            · have hki : decide ((k : Int) < (ln : Int) + 1) = true := by simp; omega
              obtain ⟨⟨z, hz⟩, hfz, hbg, hgs, hset⟩ := hTk.1.set3 h13 h23 hlt
              have hT1 := hTk.set hgw3 hbase hbg (hset (wrap64 (3 - z)))
              clear hset hTk
              go_wp2
              go_roundw
              case rel => exact ⟨k + 1, by omega, by go_num, hT1⟩
              case measure => simp [intOf]; omega
            · have hki : decide ((k : Int) < (ln : Int) + 1) = false := by simp; omega
              obtain ⟨wd, hwd⟩ : ∃ wd, wd = wr := ⟨wr, rfl⟩
              subst hwd
              have hkn : k = ln + 1 := by omega
              clear hk hlt
              subst hkn
              obtain ⟨zd, zx, q, hyd, hyx, hql, hV⟩ := VS.of hTk
              have HQ : Hid (q.length = ln) := hql
              clear hTk hql
              have hN1 : RqB (wd.alloc (.cells #[.int .i64 r.client, .int .i64 r.seq, .int .i64 r.ack, .int .i64 r.epoch, .int .i64 r.op, .int .i64 r.id, .int .i64 r.id2, .int .i64 r.off, .int .i64 r.len, .string r.path, .string r.name, .string r.name2, .slice (some ⟨g, 0, none⟩) n c] 24)) wd.heap.size r (some ⟨g, 0, none⟩) n c := heap_alloc_new _ _
              have hsd := hV.B.size
              have hV1 := hV.below hbase (newBox wd (.cells #[.int .i64 r.client, .int .i64 r.seq, .int .i64 r.ack, .int .i64 r.epoch, .int .i64 r.op, .int .i64 r.id, .int .i64 r.id2, .int .i64 r.off, .int .i64 r.len, .string r.path, .string r.name, .string r.name2, .slice (some ⟨g, 0, none⟩) n c] 24))
              have hs1 : wd.heap.size < (wd.alloc (.cells #[.int .i64 r.client, .int .i64 r.seq, .int .i64 r.ack, .int .i64 r.epoch, .int .i64 r.op, .int .i64 r.id, .int .i64 r.id2, .int .i64 r.off, .int .i64 r.len, .string r.path, .string r.name, .string r.name2, .slice (some ⟨g, 0, none⟩) n c] 24)).heap.size := by simp
              have hb2 : w.heap.size + 2 ≤ wd.heap.size := World.block_lt_of_cell? wd _ hV.P.1
              obtain ⟨q0, q1, q2, q3, q4, q5, q6, q7, q8, q9, q10, q11, q12⟩ := hV.R
              obtain ⟨p0, p1, p2, p3, p4, p5, p6, p7, p8, p9, p10, p11, p12⟩ := hV1.R
              go_wp2_with fail
              clear q0 q1 q2 q3 q4 q5 q6 q7 q8 q9 q10 q11 q12 p0 p1 p2 p3 p4 p5 p6 p7 p8 p9 p10 p11 p12 hV
              generalize wd.alloc (.cells #[.int .i64 r.client, .int .i64 r.seq, .int .i64 r.ack, .int .i64 r.epoch, .int .i64 r.op, .int .i64 r.id, .int .i64 r.id2, .int .i64 r.off, .int .i64 r.len, .string r.path, .string r.name, .string r.name2, .slice (some ⟨g, 0, none⟩) n c] 24) = w1 at *
              generalize wd.heap.size = bq at *
              refine (bytes29_any _ n c zd _ (by omega) hV1.d).mono ?_
              rintro e w2 ⟨an, cn, rfl, ho2, hb2'⟩
              have hV2 := hV1.below hbase hb2'
              have hN2 := RqB.below hN1 hb2'
              have hn2 := own_in ho2
              have hV3 := hV2.set hbase hgw hgw2 hgw3 (b := bq) (j := 12) (u := .slice an n cn) hb2
              have hN3 := hN2.data an n cn
              have hD3 : Lies (w2.setCell ⟨bq, 12, none⟩ (.slice an n cn)) an n cn zd := (Lies.owned ho2).grown (grown_setCell _ _ _ _) (fun ad had => by have := hn2 ad had; simp; omega)
              clear hV1 hN1 ho2 hb2'
              have hs3 : w2.heap.size ≤ (w2.setCell ⟨bq, 12, none⟩ (.slice an n cn)).heap.size := by simp
              obtain ⟨⟨q0, q1, q2, q3, q4, q5, q6, q7, q8, q9, q10, q11, q12⟩, qf⟩ := hN2.c
              obtain ⟨p0, p1, p2, p3, p4, p5, p6, p7, p8, p9, p10, p11⟩ := hV3.P
              have hV4 := hV3.below hbase (newBox (w2.setCell ⟨bq, 12, none⟩ (.slice an n cn)) (.cells #[.int .i64 y.client, .int .i64 y.seq, .int .i64 y.epoch, .int .i64 y.op, .int .i64 y.status, .int .i64 y.ai, .int .i64 y.ak, .int .i64 y.az, .int .i64 y.ac, .slice (some ⟨g2, 0, none⟩) m c2, .slice (some ⟨h, 0, none⟩) ln hc, .bool y.more] 30))
              obtain ⟨s0, s1, s2, s3, s4, s5, s6, s7, s8, s9, s10, s11⟩ := hV4.P
              have hN4 := RqB.below hN3 (newBox (w2.setCell ⟨bq, 12, none⟩ (.slice an n cn)) (.cells #[.int .i64 y.client, .int .i64 y.seq, .int .i64 y.epoch, .int .i64 y.op, .int .i64 y.status, .int .i64 y.ai, .int .i64 y.ak, .int .i64 y.az, .int .i64 y.ac, .slice (some ⟨g2, 0, none⟩) m c2, .slice (some ⟨h, 0, none⟩) ln hc, .bool y.more] 30))
              have hD4 := hD3.below (newBox (w2.setCell ⟨bq, 12, none⟩ (.slice an n cn)) (.cells #[.int .i64 y.client, .int .i64 y.seq, .int .i64 y.epoch, .int .i64 y.op, .int .i64 y.status, .int .i64 y.ai, .int .i64 y.ak, .int .i64 y.az, .int .i64 y.ac, .slice (some ⟨g2, 0, none⟩) m c2, .slice (some ⟨h, 0, none⟩) ln hc, .bool y.more] 30)) (Nat.le_refl _)
              have hM4 : RpB ((w2.setCell ⟨bq, 12, none⟩ (.slice an n cn)).alloc (.cells #[.int .i64 y.client, .int .i64 y.seq, .int .i64 y.epoch, .int .i64 y.op, .int .i64 y.status, .int .i64 y.ai, .int .i64 y.ak, .int .i64 y.az, .int .i64 y.ac, .slice (some ⟨g2, 0, none⟩) m c2, .slice (some ⟨h, 0, none⟩) ln hc, .bool y.more] 30)) (w2.setCell ⟨bq, 12, none⟩ (.slice an n cn)).heap.size y (some ⟨g2, 0, none⟩) m c2 (some ⟨h, 0, none⟩) ln hc := heap_alloc_new _ _
              have hbb : bq < (w2.setCell ⟨bq, 12, none⟩ (.slice an n cn)).heap.size := lt_of_block hN3
              have han : ∀ ad, an = some ad → ad.block < (w2.setCell ⟨bq, 12, none⟩ (.slice an n cn)).heap.size := fun ad had => by have := hn2 ad had; omega
              have hs4 : (w2.setCell ⟨bq, 12, none⟩ (.slice an n cn)).heap.size < ((w2.setCell ⟨bq, 12, none⟩ (.slice an n cn)).alloc (.cells #[.int .i64 y.client, .int .i64 y.seq, .int .i64 y.epoch, .int .i64 y.op, .int .i64 y.status, .int .i64 y.ai, .int .i64 y.ak, .int .i64 y.az, .int .i64 y.ac, .slice (some ⟨g2, 0, none⟩) m c2, .slice (some ⟨h, 0, none⟩) ln hc, .bool y.more] 30)).heap.size := by simp
              rw [show (w2.setCell ⟨bq, 12, none⟩ (.slice an n cn)).heap.size = w2.heap.size by simp] at hM4 hbb han hs4
              go_wp2_with fail
              clear q0 q1 q2 q3 q4 q5 q6 q7 q8 q9 q10 q11 q12 qf p0 p1 p2 p3 p4 p5 p6 p7 p8 p9 p10 p11 s0 s1 s2 s3 s4 s5 s6 s7 s8 s9 s10 s11 hV2 hV3 hN2 hN3 hD3 hn2 hs3
              generalize (w2.setCell ⟨bq, 12, none⟩ (.slice an n cn)).alloc (.cells #[.int .i64 y.client, .int .i64 y.seq, .int .i64 y.epoch, .int .i64 y.op, .int .i64 y.status, .int .i64 y.ai, .int .i64 y.ak, .int .i64 y.az, .int .i64 y.ac, .slice (some ⟨g2, 0, none⟩) m c2, .slice (some ⟨h, 0, none⟩) ln hc, .bool y.more] 30) = w4 at *
              generalize w2.heap.size = bp at *
              refine (bytes29_any _ m c2 zx _ (by omega) hV4.x).mono ?_
              rintro e w5 ⟨am, cm, rfl, ho5, hb5⟩
              have hV5 := hV4.below hbase hb5
              have hN5 := RqB.below hN4 hb5
              have hM5 := RpB.below hM4 hb5
              have hD5 := hD4.below hb5 (Nat.le_refl _)
              have hm5 := own_in ho5
              have hV6 := hV5.set hbase hgw hgw2 hgw3 (b := bp) (j := 9) (u := .slice am m cm) (by omega)
              have hN6 : RqB (w5.setCell ⟨bp, 9, none⟩ (.slice am m cm)) bq r an n cn := RqB.row hN5 (grown_setCell _ _ _ _) (by omega)
              have hM6 := hM5.data am m cm
              have hD6 : Lies (w5.setCell ⟨bp, 9, none⟩ (.slice am m cm)) an n cn zd := hD5.grown (grown_setCell _ _ _ _) (fun ad had => by have := han ad had; simp; omega)
              have hX6 : Lies (w5.setCell ⟨bp, 9, none⟩ (.slice am m cm)) am m cm zx := (Lies.owned ho5).grown (grown_setCell _ _ _ _) (fun ad had => by have := hm5 ad had; simp; omega)
              clear hV4 hN4 hM4 hD4 hb5 hm5 ho5 hV5 hN5 hD5 han
              obtain ⟨⟨s0, s1, s2, s3, s4, s5, s6, s7, s8, s9, s10, s11⟩, sf⟩ := hM5.c
              obtain ⟨q0, q1, q2, q3, q4, q5, q6, q7, q8, q9, q10, q11, q12⟩ := hV6.R
              go_wp2_with fail
              clear q0 q1 q2 q3 q4 q5 q6 q7 q8 q9 q10 q11 q12 s0 s1 s2 s3 s4 s5 s6 s7 s8 s9 s10 s11 sf hM5
              generalize w5.setCell ⟨bp, 9, none⟩ (.slice am m cm) = w6 at *
              obtain ⟨r1, hr1⟩ : ∃ r1 : Req, r1 = { r with data := zd } := ⟨_, rfl⟩
              have hrd : r1.data = zd := by rw [hr1]
              have hrp : r1.path = r.path := by rw [hr1]
              have hrv : ∀ a b d, rqV r1 a b d = rqV r a b d := fun _ _ _ => by rw [hr1]
              obtain ⟨y1, hy1⟩ : ∃ y1 : Rep, y1 = { y with data := zx, list := q } := ⟨_, rfl⟩
              have hyd1 : y1.data = zx := by rw [hy1]
              have hyl1 : y1.list = q := by rw [hy1]
              have hyv : ∀ a b d e f i, rpV y1 a b d e f i = rpV y a b d e f i := fun _ _ _ _ _ _ => by rw [hy1]
              clear hr1 hy1
              have HRD : Hid (r1.data = zd ∧ r1.path = r.path ∧ y1.data = zx ∧ y1.list = q) := ⟨hrd, hrp, hyd1, hyl1⟩
              clear hrd hrp hyd1 hyl1
              have c7 := encRq r1 (some ⟨g, 0, none⟩) n c w6 (by rw [HRD.out.1]; exact hV6.d) (by rw [HRD.out.2.1]; omega) (by rw [HRD.out.1]; exact hyd)
              rw [hrv] at c7
              refine c7.mono ?_
              clear c7
              rintro e w7 ⟨e7, k7, l7, rfl, hb7, ok7, no7⟩
              have hV7 := hV6.below hbase hb7
              have hN7 := RqB.below hN6 hb7
              have hM7 := RpB.below hM6 hb7
              have hD7 := hD6.below hb7 (Nat.le_refl _)
              have hX7 := hX6.below hb7 (Nat.le_refl _)
              clear hV6 hN6 hM6 hD6 hX6 hb7
              obtain ⟨⟨q0, q1, q2, q3, q4, q5, q6, q7, q8, q9, q10, q11, q12⟩, qf⟩ := hN7.c
              go_wp2_with fail
              clear q0 q1 q2 q3 q4 q5 q6 q7 q8 q9 q10 q11 q12 qf
              have c8 := rencRq_any r1 an n cn w7 (by rw [HRD.out.1]; exact hD7) (by rw [HRD.out.2.1]; exact hp) (by rw [HRD.out.1]; exact hyd)
              rw [hrv] at c8
              refine c8.mono ?_
              clear c8
              rintro e w8 ⟨e8, k8, l8, rfl, hb8, ok8, no8⟩
              have hV8 := hV7.below hbase hb8
              have hM8 := RpB.below hM7 hb8
              have hX8 := hX7.below hb8 (Nat.le_refl _)
              have c9 := same_enc (E := rqE r1) (X := rqB r1) (a1 := e7) (a2 := e8) (k1 := k7) (c1 := l7) (k2 := k8) (c2 := l8) (w := w8) rqB_len (fun z => (ok7 z).below hb8 (Nat.le_refl _)) no7 ok8 (fun z => (no8 z).1)
              clear hV7 hN7 hM7 hD7 hX7 hb8 ok7 no7 ok8 no8
              go_wp2_with fail
              refine c9.mono ?_
              clear c9
              rintro e w9 ⟨rfl, hb9⟩
              have hV9 := hV8.below hbase hb9
              have hM9 := RpB.below hM8 hb9
              have hX9 := hX8.below hb9 (Nat.le_refl _)
              clear hV8 hM8 hX8 hb9
              have hee : (rqE r1 != rqE r1) = false := by simp
              generalize rqE r1 = E1 at *
              obtain ⟨p0, p1, p2, p3, p4, p5, p6, p7, p8, p9, p10, p11⟩ := hV9.P
              go_wp2_with (go_at_call 13; refine (num_id _ _).mono ?_; rintro e wn ⟨rfl, hwn⟩; subst wn)
              clear p0 p1 p2 p3 p4 p5 p6 p7 p8 p9 p10 p11 hee
              have c10 := encRp y1 (some ⟨g2, 0, none⟩) m c2 (some ⟨h, 0, none⟩) ln hc w9 (by rw [HRD.out.2.2.1]; exact hV9.x) (by rw [HRD.out.2.2.2]; exact hV9.l) (by rw [HRD.out.2.2.2]; exact HQ.out) (by rw [HRD.out.2.2.1]; exact hyx)
              rw [hyv] at c10
              refine c10.mono ?_
              clear c10
              rintro e w10 ⟨e10, k10, l10, rfl, hb10, ok10, no10⟩
              have hV10 := hV9.below hbase hb10
              have hM10 := RpB.below hM9 hb10
              have hX10 := hX9.below hb10 (Nat.le_refl _)
              clear hV9 hM9 hX9 hb10
              obtain ⟨⟨p0, p1, p2, p3, p4, p5, p6, p7, p8, p9, p10, p11⟩, pf⟩ := hM10.c
              go_wp2_with fail
              clear p0 p1 p2 p3 p4 p5 p6 p7 p8 p9 p10 p11 pf
              have c11 := rencRp_any y1 am m cm (some ⟨h, 0, none⟩) ln hc w10 (by rw [HRD.out.2.2.1]; exact hX10) (by rw [HRD.out.2.2.2]; exact hV10.l) (by rw [HRD.out.2.2.2]; exact HQ.out) (by rw [HRD.out.2.2.1]; exact hyx)
              rw [hyv] at c11
              refine c11.mono ?_
              clear c11
              rintro e w11 ⟨e11, k11, l11, rfl, hb11, ok11, no11⟩
              have hV11 := hV10.below hbase hb11
              have c12 := same_enc (E := rpE y1) (X := rpB y1) (a1 := e10) (a2 := e11) (k1 := k10) (c1 := l10) (k2 := k11) (c2 := l11) (w := w11) rpB_len (fun z => (ok10 z).below hb11 (Nat.le_refl _)) no10 ok11 (fun z => (no11 z).1)
              clear hV10 hM10 hX10 hb11 ok10 no10 ok11 no11
              go_wp2_with fail
              refine c12.mono ?_
              clear c12
              rintro e w12 ⟨rfl, hb12⟩
              have hV12 := hV11.below hbase hb12
              have hee : (rpE y1 == rpE y1) = true := by simp
              generalize rpE y1 = E2 at *
              go_wp2_with (go_at_call 13; refine (num_id _ _).mono ?_; rintro e wn ⟨rfl, hwn⟩; subst wn)
              go_ret
              exact ⟨rfl, hV12.B⟩
end Go.Proofs.YtdkcplndplhblaaGreatDoor

/- MsgEncodes by its contract. -/
namespace Go.Proofs.YtdkcplndplhblaaGreatDoor
open Go.RowKit
set_option maxRecDepth 100000

/-- Rows of unlike elements lie in unlike blocks. -/
theorem own_ne {w : World} {b1 b2 : Nat} {e1 e2 : TypeId} {k1 k2 n1 n2 c1 c2 g1 g2 : Nat} {xs ys : List Value} (h1 : w.ownsRow b1 e1 k1 (.slice (some ⟨g1, 0, none⟩) n1 c1) n1 xs) (h2 : w.ownsRow b2 e2 k2 (.slice (some ⟨g2, 0, none⟩) n2 c2) n2 ys) (hne : e1 ≠ e2) : g1 ≠ g2 := by
  rintro rfl
  rcases h1.2 with ⟨h, _⟩ | ⟨g, cap, cur, h, _, hh1, _⟩
  · cases h
  · cases h
    rcases h2.2 with ⟨h, _⟩ | ⟨g, cap, cur2, h, _, hh2, _⟩
    · cases h
    · cases h
      rw [hh1] at hh2
      cases hh2
      exact hne rfl
theorem three_bys : Bys three := by intro x hx; simp [three] at hx; omega
/-- What lies there while MsgEncodes goes on. -/
structure ES (w : World) (r : Req) (ao : Option Addr) (n c : Nat) (y : Rep) (bo : Option Addr) (m d : Nat) (lo : Option Addr) (ln lc : Nat) (bq g cap : Nat) (wr : World) : Prop where
  q : RqBox wr w.heap.size r ao n c
  p : RpBox wr (w.heap.size + 1) y bo m d lo ln lc
  x : RqBox wr bq r (some ⟨g, 0, none⟩) n cap
  o : wr.ownsRow w.heap.size 5 1 (.slice (some ⟨g, 0, none⟩) (n + 3) cap) (n + 3) ((r.data ++ three).map (Value.int .u8))
  B : Below w.heap.size w wr
theorem ES.below {w : World} {r : Req} {ao : Option Addr} {n c : Nat} {y : Rep} {bo : Option Addr} {m d : Nat} {lo : Option Addr} {ln lc bq g cap : Nat} {wr w' : World} (t : ES w r ao n c y bo m d lo ln lc bq g cap wr) (hb : Below wr.heap.size wr w') : ES w r ao n c y bo m d lo ln lc bq g cap w' :=
  ⟨RqBox.later t.q hb (Nat.le_refl _), RpBox.later t.p hb (Nat.le_refl _), RqBox.later t.x hb (Nat.le_refl _), own_below t.o hb, t.B.trans (hb.mono t.B.size)⟩

set_option maxHeartbeats 8000000 in
theorem encodes_any (r : Req) (ao : Option Addr) (n c : Nat) (y : Rep) (bo : Option Addr) (m d : Nat) (lo : Option Addr) (ln lc : Nat) (er : Nat → Addr) (w : World) (hE : Errs w er)
    (hD : Lies w ao n c r.data) (hn : n ≤ 1048576) (hp : r.path.size ≤ 1048576) (hby : Bys r.data) (hD2 : Lies w bo m d y.data) (hm : m ≤ 1048576) (hby2 : Bys y.data) (hN : CLies w lo ln lc 3 (entCells y.list)) (hel : y.list.length = ln) (hln : ln ≤ 1048576) :
    Calls Tryz.prog 4 #[rqV r ao n c, rpV y bo m d lo ln lc] w fun e w' => e = .returned (.bool true) ∧ Below w.heap.size w w' := by
  have HEL : Hid (y.list.length = ln) := hel
  clear hel
  obtain ⟨hq0, hp0, hb0⟩ := boxes2 r ao n c y bo m d lo ln lc w
  go_enter Tryz.func4, Tryz.ntmps4
  go_wp2_with fail
  generalize (w.alloc (.cells #[.int .i64 r.client, .int .i64 r.seq, .int .i64 r.ack, .int .i64 r.epoch, .int .i64 r.op, .int .i64 r.id, .int .i64 r.id2, .int .i64 r.off, .int .i64 r.len, .string r.path, .string r.name, .string r.name2, .slice ao n c] 24)).alloc (.cells #[.int .i64 y.client, .int .i64 y.seq, .int .i64 y.epoch, .int .i64 y.op, .int .i64 y.status, .int .i64 y.ai, .int .i64 y.ak, .int .i64 y.az, .int .i64 y.ac, .slice bo m d, .slice lo ln lc, .bool y.more] 30) = w0 at *
  refine (head_any er _ (hE.below hb0 (Nat.le_refl _))).mono ?_
  rintro e w1 ⟨rfl, hb1⟩
  have hq1 := RqBox.later hq0 hb1 (Nat.le_refl _)
  have hp1 := RpBox.later hp0 hb1 (Nat.le_refl _)
  have hB1 := hb0.trans (hb1.mono hb0.size)
  clear hq0 hp0 hb0 hb1
  have hq1' := hq1
  obtain ⟨q0, q1, q2, q3, q4, q5, q6, q7, q8, q9, q10, q11, q12⟩ := hq1'
  go_wp2_with fail
  clear q0 q1 q2 q3 q4 q5 q6 q7 q8 q9 q10 q11 q12
  refine (asked_any r ao n c _ (hD.below hB1 (Nat.le_refl _)) (by omega)).mono ?_
  rintro e w2 ⟨g, cap, rfl, hF2, hb2⟩
  have hbx := newBox w2 (.cells #[.int .i64 r.client, .int .i64 r.seq, .int .i64 r.ack, .int .i64 r.epoch, .int .i64 r.op, .int .i64 r.id, .int .i64 r.id2, .int .i64 r.off, .int .i64 r.len, .string r.path, .string r.name, .string r.name2, .slice (some ⟨g, 0, none⟩) n cap] 24)
  have hx2 := RqBox.new w2 r (some ⟨g, 0, none⟩) n cap
  have hb2x := hb2.trans (hbx.mono hb2.size)
  have hcap := own_cap hF2
  have hgl := (hF2.lt g rfl).2
  have hS2 : ES w r ao n c y bo m d lo ln lc w2.heap.size g cap (w2.alloc (.cells #[.int .i64 r.client, .int .i64 r.seq, .int .i64 r.ack, .int .i64 r.epoch, .int .i64 r.op, .int .i64 r.id, .int .i64 r.id2, .int .i64 r.off, .int .i64 r.len, .string r.path, .string r.name, .string r.name2, .slice (some ⟨g, 0, none⟩) n cap] 24)) := ⟨RqBox.later hq1 hb2x (Nat.le_refl _), RpBox.later hp1 hb2x (Nat.le_refl _), hx2, own_below (ownsRow_mono hF2 hB1.size) hbx, hB1.trans (hb2x.mono hB1.size)⟩
  have hgl2 : g < (w2.alloc (.cells #[.int .i64 r.client, .int .i64 r.seq, .int .i64 r.ack, .int .i64 r.epoch, .int .i64 r.op, .int .i64 r.id, .int .i64 r.id2, .int .i64 r.off, .int .i64 r.len, .string r.path, .string r.name, .string r.name2, .slice (some ⟨g, 0, none⟩) n cap] 24)).heap.size := by simp; omega
  clear hq1 hp1 hb2 hB1 hF2 hb2x hbx hgl
  obtain ⟨q0, q1, q2, q3, q4, q5, q6, q7, q8, q9, q10, q11, q12⟩ := hx2
  go_wp2_with fail
  clear q0 q1 q2 q3 q4 q5 q6 q7 q8 q9 q10 q11 q12
  generalize w2.alloc (.cells #[.int .i64 r.client, .int .i64 r.seq, .int .i64 r.ack, .int .i64 r.epoch, .int .i64 r.op, .int .i64 r.id, .int .i64 r.id2, .int .i64 r.off, .int .i64 r.len, .string r.path, .string r.name, .string r.name2, .slice (some ⟨g, 0, none⟩) n cap] 24) = w3 at *
  generalize w2.heap.size = bq at *
  have hP2 := (Lies.owned hS2.o).pre (k := n) (by omega)
  rw [List.take_left' (hD.hlen)] at hP2
  refine (encRq r _ n cap _ hP2 (by omega) hby).mono ?_
  rintro e w4 ⟨e4, k4, l4, rfl, hb4, ok4, no4⟩
  have hS4 := hS2.below hb4
  have hg4 := hb4.size
  have hs4 := hS4.q
  clear hS2 hP2
  obtain ⟨q0, q1, q2, q3, q4, q5, q6, q7, q8, q9, q10, q11, q12⟩ := hs4
  go_wp2_with fail
  clear q0 q1 q2 q3 q4 q5 q6 q7 q8 q9 q10 q11 q12
  refine (rencRq_any r ao n c _ (hD.below hS4.B (Nat.le_refl _)) hp hby).mono ?_
  rintro e w5 ⟨e5, k5, l5, rfl, hb5, ok5, no5⟩
  have hS5 := hS4.below hb5
  have hg5 := hb5.size
  have c6 := same_enc (E := rqE r) (X := rqB r) (a1 := e4) (a2 := e5) (k1 := k4) (c1 := l4) (k2 := k5) (c2 := l5) (w := w5) rqB_len (fun z => (ok4 z).below hb5 (Nat.le_refl _)) no4 ok5 (fun z => (no5 z).1)
  clear hS4 hb4 hb5 ok4 no4 ok5 no5
  go_wp2_with fail
  refine c6.mono ?_
  clear c6
  rintro e w6 ⟨rfl, hb6⟩
  have hS6 := hS5.below hb6
  have hg6 := hb6.size
  have hs6 := hS6.q
  clear hS5 hb6
  obtain ⟨q0, q1, q2, q3, q4, q5, q6, q7, q8, q9, q10, q11, q12⟩ := hs6
  go_wp2_with fail
  clear q0 q1 q2 q3 q4 q5 q6 q7 q8 q9 q10 q11 q12
  refine (room4 ao n c r.data _ (by omega) (hD.below hS6.B (Nat.le_refl _))).mono ?_
  rintro e w7 ⟨g7, c7, rfl, ho7, hb7⟩
  have hS7 := hS6.below hb7
  have hg7 := hb7.size
  have hR7 := Lies.owned ho7
  clear hS6 hb7 ho7
  go_wp2_with fail
  refine (same_any _ _ _ _ _ _ _ _ _ (by omega) (Lies.owned hS7.o) hR7).mono ?_
  rintro e w8 ⟨rfl, m8, hw8⟩
  have hb8 : Below w7.heap.size w7 w8 := by rw [hw8]; exact below_drewN (Below.refl _ _) m8
  have hS8 := hS7.below hb8
  have hg8 := hb8.size
  have hs8 := hS8.p
  clear hS7 hb8 hR7 hw8
  rw [decide_eq_true rfl]
  have hrr : (rqE r != rqE r) = false := by simp
  generalize rqE r = E6 at *
  obtain ⟨p0, p1, p2, p3, p4, p5, p6, p7, p8, p9, p10, p11⟩ := hs8
  go_wp2_with (go_at_call 13; refine (num_id _ _).mono ?_; rintro e wn ⟨rfl, hwn⟩; subst wn)
  clear p0 p1 p2 p3 p4 p5 p6 p7 p8 p9 p10 p11
  clear hrr
  refine (told_any y bo m d lo ln lc _ (hD2.below hS8.B (Nat.le_refl _)) (by omega) (hN.below hS8.B (Nat.le_refl _)) HEL.out (by omega)).mono ?_
  rintro e w9 ⟨g9, c9, h9, hc9, rfl, hF9, hG9, hb9⟩
  have hbx := newBox w9 (.cells #[.int .i64 y.client, .int .i64 y.seq, .int .i64 y.epoch, .int .i64 y.op, .int .i64 y.status, .int .i64 y.ai, .int .i64 y.ak, .int .i64 y.az, .int .i64 y.ac, .slice (some ⟨g9, 0, none⟩) m c9, .slice (some ⟨h9, 0, none⟩) ln hc9, .bool y.more] 30)
  have hx9 := RpBox.new w9 y (some ⟨g9, 0, none⟩) m c9 (some ⟨h9, 0, none⟩) ln hc9
  have hne : g9 ≠ h9 := own_ne hF9 hG9 (by decide)
  have hgg : g ≠ g9 := by have := (hF9.lt g9 rfl).1; omega
  have hgh : g ≠ h9 := by have := (hG9.lt h9 rfl).1; omega
  have hcap9 := own_cap hF9
  have hcapE := own_cap hG9
  have hS10 := hS8.below (hb9.trans (hbx.mono hb9.size))
  have hF10 := own_below (ownsRow_mono hF9 hS8.B.size) hbx
  have hG10 := own_below (ownsRow_mono hG9 hS8.B.size) hbx
  clear hS8 hb9 hF9 hG9 hbx
  have hx9' := hx9
  obtain ⟨p0, p1, p2, p3, p4, p5, p6, p7, p8, p9, p10, p11⟩ := hx9'
  go_wp2_with fail
  clear p0 p1 p2 p3 p4 p5 p6 p7 p8 p9 p10 p11
  generalize w9.alloc (.cells #[.int .i64 y.client, .int .i64 y.seq, .int .i64 y.epoch, .int .i64 y.op, .int .i64 y.status, .int .i64 y.ai, .int .i64 y.ak, .int .i64 y.az, .int .i64 y.ac, .slice (some ⟨g9, 0, none⟩) m c9, .slice (some ⟨h9, 0, none⟩) ln hc9, .bool y.more] 30) = w10 at *
  generalize w9.heap.size = bp at *
  have hP7 := (Lies.owned hF10).pre (k := m) (by omega)
  rw [List.take_left' (hD2.hlen)] at hP7
  have hQ7 := (CLies.owned hG10).ents (l := y.list) (k := ln) HEL.out (by omega)
  refine (encRp y _ m c9 _ ln hc9 _ hP7 hQ7 HEL.out hby2).mono ?_
  rintro e w11 ⟨e11, k11, l11, rfl, hb11, ok11, no11⟩
  have hS11 := hS10.below hb11
  have hx11 := RpBox.later hx9 hb11 (Nat.le_refl _)
  have hF11 := own_below hF10 hb11
  have hG11 := own_below hG10 hb11
  have hs11 := hS11.p
  clear hS10 hx9 hF10 hG10 hP7 hQ7 hb11
  obtain ⟨p0, p1, p2, p3, p4, p5, p6, p7, p8, p9, p10, p11⟩ := hs11
  go_wp2_with fail
  clear p0 p1 p2 p3 p4 p5 p6 p7 p8 p9 p10 p11
  refine (rencRp_any y bo m d lo ln lc _ (hD2.below hS11.B (Nat.le_refl _)) (hN.below hS11.B (Nat.le_refl _)) HEL.out hby2).mono ?_
  rintro e w12 ⟨e12, k12, l12, rfl, hb12, ok12, no12⟩
  have hS12 := hS11.below hb12
  have hx12 := RpBox.later hx11 hb12 (Nat.le_refl _)
  have hF12 := own_below hF11 hb12
  have hG12 := own_below hG11 hb12
  have c13 := same_enc (E := rpE y) (X := rpB y) (a1 := e11) (a2 := e12) (k1 := k11) (c1 := l11) (k2 := k12) (c2 := l12) (w := w12) rpB_len (fun z => (ok11 z).below hb12 (Nat.le_refl _)) no11 ok12 (fun z => (no12 z).1)
  clear hS11 hx11 hF11 hG11 hb12 ok11 no11 ok12 no12
  go_wp2_with fail
  refine c13.mono ?_
  clear c13
  rintro e w13 ⟨rfl, hb13⟩
  have hS13 := hS12.below hb13
  have hx13 := RpBox.later hx12 hb13 (Nat.le_refl _)
  have hF13 := own_below hF12 hb13
  have hG13 := own_below hG12 hb13
  have hs13 := hS13.p
  clear hS12 hx12 hF12 hG12 hb13
  obtain ⟨p0, p1, p2, p3, p4, p5, p6, p7, p8, p9, p10, p11⟩ := hs13
  go_wp2_with fail
  clear p0 p1 p2 p3 p4 p5 p6 p7 p8 p9 p10 p11
  refine (kept_true y bo m d lo ln lc _ c9 _ hc9 _ (hD2.below hS13.B (Nat.le_refl _)) (by omega) (hN.below hS13.B (Nat.le_refl _)) HEL.out (by omega) (Lies.owned hF13) (CLies.owned hG13)).mono ?_
  rintro e w14 ⟨rfl, hb14⟩
  have hS14 := hS13.below hb14
  have hx14 := RpBox.later hx13 hb14 (Nat.le_refl _)
  have hF14 := own_below hF13 hb14
  have hG14 := own_below hG13 hb14
  clear hS13 hx13 hF13 hG13 hb14
  have hyy : (rpE y != rpE y) = false := by simp
  generalize rpE y = E9 at *
  have hs14 := hS14.x
  obtain ⟨q0, q1, q2, q3, q4, q5, q6, q7, q8, q9, q10, q11, q12⟩ := hs14
  obtain ⟨p0, p1, p2, p3, p4, p5, p6, p7, p8, p9, p10, p11⟩ := hx14
  go_wp2_with (go_at_call 13; refine (num_id _ _).mono ?_; rintro e wn ⟨rfl, hwn⟩; subst wn)
  clear q0 q1 q2 q3 q4 q5 q6 q7 q8 q9 q10 q11 q12
  clear p0 p1 p2 p3 p4 p5 p6 p7 p8 p9 p10 p11
  clear hyy
  have hT : Trn w14 w.heap.size g n cap g9 m c9 h9 ln hc9 := ⟨⟨_, hby.app three_bys, hS14.o⟩, ⟨_, hby2.app three_bys, hF14⟩, ⟨_, by have := HEL.out; simp; omega, hG14⟩⟩
  refine (turned_true r y w.heap.size g n cap g9 m c9 h9 ln hc9 _ hT hgg hgh hne hS14.B.size hn hp hm hln).mono ?_
  rintro e w15 ⟨rfl, hb15⟩
  have hB15 := hS14.B.trans hb15
  go_wp2
  go_ret
  exact ⟨rfl, hB15⟩
end Go.Proofs.YtdkcplndplhblaaGreatDoor
