/- An alarm of bytes and one of ints beside one another. -/
import Derived.Test.YtbopghpfghaoeaaAB
import Derived.Test.YtbopghpfghaoeaaAH
import Derived.Test.YtbopghpfghaoeaaHBu
namespace Go.Proofs.Ytbopghpfghaoeaa
open Go.RowKit Go.Maps
set_option maxRecDepth 100000

theorem ou_oi : OU = OI := rfl
/-- Both show the same list. -/
structure Tu (w0 w : World) (lab : Nat → Nat) (a b : Nat) (Sa Sb : List (Int × Int)) : Prop where
  bk : Bk w0 lab w
  A : AlU w lab 1 a Sa
  B : AlI w lab 2 b Sb
theorem Tu.a {w0 w w' : World} {lab lab' : Nat → Nat} {a b : Nat} {Sa Sb S : List (Int × Int)} (h : Tu w0 w lab a b Sa Sb) (t : Turns (fun i => lab i = 1) w w') (hl : ∀ i, i < w.heap.size → lab' i = lab i) (hA : AlU w' lab' 1 a S) : Tu w0 w' lab' a b S Sb :=
  ⟨h.bk.to t (by decide) hl, hA, h.B.turns t (fun i _ e q => by omega) hl⟩
theorem Tu.b {w0 w w' : World} {lab lab' : Nat → Nat} {a b : Nat} {Sa Sb S : List (Int × Int)} (h : Tu w0 w lab a b Sa Sb) (t : Turns (fun i => lab i = 2) w w') (hl : ∀ i, i < w.heap.size → lab' i = lab i) (hB : AlI w' lab' 2 b S) : Tu w0 w' lab' a b Sa S :=
  ⟨h.bk.to t (by decide) hl, h.A.turns t (fun i _ e q => by omega) hl, hB⟩
theorem Tu.below {w0 w w' : World} {lab : Nat → Nat} {a b : Nat} {Sa Sb : List (Int × Int)} (h : Tu w0 w lab a b Sa Sb) (q : Below w.heap.size w w') (j : Nat) : Tu w0 w' (rl lab w j) a b Sa Sb := ⟨h.bk.below q j, h.A.below q j, h.B.below q j⟩
theorem Tu.drew {w0 w : World} {lab : Nat → Nat} {a b : Nat} {Sa Sb : List (Int × Int)} (h : Tu w0 w lab a b Sa Sb) (m : Nat) : Tu w0 (w.drewN m) lab a b Sa Sb := ⟨h.bk.drew m, h.A.drew m, h.B.drew m⟩
/-- What a call leaves. -/
def TuR (w0 w' : World) (a b : Nat) (Sa Sb : List (Int × Int)) : Prop := ∃ lab', Tu w0 w' lab' a b Sa Sb
theorem TuR.bel {w0 w : World} {a b : Nat} {Sa Sb : List (Int × Int)} (h : TuR w0 w a b Sa Sb) : Below w0.heap.size w0 w := by
  obtain ⟨l, T⟩ := h; exact T.bk.b
theorem TuR.drew {w0 w : World} {a b : Nat} {Sa Sb : List (Int × Int)} (h : TuR w0 w a b Sa Sb) (m : Nat) : TuR w0 (w.drewN m) a b Sa Sb := by
  obtain ⟨l, T⟩ := h; exact ⟨l, T.drew m⟩
theorem TuR.setA {w0 w : World} {a b : Nat} {Sa Sb : List (Int × Int)} (h : TuR w0 w a b Sa Sb) (k t : Int) (hk : 0 ≤ k ∧ k ≤ 255) (hl : Sa.length < 4398046511104) :
    Calls Try.prog 44 #[.pointer (some ⟨a, 0, none⟩), .int .u8 k, .int .i64 t] w fun e w' => e = .returned (.tuple #[]) ∧ TuR w0 w' a b (setS OI Sa k t) Sb := by
  obtain ⟨l, h⟩ := h
  refine (setA_U h.A k t hk hl).mono ?_
  rintro e w' ⟨rfl, q, t⟩
  exact ⟨rfl, _, h.a t (fun _ hi => rl_old hi) q⟩
theorem TuR.setB {w0 w : World} {a b : Nat} {Sa Sb : List (Int × Int)} (h : TuR w0 w a b Sa Sb) (k t : Int) (hk : 0 ≤ k ∧ k ≤ 255) (hl : Sb.length < 4398046511104) :
    Calls Try.prog 9 #[.pointer (some ⟨b, 0, none⟩), .int .i64 k, .int .i64 t] w fun e w' => e = .returned (.tuple #[]) ∧ TuR w0 w' a b Sa (setS OI Sb k t) := by
  obtain ⟨l, h⟩ := h
  refine (setA_I h.B k t (okI (by omega)) hl).mono ?_
  rintro e w' ⟨rfl, q, t⟩
  exact ⟨rfl, _, h.b t (fun _ hi => rl_old hi) q⟩
/-- Behind both Dues: the lists. -/
def TuD (w0 w' : World) (a b : Nat) (S : List (Int × Int)) (now : Int) (v u : Value) : Prop := w'.ownsRow 0 5 1 v (dueS S now).length (kvU (dueS S now)) ∧ w'.ownsRow 0 3 1 u (dueS S now).length (kvI (dueS S now)) ∧ TuR w0 w' a b (leftS S now) (leftS S now)
def TuE (w0 w' : World) (a b : Nat) (S : List (Int × Int)) (now : Int) (v : Value) : Prop := ∃ lab, w'.ownsRow 0 5 1 v (dueS S now).length (kvU (dueS S now)) ∧ (∀ c, v.ownBlock = some c → lab c = 3) ∧ Tu w0 w' lab a b (leftS S now) S
theorem TuR.dueA {w0 w : World} {a b : Nat} {S : List (Int × Int)} (h : TuR w0 w a b S S) (now : Int) :
    Calls Try.prog 46 #[.pointer (some ⟨a, 0, none⟩), .int .i64 now] w fun e w' => ∃ v, e = .returned v ∧ TuE w0 w' a b S now v := by
  obtain ⟨l, h⟩ := h
  refine (dueA_U h.A now 3).mono ?_
  rintro e w' ⟨v, rfl, l', o, hv, q, hl, t⟩
  exact ⟨v, rfl, l', o, fun c hc => (hv c hc).2, h.a t hl q⟩
theorem TuE.dueB {w0 w : World} {a b : Nat} {S : List (Int × Int)} {now : Int} {v : Value} (h : TuE w0 w a b S now v) :
    Calls Try.prog 10 #[.pointer (some ⟨b, 0, none⟩), .int .i64 now] w fun e w' => ∃ u, e = .returned u ∧ TuD w0 w' a b S now v u := by
  obtain ⟨lab, o, hv, h⟩ := h
  refine (dueA_I h.B now 3).mono ?_
  rintro e w' ⟨u, rfl, l', o2, _, q, hl, t⟩
  exact ⟨u, rfl, own_turns o t (fun c hc => by show ¬ lab c = 2; rw [hv c hc]; decide), o2, l', h.b t hl q⟩
theorem wrap8 (x : Int) : 0 ≤ IntKind.u8.wrap x ∧ IntKind.u8.wrap x ≤ 255 := by
  have h : IntKind.u8.wrap x = x % 256 := by simp [IntKind.wrap, IntKind.signed, IntKind.bits]
  omega
theorem wrap_u8_i64 {u : Int} (h : 0 ≤ u ∧ u ≤ 255) : IntKind.i64.wrap u = u := by
  simp [IntKind.wrap, IntKind.signed, IntKind.bits]
  omega
theorem TuR.oks {w0 w : World} {a b : Nat} {Sa Sb : List (Int × Int)} (h : TuR w0 w a b Sa Sb) : (∀ x ∈ Sa, 0 ≤ x.1 ∧ x.1 ≤ 255) ∧ Sa.length ≤ 4398046511104 := by
  obtain ⟨l, h⟩ := h
  exact ⟨fun x hx => h.A.srt.2.2.1 x hx, h.A.srt.2.2.2⟩
/-- The first of a list. -/
def hdS (S : List (Int × Int)) : Int × Int × Bool := match S with | [] => (0, 0, false) | m :: _ => (m.1, m.2, true)
theorem hdS_ok {S : List (Int × Int)} (h : ∀ x ∈ S, 0 ≤ x.1 ∧ x.1 ≤ 255) : 0 ≤ (hdS S).1 ∧ (hdS S).1 ≤ 255 := by
  cases S with
  | nil => simp [hdS]
  | cons m R => exact h m List.mem_cons_self
theorem TuR.nextA {w0 w : World} {a b : Nat} {S Sb : List (Int × Int)} (h : TuR w0 w a b S Sb) :
    Calls Try.prog 45 #[.pointer (some ⟨a, 0, none⟩)] w fun e w' => e = .returned (.tuple #[.int .u8 (hdS S).1, .int .i64 (hdS S).2.1, .bool (hdS S).2.2]) ∧ TuR w0 w' a b S Sb := by
  obtain ⟨l, T⟩ := h
  cases S with
  | nil => refine (nextN_U T.A).mono ?_; rintro e w' ⟨rfl, rfl⟩; exact ⟨rfl, l, T⟩
  | cons m R => refine (nextC_U T.A).mono ?_; rintro e w' ⟨rfl, q⟩; exact ⟨rfl, _, T.below q 3⟩
theorem TuR.nextB {w0 w : World} {a b : Nat} {S Sb : List (Int × Int)} (h : TuR w0 w a b Sb S) :
    Calls Try.prog 13 #[.pointer (some ⟨b, 0, none⟩)] w fun e w' => e = .returned (.tuple #[.int .i64 (hdS S).1, .int .i64 (hdS S).2.1, .bool (hdS S).2.2]) ∧ TuR w0 w' a b Sb S := by
  obtain ⟨l, T⟩ := h
  cases S with
  | nil => refine (nextN_I T.B).mono ?_; rintro e w' ⟨rfl, rfl⟩; exact ⟨rfl, l, T⟩
  | cons m R => refine (nextC_I T.B).mono ?_; rintro e w' ⟨rfl, q⟩; exact ⟨rfl, _, T.below q 3⟩
theorem TuR.lenA {w0 w : World} {a b : Nat} {S Sb : List (Int × Int)} (h : TuR w0 w a b S Sb) :
    Calls Try.prog 47 #[.pointer (some ⟨a, 0, none⟩)] w fun e w' => e = .returned (.int .i64 S.length) ∧ w' = w := by
  obtain ⟨l, T⟩ := h
  exact lenA_U T.A
theorem TuR.lenB {w0 w : World} {a b : Nat} {S Sb : List (Int × Int)} (h : TuR w0 w a b Sb S) :
    Calls Try.prog 14 #[.pointer (some ⟨b, 0, none⟩)] w fun e w' => e = .returned (.int .i64 S.length) ∧ w' = w := by
  obtain ⟨l, T⟩ := h
  exact lenA_I T.B
/-- What both lists hold at a place. -/
structure Lu (w0 w : World) (a1 a2 : Option Addr) (N c1 c2 : Nat) (D : List (Int × Int)) : Prop where
  b : Below w0.heap.size w0 w
  u : w.ownsRow 0 5 1 (.slice a1 N c1) N (kvU D)
  i : w.ownsRow 0 3 1 (.slice a2 N c2) N (kvI D)
  hN : D.length = N
  ok : ∀ x ∈ D, 0 ≤ x.1 ∧ x.1 ≤ 255
theorem Lu.drew {w0 w : World} {a1 a2 : Option Addr} {N c1 c2 : Nat} {D : List (Int × Int)} (h : Lu w0 w a1 a2 N c1 c2 D) : Lu w0 w.drew a1 a2 N c1 c2 D := ⟨h.b.trans ((below_drewN w 1).mono h.b.size), h.u, h.i, h.hN, h.ok⟩
theorem Lu.at {w0 w : World} {a1 a2 : Option Addr} {N c1 c2 : Nat} {D : List (Int × Int)} (h : Lu w0 w a1 a2 N c1 c2 D) {j : Nat} (hj : j < N) : ∃ g1 g2 x, a1 = some ⟨g1, 0, none⟩ ∧ a2 = some ⟨g2, 0, none⟩ ∧ N ≤ c1 ∧ N ≤ c2 ∧ (0 ≤ x ∧ x ≤ 255) ∧ w.cell? ⟨g1, j, none⟩ = some (.int .u8 x) ∧ w.cell? ⟨g2, j, none⟩ = some (.int .i64 x) := by
  have hl : j < D.length := by rw [h.hN]; exact hj
  obtain ⟨g1, rfl, r1⟩ : ∃ g, a1 = some ⟨g, 0, none⟩ ∧ N ≤ c1 := by
    rcases own_shape h.u with ⟨_, q⟩ | ⟨g, cap, q, r, _⟩
    · omega
    · cases q; exact ⟨g, rfl, r⟩
  obtain ⟨g2, rfl, r2⟩ : ∃ g, a2 = some ⟨g, 0, none⟩ ∧ N ≤ c2 := by
    rcases own_shape h.i with ⟨_, q⟩ | ⟨g, cap, q, r, _⟩
    · omega
    · cases q; exact ⟨g, rfl, r⟩
  refine ⟨g1, g2, D[j].1, rfl, rfl, r1, r2, h.ok _ (List.getElem_mem hl), ?_, ?_⟩
  · refine (h.u.cellAt j (by omega)).trans ?_
    simp [kvU, hl]
  · refine (h.i.cellAt j (by omega)).trans ?_
    simp [kvI, hl]
theorem TuD.lu {w0 w : World} {a b : Nat} {S : List (Int × Int)} {now : Int} {v u : Value} (h : TuD w0 w a b S now v u) (hS : ∀ x ∈ S, 0 ≤ x.1 ∧ x.1 ≤ 255) : ∃ a1 a2 c1 c2, v = .slice a1 (dueS S now).length c1 ∧ u = .slice a2 (dueS S now).length c2 ∧ Lu w0 w a1 a2 (dueS S now).length c1 c2 (dueS S now) ∧ TuR w0 w a b (leftS S now) (leftS S now) := by
  obtain ⟨h1, h2, h3⟩ := h
  obtain ⟨a1, c1, rfl⟩ := own_slice h1
  obtain ⟨a2, c2, rfl⟩ := own_slice h2
  exact ⟨a1, a2, c1, c2, rfl, rfl, ⟨h3.bel, h1, h2, rfl, fun x hx => hS x ((List.takeWhile_sublist _).subset hx)⟩, h3⟩
end Go.Proofs.Ytbopghpfghaoeaa
