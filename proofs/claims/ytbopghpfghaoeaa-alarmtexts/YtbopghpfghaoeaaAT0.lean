/- An alarm of texts and the document's beside one another; lists of texts held against each other; steps that came in. -/
import Derived.Test.YtbopghpfghaoeaaAH
import Derived.Test.YtbopghpfghaoeaaD6s
namespace Go.Proofs.Ytbopghpfghaoeaa
open Go.RowKit Go.Maps
set_option maxRecDepth 100000
attribute [local go_sem ↓] Go.wp_at_zero Go.wp_at_succ

set_option maxHeartbeats 1000000 in
theorem sameT_eq {w : World} {v1 v2 : Value} {b1 b2 n : Nat} {xs : List ByteArray} (h1 : w.ownsRow b1 9 1 v1 n (xs.map Value.string)) (h2 : w.ownsRow b2 9 1 v2 n (xs.map Value.string)) (hn : n ≤ 4398046511104) :
    Calls Try.prog 28 #[v1, v2] w fun e w' => e = .returned (.bool true) ∧ ∃ m, w' = w.drewN m := by
  obtain ⟨a1, c1, hv1⟩ := own_slice h1
  obtain ⟨a2, c2, hv2⟩ := own_slice h2
  subst hv1 hv2
  have hl : xs.length = n := by simpa using h1.1
  have HL : Hid (xs.length = n) := hl
  have H1 : Hid (w.ownsRow b1 9 1 (.slice a1 n c1) n (xs.map Value.string)) := h1
  have H2 : Hid (w.ownsRow b2 9 1 (.slice a2 n c2) n (xs.map Value.string)) := h2
  have d0 : (n : Int) ≤ 4398046511104 := by omega
  clear h1 h2 hl
  go_enter Try.func28, Try.ntmps28
  go_wp2_with fail
  go_loopw [5] (fun u wr => ∃ i m : Nat, i ≤ n ∧ u = .int .i64 i ∧ wr = w.drewN m) (fun u _ => n + 1 - (intOf u).toNat)
  case atStart => exact ⟨0, 0, Nat.zero_le _, rfl, rfl⟩
  case round =>
    obtain ⟨i, m, hi, rfl, rfl⟩ := hrel
    by_cases hlt : i < n
    · obtain ⟨x, hx⟩ : ∃ x, xs[i]? = some x := ⟨_, List.getElem?_eq_getElem (by rw [HL.out]; exact hlt)⟩
      have hx' : (xs.map Value.string)[i]? = some (.string x) := by simp [hx]
      obtain ⟨g1, rfl, hc1⟩ : ∃ gl, a1 = some ⟨gl, 0, none⟩ ∧ n ≤ c1 := by
        rcases own_shape H1.out with ⟨_, q⟩ | ⟨gl, cap', q, r, _⟩
        · omega
        · cases q; exact ⟨gl, rfl, r⟩
      obtain ⟨g2, rfl, hc2⟩ : ∃ gl, a2 = some ⟨gl, 0, none⟩ ∧ n ≤ c2 := by
        rcases own_shape H2.out with ⟨_, q⟩ | ⟨gl, cap', q, r, _⟩
        · omega
        · cases q; exact ⟨gl, rfl, r⟩
      have x0 := (H1.out.cellAt i (by omega)).trans hx'
      have y0 := (H2.out.cellAt i (by omega)).trans hx'
      have e1 : (i : Int) < n := by omega
      have e2 : (0 : Int) ≤ i := by omega
      clear hx hx'
      go_wp2_with fail
      go_quiet (fail)
      go_wp2_with fail
      go_roundw
      case rel => exact ⟨i + 1, m + nq, by omega, by go_num, by first | rfl | simp⟩
      case measure => simp [intOf]; omega
    · go_wp2_with fail
      go_ret
      exact ⟨rfl, m, rfl⟩
/-- An alarm of texts, and the document's. -/
structure Ps (w0 w : World) (lab : Nat → Nat) (a d : Nat) (Sa Sd : List (ByteArray × Int)) : Prop where
  bk : Bk w0 lab w
  A : AlS w lab 1 a Sa
  D : ReS w lab 2 d Sd
theorem Ps.a {w0 w w' : World} {lab lab' : Nat → Nat} {a d : Nat} {Sa Sd S : List (ByteArray × Int)} (h : Ps w0 w lab a d Sa Sd) (t : Turns (fun i => lab i = 1) w w') (hl : ∀ i, i < w.heap.size → lab' i = lab i) (hA : AlS w' lab' 1 a S) : Ps w0 w' lab' a d S Sd :=
  ⟨h.bk.to t (by decide) hl, hA, h.D.turns t (fun i _ e q => by omega) hl⟩
theorem Ps.d {w0 w w' : World} {lab lab' : Nat → Nat} {a d : Nat} {Sa Sd S : List (ByteArray × Int)} (h : Ps w0 w lab a d Sa Sd) (t : Turns (fun i => lab i = 2) w w') (hl : ∀ i, i < w.heap.size → lab' i = lab i) (hD : ReS w' lab' 2 d S) : Ps w0 w' lab' a d Sa S :=
  ⟨h.bk.to t (by decide) hl, h.A.turns t (fun i _ e q => by omega) hl, hD⟩
theorem Ps.below {w0 w w' : World} {lab : Nat → Nat} {a d : Nat} {Sa Sd : List (ByteArray × Int)} (h : Ps w0 w lab a d Sa Sd) (q : Below w.heap.size w w') (j : Nat) : Ps w0 w' (rl lab w j) a d Sa Sd := ⟨h.bk.below q j, h.A.below q j, h.D.below q j⟩
theorem Ps.drew {w0 w : World} {lab : Nat → Nat} {a d : Nat} {Sa Sd : List (ByteArray × Int)} (h : Ps w0 w lab a d Sa Sd) (m : Nat) : Ps w0 (w.drewN m) lab a d Sa Sd := ⟨h.bk.drew m, h.A.drew m, h.D.drew m⟩
/-- What a call leaves of both. -/
def PsR (k : Nat) (w0 w w' : World) (lab : Nat → Nat) (a d : Nat) (Sa Sd : List (ByteArray × Int)) : Prop := ∃ lab', Ps w0 w' lab' a d Sa Sd ∧ (∀ i, i < w.heap.size → lab' i = lab i) ∧ Turns (fun i => lab i = k) w w'
theorem Ps.setA {w0 w : World} {lab : Nat → Nat} {a d : Nat} {Sa Sd : List (ByteArray × Int)} (h : Ps w0 w lab a d Sa Sd) (k : ByteArray) (t : Int) (hk : k.size ≤ maxLen) (hl : Sa.length < 4398046511104) :
    Calls Try.prog 20 #[.pointer (some ⟨a, 0, none⟩), .string k, .int .i64 t] w fun e w' => e = .returned (.tuple #[]) ∧ PsR 1 w0 w w' lab a d (setS OS Sa k t) Sd := by
  refine (setA_S h.A k t hk hl).mono ?_
  rintro e w' ⟨rfl, q, t⟩
  exact ⟨rfl, _, h.a t (fun _ hi => rl_old hi) q, fun _ hi => rl_old hi, t⟩
theorem Ps.setD {w0 w : World} {lab : Nat → Nat} {a d : Nat} {Sa Sd : List (ByteArray × Int)} (h : Ps w0 w lab a d Sa Sd) (k : ByteArray) (t : Int) (hl : Sd.length < 4398046511104) :
    Calls Try.prog 21 #[.pointer (some ⟨d, 0, none⟩), .agg #[.int .i64 0, .string k], .int .i64 t] w fun e w' => e = .returned (.tuple #[]) ∧ PsR 2 w0 w w' lab a d Sa (setS OS Sd k t) := by
  refine (dset_S h.D k t hl).mono ?_
  rintro e w' ⟨rfl, q, t⟩
  exact ⟨rfl, _, h.d t (fun _ hi => rl_old hi) q, fun _ hi => rl_old hi, t⟩
theorem Ps.cancelA {w0 w : World} {lab : Nat → Nat} {a d : Nat} {Sa Sd : List (ByteArray × Int)} (h : Ps w0 w lab a d Sa Sd) (k : ByteArray) (hk : k.size ≤ maxLen) :
    Calls Try.prog 22 #[.pointer (some ⟨a, 0, none⟩), .string k] w fun e w' => e = .returned (.bool (atS Sa k).isSome) ∧ PsR 1 w0 w w' lab a d (cutS Sa k) Sd := by
  refine (cancelA_S h.A k hk).mono ?_
  rintro e w' ⟨rfl, q, t⟩
  exact ⟨rfl, _, h.a t (fun _ hi => rl_old hi) q, fun _ hi => rl_old hi, t⟩
theorem Ps.cancelD {w0 w : World} {lab : Nat → Nat} {a d : Nat} {Sa Sd : List (ByteArray × Int)} (h : Ps w0 w lab a d Sa Sd) (k : ByteArray) :
    Calls Try.prog 23 #[.pointer (some ⟨d, 0, none⟩), .agg #[.int .i64 0, .string k]] w fun e w' => e = .returned (.bool (atS Sd k).isSome) ∧ PsR 2 w0 w w' lab a d Sa (cutS Sd k) := by
  refine (dcancel_S h.D k).mono ?_
  rintro e w' ⟨rfl, q, t⟩
  exact ⟨rfl, _, h.d t (fun _ hi => rl_old hi) q, fun _ hi => rl_old hi, t⟩
/-- The list that Due hands out is labelled 3. -/
def PsDa (w0 w w' : World) (lab : Nat → Nat) (a d : Nat) (Sa Sd D : List (ByteArray × Int)) (v : Value) : Prop := ∃ lab', w'.ownsRow 0 9 1 v D.length ((D.map Prod.fst).map Value.string) ∧ (∀ c, v.ownBlock = some c → w.heap.size ≤ c ∧ lab' c = 3) ∧ Ps w0 w' lab' a d Sa Sd ∧ (∀ i, i < w.heap.size → lab' i = lab i) ∧ Turns (fun i => lab i = 1) w w'
def PsDd (w0 w w' : World) (lab : Nat → Nat) (a d : Nat) (Sa Sd D : List (ByteArray × Int)) (v : Value) : Prop := ∃ lab', w'.ownsRow 0 51 2 v D.length (D.flatMap kcS) ∧ Ps w0 w' lab' a d Sa Sd ∧ (∀ i, i < w.heap.size → lab' i = lab i) ∧ Turns (fun i => lab i = 2) w w'
theorem kvS_eq (S : List (ByteArray × Int)) : kvS S = (S.map Prod.fst).map Value.string := by simp [kvS]
theorem Ps.dueA {w0 w : World} {lab : Nat → Nat} {a d : Nat} {Sa Sd : List (ByteArray × Int)} (h : Ps w0 w lab a d Sa Sd) (now : Int) :
    Calls Try.prog 29 #[.pointer (some ⟨a, 0, none⟩), .int .i64 now] w fun e w' => ∃ v, e = .returned v ∧ PsDa w0 w w' lab a d (leftS Sa now) Sd (dueS Sa now) v := by
  refine (dueA_S h.A now 3).mono ?_
  rintro e w' ⟨v, rfl, l', o, hv, q, hl, t⟩
  rw [kvS_eq] at o
  exact ⟨v, rfl, l', o, hv, h.a t hl q, hl, t⟩
theorem Ps.dueD {w0 w : World} {lab : Nat → Nat} {a d : Nat} {Sa Sd : List (ByteArray × Int)} (h : Ps w0 w lab a d Sa Sd) (now : Int) :
    Calls Try.prog 31 #[.pointer (some ⟨d, 0, none⟩), .int .i64 now] w fun e w' => ∃ v, e = .returned v ∧ PsDd w0 w w' lab a d Sa (leftS Sd now) (dueS Sd now) v := by
  refine (ddue_S h.D now 3).mono ?_
  rintro e w' ⟨v, rfl, l', o, hv, q, hl, t⟩
  exact ⟨v, rfl, l', o, h.d t hl q, hl, t⟩
/-- A step that came in. -/
structure Wd where
  k : Int
  s : ByteArray
  a : Int
structure WLies (w : World) (ao : Option Addr) (n : Nat) (es : List Wd) : Prop where
  hlen : es.length = n
  hcells : ∀ (j : Nat) e, es[j]? = some e → e.s.size ≤ maxLen ∧ ∃ g p, ao = some ⟨g, p, none⟩ ∧ w.cell? ⟨g, p + j * 3, none⟩ = some (.int .i64 e.k) ∧ w.cell? ⟨g, p + j * 3 + 1, none⟩ = some (.string e.s) ∧ w.cell? ⟨g, p + j * 3 + 2, none⟩ = some (.int .i64 e.a)
theorem WLies.at {w : World} {ao : Option Addr} {n : Nat} {es : List Wd} (h : WLies w ao n es) (j : Nat) (hj : j < n) : ∃ g p k s a, ao = some ⟨g, p, none⟩ ∧ s.size ≤ maxLen ∧ w.cell? ⟨g, p + j * 3, none⟩ = some (.int .i64 k) ∧ w.cell? ⟨g, p + j * 3 + 1, none⟩ = some (.string s) ∧ w.cell? ⟨g, p + j * 3 + 2, none⟩ = some (.int .i64 a) := by
  have hl : j < es.length := by rw [h.hlen]; exact hj
  obtain ⟨h1, g, p, h2, h3, h4, h5⟩ := h.hcells j es[j] (List.getElem?_eq_getElem hl)
  exact ⟨g, p, _, _, _, h2, h1, h3, h4, h5⟩
end Go.Proofs.Ytbopghpfghaoeaa
