/- Plain words on worlds, bytes and numbers, which the contracts below use. -/
import Derived.Test.YtdkcplndplhblaaGreatDoorChecked
import Derived.WalkKit
import Derived.WalkSpells
import Derived.WalkLawsBesides
import Derived.Maps.AppendAt
import Derived.LaidEql
import Derived.Stop.Asserts
import Derived.RowKitTokens
import Derived.BigQuiet
import Derived.Deep.QuietTactic
import Derived.OpenShut
import Derived.Laws.BitsAllLaws
import Derived.Recover
import Derived.Orders
namespace Go.Proofs.YtdkcplndplhblaaGreatDoor
open Go.RowKit
set_option maxRecDepth 100000

theorem Tryz.info5 : (Tryz.prog.info? 5).map (fun i => (i.zero, i.size, i.bytes)) = some (some (.int .u8 0), 1, 1) := by kernel_rfl

/-- A number's digits to the base 256, the greatest first. -/
def be (X : Int) : Nat → List Int
  | 0 => []
  | k + 1 => (X / 2 ^ (8 * k) % 256) :: be X k
theorem be_length (X : Int) (k : Nat) : (be X k).length = k := by
  induction k with
  | zero => rfl
  | succ k ih => simp [be, ih]

theorem grown_trans {a b c : World} {row : Option Nat} (h : a.grownBy b row) (k : b.grownBy c row) : a.grownBy c row :=
  ⟨k.os.trans h.os, k.tape.trans h.tape, k.output.trans h.output, Nat.le_trans h.size k.size, fun i hi hr => (k.block i (Nat.lt_of_lt_of_le hi h.size) hr).trans (h.block i hi hr)⟩

/-- The slice value '.slice ao len cap' reads as the bytes bs. -/
structure Lies (w : World) (ao : Option Addr) (len cap : Nat) (bs : List Int) : Prop where
  hlen : bs.length = len
  hle : len ≤ cap
  hnone : ao = none → len = 0 ∧ cap = 0
  hcells : ∀ ad, ao = some ad → ∀ t u, (bs.map (Value.int .u8))[t]? = some u → w.cell? (ad.add t) = some u

theorem Lies.below {B : Nat} {w w' : World} {ao : Option Addr} {len cap : Nat} {bs : List Int} (h : Lies w ao len cap bs) (hb : Below B w w') (hB : w.heap.size ≤ B) : Lies w' ao len cap bs :=
  ⟨h.hlen, h.hle, h.hnone, fun ad had t u hu => by
    have hc := h.hcells ad had t u hu
    exact (hb.cell (Nat.lt_of_lt_of_le (World.block_lt_of_cell? w _ hc) hB)).trans hc⟩

theorem add_block (a : Addr) (t : Nat) : (a.add t).block = a.block := by cases a; simp [Addr.add]; try (split <;> rfl)

theorem Lies.grown {w w' : World} {row : Option Nat} {ao : Option Addr} {len cap : Nat} {bs : List Int} (h : Lies w ao len cap bs) (hg : w.grownBy w' row) (hne : ∀ ad, ao = some ad → some ad.block ≠ row) : Lies w' ao len cap bs :=
  ⟨h.hlen, h.hle, h.hnone, fun ad had t u hu => hg.cell (h.hcells ad had t u hu) (by rw [add_block]; exact hne ad had)⟩

/-- A row of the call's own reads as its bytes. -/
theorem Lies.own {w : World} {base g n cap : Nat} {bs : List Int} (h : w.ownsRow base 5 1 (.slice (some ⟨g, 0, Option.none⟩) n cap) n (bs.map (Value.int .u8))) : Lies w (some ⟨g, 0, Option.none⟩) n cap bs := by
  have hl : bs.length = n := by simpa using h.1
  refine ⟨hl, ?_, (fun h => by cases h), fun ad had t u hu => ?_⟩
  · rcases h.2 with ⟨hv, _⟩ | ⟨g', cap', cur, hv, _, _, hnc, _⟩
    · cases hv
    · cases hv; exact hnc
  · obtain rfl := Option.some.inj had
    have ht : t < n := by
      have := (List.getElem?_eq_some_iff.1 hu).1
      simpa [hl] using this
    rw [Addr.add_lit, Nat.zero_add, h.cellAt t (by omega)]
    exact hu
theorem Lies.nil (w : World) : Lies w Option.none 0 0 [] := ⟨rfl, Nat.le_refl _, fun _ => ⟨rfl, rfl⟩, fun _ h => by cases h⟩

theorem ownsRow_mono {w : World} {base base' : Nat} {e : TypeId} {size : Nat} {v : Value} {n : Nat} {xs : List Value} (h : w.ownsRow base e size v n xs) (hb : base' ≤ base) : w.ownsRow base' e size v n xs := by
  obtain ⟨h1, h2⟩ := h
  refine ⟨h1, ?_⟩
  rcases h2 with h2 | ⟨g, cap, cur, hv, hg, r⟩
  · exact Or.inl h2
  · exact Or.inr ⟨g, cap, cur, hv, Nat.le_trans hb hg, r⟩

/-- The n of Go's padding. -/
def padN (n : Nat) : Nat := (4 - n % 4) % 4
end Go.Proofs.YtdkcplndplhblaaGreatDoor

/- append onto a slice that the call owns: in its own row, or in a new block, and then the old row is as it was. -/
namespace Go.Proofs.YtdkcplndplhblaaGreatDoor
open Go.RowKit

section
variable {P : Program} (w : World)

/-- Where the new slice lies. -/
def Laid (w w' : World) (v v' : Value) (n k : Nat) : Prop :=
  (∃ g cap, v = .slice (some ⟨g, 0, none⟩) n cap ∧ v' = .slice (some ⟨g, 0, none⟩) k cap ∧ w.grownBy w' (some g)) ∨ (∃ cap', v' = .slice (some ⟨w.heap.size, 0, none⟩) k cap' ∧ w.grownBy w' none)

theorem run_append_own_split (base : Nat) (t ty e : TypeId) (i : TypeInfo) (z : Value) (size bytes : Nat) (ht : P.underlying t = some (.slice e)) (hi : P.info? e = some i) (hz : i.zero = some z)
    (hsize : i.size = size) (hby : i.bytes = bytes) (hzs : z.cells.size = size) (hsz : 0 < size)
    (v : Value) (n : Nat) (xs : List Value) (hown : w.ownsRow base e size v n xs)
    (a : Addr) (m c : Nat) (news : List Value) (hm : 0 < m) (hl : news.length = m * size) (hnews : ∀ j u, news[j]? = some u → w.cell? (a.add j) = some u) (h1 : ∀ u ∈ news, u.oneCell' = true)
    (h63 : n + m ≤ maxLen) (hbytes : (n + m) * bytes ≤ 140737488355328) (hbase : base ≤ w.heap.size) :
    ∃ v' w', (Builtin.append_ #[t, t] ty #[v, .slice (some a) m c]).run P w = .ok v' w' ∧ w'.ownsRow base e size v' (n + m) (xs ++ news) ∧ Laid w w' v v' n (n + m) := by
  obtain ⟨v', w', hr, h2, h3, _, _⟩ := run_append_own_at (P := P) w base t ty e i z size bytes ht hi hz hsize hby hzs hsz v n xs hown a m c news hl hnews h1 h63 hbytes hbase
  refine ⟨v', w', hr, h2, ?_⟩
  subst hsize
  subst hby
  have hsmall : n + m ≤ 9223372036854775807 := by simp only [maxLen] at h63; omega
  rcases hown.2 with ⟨rfl, rfl⟩ | ⟨g, cap, cur, rfl, hbg, hg, hnc, hcm, hcs, htake⟩
  · have hr2 := run_append_nil (P := P) w t ty e i z ht hi hz a m c news hl hnews (by omega) (by omega) (by have hb := hbytes; simp only [Nat.zero_add] at hb; omega)
    rw [hr2] at hr
    cases hr
    right
    exact ⟨_, by rw [Nat.zero_add], ⟨rfl, rfl, rfl, by simp, fun k hk _ => Below.heap_alloc w.drew _ k hk⟩⟩
  · by_cases hroom : n + m ≤ cap
    · have hfit : n * i.size + news.length ≤ cur.size := by rw [hl, hcs, ← Nat.add_mul]; exact Nat.mul_le_mul_right _ hroom
      have hr2 := run_append_room (P := P) w t ty e i ht hi g n cap cur hg a m c news hl hnews h1 hroom hfit
      rw [hr2] at hr
      cases hr
      left
      exact ⟨g, cap, rfl, rfl, h3⟩
    · have holds : ∀ j u, xs[j]? = some u → w.cell? ((⟨g, 0, none⟩ : Addr).add j) = some u := hown.cells (g := g) rfl
      have hr2 := run_append_grow (P := P) w t ty e i z ht hi hz ⟨g, 0, none⟩ n cap xs hown.1 holds a m c news hl hnews (by omega) (by omega) (growslice_fits (by omega) hbytes)
      rw [hr2] at hr
      cases hr
      right
      exact ⟨_, rfl, ⟨rfl, rfl, rfl, by simp, fun k hk _ => Below.heap_alloc w.drew _ k hk⟩⟩

theorem wpList_append_own_split {ops : Array Oper} {rest : List Oper} {o : Oper} {a : Act} {Q : Exit → Act → World → Prop} (hgd : o.guard = none) (s x : Operand) (t : TypeId)
    (ho : o.op = .call { callee := .builtin .append, args := #[s, x], argTypes := #[t, t] })
    (base : Nat) (e : TypeId) (i : TypeInfo) (z : Value) (size bytes : Nat) (ht : P.underlying t = some (.slice e)) (hi : P.info? e = some i) (hz : i.zero = some z)
    (hsize : i.size = size) (hby : i.bytes = bytes) (hzs : z.cells.size = size) (hsz : 0 < size)
    (v : Value) (n : Nat) (xs : List Value) (hs : a.eval s = v) (hown : w.ownsRow base e size v n xs)
    (ad : Addr) (m c : Nat) (news : List Value) (hm : 0 < m) (hx : a.eval x = .slice (some ad) m c) (hl : news.length = m * size) (hnews : ∀ j u, news[j]? = some u → w.cell? (ad.add j) = some u) (h1 : ∀ u ∈ news, u.oneCell' = true)
    (h63 : n + m ≤ maxLen) (hbytes : (n + m) * bytes ≤ 140737488355328) (hbase : base ≤ w.heap.size)
    (h : ∀ v' w', w'.ownsRow base e size v' (n + m) (xs ++ news) → Laid w w' v v' n (n + m) → wpList P ops Q rest (a.put o.dst v') w') :
    wpList P ops Q (o :: rest) a w := by
  refine wpList_plain hgd fun K hK => ?_
  obtain ⟨v', w', hr, h2, h3⟩ := run_append_own_split (P := P) w base t o.type e i z size bytes ht hi hz hsize hby hzs hsz v n xs hown ad m c news hm hl hnews h1 h63 hbytes hbase
  unfold Oper.wp execOp
  simp only [ho, resolve, invoke, builtin, Sem.run_bind, Sem.run_pure, Result.andThen_ok, List.map_toArray, List.map_cons, List.map_nil, hs, hx, hr]
  exact hK _ _ (h v' w' h2 h3)
end
end Go.Proofs.YtdkcplndplhblaaGreatDoor

/- errors.Is at this dump, for the package's five sentinels: the same one is found, another one is not. -/
namespace Go.Proofs.YtdkcplndplhblaaGreatDoor
open Go.RowKit Go.Extern.Stop Go.Stop Go.Extern Go.Extern.Rtype
set_option maxRecDepth 100000

theorem isTypeOf (v : Value) (w : World) : (Extern.ReflectliteType.typeOf #[.iface 223 v]).run Tryz.prog w = .ok (.iface 209 (.agg #[.pointer (some ⟨6, 223, none⟩)])) w := by kernel_rfl
def cmpFn : Array Value → Sem Value := Extern.ReflectliteType.method fun t => do noPackHeld "Comparable" t; pure (.bool (← typeInfo t).comparable)
theorem isComparable (w : World) : (cmpFn #[.agg #[.pointer (some ⟨6, 223, none⟩)]]).run Tryz.prog w = .ok (.bool true) w := by kernel_rfl
theorem isMethodComparable (v : Value) (w : World) : (Go.method 359 209 v "Comparable").run Tryz.prog w = .ok (226, v) w := by kernel_rfl
theorem isComp : (Tryz.prog.info? 223).map (·.comparable) = some true := by kernel_rfl
theorem isSize : (Tryz.prog.info? 247).map (·.size) = some 1 := by kernel_rfl
theorem noIsE (v : Value) (xT : TypeId) (w : World) : (Instr.typeAssert (.iface 223 v) xT 211 true).run Tryz.prog w = .ok (.tuple #[.nilIface, .bool false]) w := run_typeAssert_lacksB Tryz.underlying211 (by kernel_rfl) (by kernel_rfl) v xT w
theorem noUnwrapE (v : Value) (xT : TypeId) (w : World) : (Instr.typeAssert (.iface 223 v) xT 214 true).run Tryz.prog w = .ok (.tuple #[.nilIface, .bool false]) w := run_typeAssert_lacksB Tryz.underlying214 (by kernel_rfl) (by kernel_rfl) v xT w
theorem noUnwrapsE (v : Value) (xT : TypeId) (w : World) : (Instr.typeAssert (.iface 223 v) xT 216 true).run Tryz.prog w = .ok (.tuple #[.nilIface, .bool false]) w := run_typeAssert_lacksB Tryz.underlying216 (by kernel_rfl) (by kernel_rfl) v xT w

/-- errors.Is(x, x), x a pointer to an errors.errorString. -/
theorem is_same (a : Addr) (w : World) :
    Calls Tryz.prog 161 #[.iface 223 (.pointer (some a)), .iface 223 (.pointer (some a))] w fun e w' => e = .returned (.bool true) ∧ w' = w := by
  obtain ⟨i, hi, hcmp⟩ := Option.map_eq_some_iff.1 isComp
  obtain ⟨j, hj, hjs⟩ := Option.map_eq_some_iff.1 isSize
  have h8 := @run_callFunc_extern Tryz.prog 164 _ Extern.ReflectliteType.typeOf Tryz.func164 (by kernel_rfl) (by kernel_rfl) (by kernel_rfl) (by kernel_rfl)
  have h32 := @run_callFunc_extern Tryz.prog 226 _ cmpFn Tryz.func226 (by kernel_rfl) (by kernel_rfl) (by kernel_rfl) (by kernel_rfl)
  have tT := isTypeOf
  have cT := isComparable
  have mR := isMethodComparable
  have heq := run_eql_iface_ptr_same (P := Tryz.prog) w a Tryz.underlying193 Tryz.underlying223 hi hcmp hj
  go_enter Tryz.func161, Tryz.ntmps161
  go_wp2
  refine wp_loop_rounds 1 ?_
  rw [rounds_succ]
  go_wp2
  go_ret
  exact ⟨rfl, rfl⟩

/-- errors.Is(x, y), two different pointers to errors.errorString: neither has Is nor Unwrap: false. -/
theorem is_other (a b : Addr) (ca cb : Array Value) (ta tb : TypeId) (w : World) (hne : a ≠ b) (ha : w.heap[a.block]? = some (.cells ca ta (0, 0))) (hb : w.heap[b.block]? = some (.cells cb tb (0, 0))) :
    Calls Tryz.prog 161 #[.iface 223 (.pointer (some a)), .iface 223 (.pointer (some b))] w fun e w' => e = .returned (.bool false) ∧ w' = w := by
  obtain ⟨i, hi, hcmp⟩ := Option.map_eq_some_iff.1 isComp
  obtain ⟨j, hj, hjs⟩ := Option.map_eq_some_iff.1 isSize
  have h8 := @run_callFunc_extern Tryz.prog 164 _ Extern.ReflectliteType.typeOf Tryz.func164 (by kernel_rfl) (by kernel_rfl) (by kernel_rfl) (by kernel_rfl)
  have h32 := @run_callFunc_extern Tryz.prog 226 _ cmpFn Tryz.func226 (by kernel_rfl) (by kernel_rfl) (by kernel_rfl) (by kernel_rfl)
  have tT := isTypeOf
  have cT := isComparable
  have mR := isMethodComparable
  have nE := noIsE
  have uE := noUnwrapE
  have vE := noUnwrapsE
  have heq := run_eql_iface_ptr_other (P := Tryz.prog) w Tryz.underlying193 Tryz.underlying223 hi hcmp hj (by rw [hjs]; decide) hne ha hb
  go_enter Tryz.func161, Tryz.ntmps161
  go_wp2
  refine wp_loop_rounds 1 ?_
  rw [rounds_succ]
  go_wp2
  go_ret
  exact ⟨rfl, rfl⟩
end Go.Proofs.YtdkcplndplhblaaGreatDoor

/- annexref.SameBytes by its contract: true just where the two lists are the same. -/
namespace Go.Proofs.YtdkcplndplhblaaGreatDoor
open Go.RowKit
set_option maxRecDepth 100000

/-- The address of a list that is not empty, written out. -/
theorem Lies.at {w : World} {ao : Option Addr} {len cap : Nat} {ys : List Int} (h : Lies w ao len cap ys) (hp : 0 < len) :
    ∃ b o, ao = some ⟨b, o, none⟩ ∧ ∀ t, t < len → w.cell? ⟨b, o + t, none⟩ = some (.int .u8 (ys.getD t 0)) := by
  cases ao with
  | none => have := (h.hnone rfl).1; omega
  | some ad =>
    have hc : ∀ i, i < ys.length → w.cell? (ad.add i) = some (.int .u8 (ys.getD i 0)) := fun i hi => h.hcells ad rfl i _ (by simp [List.getD, hi])
    obtain ⟨b, off, rfl, hj⟩ := ints_at hc (by rw [h.hlen]; exact hp)
    exact ⟨b, off, rfl, fun t ht => hj t (by rw [h.hlen]; exact ht)⟩

theorem ne_of_at {xs ys : List Int} {k : Nat} {h1 : k < xs.length} {h2 : k < ys.length} (h : (xs[k] != ys[k]) = true) : ¬ xs = ys := by
  rintro rfl; simp at h
theorem take_both {xs ys : List Int} {k : Nat} (ht : xs.take k = ys.take k) (h1 : k < xs.length) (h2 : k < ys.length) (h : (xs[k] != ys[k]) = false) : xs.take (k + 1) = ys.take (k + 1) := by
  rw [List.take_succ_eq_append_getElem h1, List.take_succ_eq_append_getElem h2, ht]
  simp at h; rw [h]

set_option maxHeartbeats 400000 in
theorem same_pos (b1 o1 c1 b2 o2 c2 n : Nat) (xs ys : List Int) (w : World) (hn : n ≤ 200000000000000) (hla : xs.length = n) (hlb : ys.length = n) (_hc1 : n ≤ c1) (_hc2 : n ≤ c2)
    (ha : ∀ t, t < n → w.cell? ⟨b1, o1 + t, none⟩ = some (.int .u8 (xs.getD t 0))) (hb : ∀ t, t < n → w.cell? ⟨b2, o2 + t, none⟩ = some (.int .u8 (ys.getD t 0))) :
    Calls Tryz.prog 11 #[.slice (some ⟨b1, o1, none⟩) n c1, .slice (some ⟨b2, o2, none⟩) n c2] w fun e w' => e = .returned (.bool (decide (xs = ys))) ∧ ∃ m, w' = w.drewN m := by
  have hni : (n : Int) ≤ 200000000000000 := by omega
  go_enter Tryz.func11, Tryz.ntmps11
  go_wp2
  go_loopw [5] (fun i wr => ∃ k m : Nat, k ≤ n ∧ i = .int .i64 k ∧ wr = w.drewN m ∧ xs.take k = ys.take k) (fun i _ => n - (intOf i).toNat)
  case atStart => exact ⟨0, 0, Nat.zero_le _, rfl, rfl, by simp⟩
  case round =>
    obtain ⟨k, m, hk, rfl, rfl, htk⟩ := hrel
    have HT : Hid (xs.take k = ys.take k) := htk
    clear htk
    by_cases hlt : k < n
    · have ga := ha k hlt
      have gb := hb k hlt
      clear ha hb
      go_wp2
      go_quiet (fail)
      go_wp2
      · go_ret
        exact ⟨by rw [decide_eq_false (ne_of_at ‹_›)]; rfl, m + nq, World.drewN_drewN _ _ _⟩
      · go_roundw
        case rel => exact ⟨k + 1, m + nq, by omega, by go_num, by first | rfl | simp, take_both HT.out _ _ ‹_›⟩
        case measure => simp [intOf]; omega
    · clear ha hb
      go_wp2
      go_ret
      refine ⟨?_, m, rfl⟩
      have : xs = ys := by
        have := HT.out
        rwa [List.take_of_length_le (by omega), List.take_of_length_le (by omega)] at this
      simp [this]

set_option maxHeartbeats 400000 in
theorem same_len (ao bo : Option Addr) (n m c1 c2 : Nat) (w : World) (hne : ¬ n = m) :
    Calls Tryz.prog 11 #[.slice ao n c1, .slice bo m c2] w fun e w' => e = .returned (.bool false) ∧ w' = w := by
  have h : ((n : Int) != (m : Int)) = true := by simp; omega
  go_enter Tryz.func11, Tryz.ntmps11
  go_wp2
  go_ret
  exact ⟨rfl, rfl⟩

set_option maxHeartbeats 400000 in
theorem same_zero (ao bo : Option Addr) (c1 c2 : Nat) (w : World) :
    Calls Tryz.prog 11 #[.slice ao 0 c1, .slice bo 0 c2] w fun e w' => e = .returned (.bool true) ∧ w' = w := by
  go_enter Tryz.func11, Tryz.ntmps11
  go_wp2
  refine wp_loop_rounds 1 ?_
  rw [rounds_succ]
  go_wp2
  go_ret
  exact ⟨rfl, rfl⟩

/-- SameBytes, of any two slices of bytes. -/
theorem same_any (ao bo : Option Addr) (n m c1 c2 : Nat) (xs ys : List Int) (w : World) (hn : n ≤ 200000000000000) (hA : Lies w ao n c1 xs) (hB : Lies w bo m c2 ys) :
    Calls Tryz.prog 11 #[.slice ao n c1, .slice bo m c2] w fun e w' => e = .returned (.bool (decide (xs = ys))) ∧ ∃ m, w' = w.drewN m := by
  by_cases hnm : n = m
  · subst hnm
    by_cases h0 : 0 < n
    · obtain ⟨b1, o1, rfl, ha⟩ := hA.at h0
      obtain ⟨b2, o2, rfl, hb⟩ := hB.at h0
      exact same_pos b1 o1 c1 b2 o2 c2 n xs ys w hn hA.hlen hB.hlen hA.hle hB.hle ha hb
    · obtain rfl : n = 0 := by omega
      refine (same_zero ao bo c1 c2 w).mono ?_
      rintro e w' ⟨rfl, rfl⟩
      have e1 : xs = [] := List.eq_nil_of_length_eq_zero hA.hlen
      have e2 : ys = [] := List.eq_nil_of_length_eq_zero hB.hlen
      subst e1; subst e2
      exact ⟨by simp, 0, rfl⟩
  · refine (same_len ao bo n m c1 c2 w hnm).mono ?_
    rintro e w' ⟨rfl, rfl⟩
    refine ⟨?_, 0, rfl⟩
    rw [decide_eq_false]
    rintro rfl
    exact hnm (hA.hlen.symm.trans hB.hlen)
end Go.Proofs.YtdkcplndplhblaaGreatDoor

/- A reader in memory, and NewReader by its contract. -/
namespace Go.Proofs.YtdkcplndplhblaaGreatDoor
open Go.RowKit
set_option maxRecDepth 100000

/-- Block rb is a bits.Reader: its bytes bs (n of them, in block g), its place, its error. -/
structure Rdr (w : World) (rb g n cap : Nat) (pl code : Int) (bs : List Int) : Prop where
  blk : w.heap[rb]? = some (.cells #[.slice (some ⟨g, 0, none⟩) n cap, .int .i64 pl, .int .i64 code] 169 (0, 0))
  lies : Lies w (some ⟨g, 0, none⟩) n cap bs
  apart : g ≠ rb
  glt : g < w.heap.size

theorem Rdr.c0 {w : World} {rb g n cap : Nat} {pl code : Int} {bs : List Int} (h : Rdr w rb g n cap pl code bs) : w.cell? ⟨rb, 0, none⟩ = some (.slice (some ⟨g, 0, none⟩) n cap) := by simp [World.cell?, h.blk]
theorem Rdr.c1 {w : World} {rb g n cap : Nat} {pl code : Int} {bs : List Int} (h : Rdr w rb g n cap pl code bs) : w.cell? ⟨rb, 1, none⟩ = some (.int .i64 pl) := by simp [World.cell?, h.blk]
theorem Rdr.c2 {w : World} {rb g n cap : Nat} {pl code : Int} {bs : List Int} (h : Rdr w rb g n cap pl code bs) : w.cell? ⟨rb, 2, none⟩ = some (.int .i64 code) := by simp [World.cell?, h.blk]
theorem Rdr.f {w : World} {rb g n cap : Nat} {pl code : Int} {bs : List Int} (h : Rdr w rb g n cap pl code bs) (o : Nat) : w.frozen? ⟨rb, o, none⟩ = false := by simp [World.frozen?, h.blk]
theorem Rdr.kept {w w' : World} {rb g n cap : Nat} {pl code : Int} {bs : List Int} {row : Option Nat} (h : Rdr w rb g n cap pl code bs) (hg : w.grownBy w' row) (h1 : some rb ≠ row) (h2 : some g ≠ row) : Rdr w' rb g n cap pl code bs :=
  ⟨(hg.block rb (by have := Array.getElem?_eq_some_iff.1 h.blk; exact this.1) h1).trans h.blk, h.lies.grown hg (fun ad had => by obtain rfl := Option.some.inj had; exact h2), h.apart, Nat.lt_of_lt_of_le h.glt hg.size⟩
theorem Rdr.drewN {w : World} {rb g n cap : Nat} {pl code : Int} {bs : List Int} (h : Rdr w rb g n cap pl code bs) (m : Nat) : Rdr (w.drewN m) rb g n cap pl code bs :=
  ⟨h.blk, ⟨h.lies.hlen, h.lies.hle, h.lies.hnone, h.lies.hcells⟩, h.apart, h.glt⟩

set_option maxHeartbeats 400000 in
theorem newReader_any (ao : Option Addr) (len cap : Nat) (bs : List Int) (w : World) (hbd : len ≤ 200000000000000) (hL : Lies w ao len cap bs) :
    Calls Tryz.prog 104 #[.slice ao len cap] w fun e w' => ∃ rb g, e = .returned (.pointer (some ⟨rb, 0, none⟩)) ∧ Rdr w' rb g len len 0 0 bs ∧ w.heap.size ≤ rb ∧ w.heap.size ≤ g ∧ Below w.heap.size w w' := by
  obtain ⟨i0, hi, hz0, hz1, hz2⟩ := info_parts Tryz.info5
  go_enter Tryz.func104, Tryz.ntmps104
  go_wp2_with (first
    | (at_make; refine wpList_make_own _ rfl _ _ 22 rfl w.heap.size 5 i0 (.int .u8 0) 1 Tryz.underlying22 hi hz0 hz1 _ _ _ len rfl rfl (by omega) (by rw [hz2]; omega) (by unfold maxLen; omega) (Nat.le_refl _) ?_; intro w0 hown0 hgrow0)
    | (at_builtin; refine wpList_append_fits_any _ rfl (.tmp 5) (.tmp 6) 22 rfl w.heap.size 5 i0 1 Tryz.underlying22 hi hz1 w.heap.size 0 len _ rfl hown0 _ len _ (bs.map (Value.int .u8)) rfl (by simp [hL.hlen]) hL.hnone (fun ad had t u hu => hgrow0.cell (hL.hcells ad had t u hu) (by simp)) (ints_oneCell _ _) (by omega) ?_; intro w1 hown1 hgrow1; simp only [Nat.zero_add, List.nil_append] at hown1))
  go_ret
  have hlt : w.heap.size < w1.heap.size := (hown1.lt _ rfl).2
  have hb1 : Below w.heap.size w w1 := ((Below.refl _ _).grown hgrow0 (Nat.le_refl _) (fun k h => by cases h)).grown hgrow1 hgrow0.size (fun k hk => by cases hk; exact Nat.le_refl _)
  refine ⟨w1.heap.size, w.heap.size, rfl, ⟨heap_alloc_new _ _, (Lies.own hown1).grown (World.grownBy_alloc _ _ none) (fun _ _ => by simp), by omega, by simp; omega⟩, by omega, Nat.le_refl _, hb1.alloc hb1.size _⟩

/-- Where the variables stand that hold the package's five errors: 0 errFlag, 1 errWide, 2 errLong, 3 errPad, 4 errShort. -/
def gvar : Nat → Nat
  | 0 => 2 | 1 => 1 | 2 => 3 | 3 => 4 | _ => 0
/-- The package's five errors, as the variables hold them. -/
structure Errs (w : World) (er : Nat → Addr) : Prop where
  cell : ∀ i, i < 5 → w.cell? ⟨gvar i, 0, none⟩ = some (.iface 223 (.pointer (some (er i))))
  row : ∀ i, i < 5 → ∃ c t, w.heap[(er i).block]? = some (.cells c t (0, 0))
  ne : ∀ i j, i < 5 → j < 5 → i ≠ j → er i ≠ er j
theorem Errs.c0 {w : World} {er : Nat → Addr} (h : Errs w er) : w.cell? ⟨2, 0, none⟩ = some (.iface 223 (.pointer (some (er 0)))) := h.cell 0 (by decide)
theorem Errs.c1 {w : World} {er : Nat → Addr} (h : Errs w er) : w.cell? ⟨1, 0, none⟩ = some (.iface 223 (.pointer (some (er 1)))) := h.cell 1 (by decide)
theorem Errs.c2 {w : World} {er : Nat → Addr} (h : Errs w er) : w.cell? ⟨3, 0, none⟩ = some (.iface 223 (.pointer (some (er 2)))) := h.cell 2 (by decide)
theorem Errs.c3 {w : World} {er : Nat → Addr} (h : Errs w er) : w.cell? ⟨4, 0, none⟩ = some (.iface 223 (.pointer (some (er 3)))) := h.cell 3 (by decide)
theorem Errs.c4 {w : World} {er : Nat → Addr} (h : Errs w er) : w.cell? ⟨0, 0, none⟩ = some (.iface 223 (.pointer (some (er 4)))) := h.cell 4 (by decide)

theorem Errs.below {B : Nat} {w w' : World} {er : Nat → Addr} (h : Errs w er) (hb : Below B w w') (hB : w.heap.size ≤ B) : Errs w' er := by
  refine ⟨fun i hi => ?_, fun i hi => ?_, h.ne⟩
  · have hc := h.cell i hi
    exact (hb.cell (Nat.lt_of_lt_of_le (World.block_lt_of_cell? w _ hc) hB)).trans hc
  · obtain ⟨c, t, hr⟩ := h.row i hi
    exact ⟨c, t, (hb.block _ (Nat.lt_of_lt_of_le (lt_of_block hr) hB)).trans hr⟩

/-- No error's block, nor a variable's, is a row that came later. -/
theorem Errs.grown {w w' : World} {er : Nat → Addr} {row : Option Nat} (h : Errs w er) (hg : w.grownBy w' row) (hne : ∀ i, i < 5 → some (gvar i) ≠ row ∧ some (er i).block ≠ row) : Errs w' er := by
  refine ⟨fun i hi => ?_, fun i hi => ?_, h.ne⟩
  · exact hg.cell (h.cell i hi) (hne i hi).1
  · obtain ⟨c, t, hr⟩ := h.row i hi
    exact ⟨c, t, (hg.block _ (lt_of_block hr) (hne i hi).2).trans hr⟩
theorem Errs.drewN {w : World} {er : Nat → Addr} (h : Errs w er) (m : Nat) : Errs (w.drewN m) er := ⟨h.cell, h.row, h.ne⟩
end Go.Proofs.YtdkcplndplhblaaGreatDoor

/- ahead, number, above and bounded by their contracts. -/
namespace Go.Proofs.YtdkcplndplhblaaGreatDoor
open Go.RowKit
set_option maxRecDepth 100000

/-- What the reader gives up with. -/
abbrev gaveUp (a : Addr) : Ending := .panicked [{ v := .iface 223 (.pointer (some a)), recovered := false }]

set_option maxHeartbeats 400000 in
theorem ahead_ok (rb g n cap pl k : Nat) (code : Int) (bs : List Int) (w : World) (hR : Rdr w rb g n cap pl code bs) (hk : pl + k ≤ n) (hk0 : 0 < k) (hn : cap ≤ 200000000000000) :
    Calls Tryz.prog 156 #[.pointer (some ⟨rb, 0, none⟩), .int .u64 k] w fun e w' => e = .returned (.slice (some ⟨g, pl, none⟩) k (cap - pl)) ∧ ∃ m, w' = w.drewN m := by
  have c0 := hR.c0
  have c1 := hR.c1
  have hnc := hR.lies.hle
  have h1 : (pl : Int) + k ≤ n := by omega
  have h2 : (n : Int) ≤ cap := by omega
  have h3 : (cap : Int) ≤ 200000000000000 := by omega
  have h4 : ¬ cap = pl := by omega
  clear hR
  go_enter Tryz.func156, Tryz.ntmps156
  go_wp2
  go_quiet (fail)
  go_wp2
  go_ret
  exact ⟨rfl, _, rfl⟩

set_option maxHeartbeats 400000 in
theorem ahead_short (rb g n cap pl k : Nat) (code : Int) (bs : List Int) (er : Nat → Addr) (w : World) (hR : Rdr w rb g n cap pl code bs) (hE : Errs w er) (hp : pl ≤ n) (hk : n < pl + k) (hkb : k ≤ 4611686018427387904) (hn : cap ≤ 200000000000000) :
    Calls Tryz.prog 156 #[.pointer (some ⟨rb, 0, none⟩), .int .u64 k] w fun e w' => e = gaveUp (er 4) ∧ ∃ m, w' = w.drewN m := by
  have c0 := hR.c0
  have c1 := hR.c1
  have e4 := hE.c4
  have hnc := hR.lies.hle
  have h1 : (n : Int) < (pl : Int) + k := by omega
  have h2 : (n : Int) ≤ cap := by omega
  have h3 : (cap : Int) ≤ 200000000000000 := by omega
  have h5 : (pl : Int) ≤ n := by omega
  have h6 : n - pl < k := by omega
  clear hR hE
  by_cases h4 : cap = pl
  · obtain rfl : n = pl := by omega
    subst h4
    go_enter Tryz.func156, Tryz.ntmps156
    go_wp2
    go_quiet (fail)
    go_wp2
    exact ⟨rfl, rfl, _, rfl⟩
  · go_enter Tryz.func156, Tryz.ntmps156
    go_wp2
    go_quiet (fail)
    go_wp2
    exact ⟨rfl, rfl, _, rfl⟩

/-- The number that bytes are, the greatest digit first. -/
def val (l : List Int) : Int := l.foldl (fun x c => x * 256 + c) 0
theorem val_snoc (l : List Int) (c : Int) : val (l ++ [c]) = val l * 256 + c := by simp [val]

theorem val_bd (l : List Int) (h : ∀ x ∈ l, 0 ≤ x ∧ x ≤ 255) : 0 ≤ val l ∧ val l < 256 ^ l.length := by
  suffices H : ∀ (l : List Int) (a : Int) (k : Nat), (∀ x ∈ l, 0 ≤ x ∧ x ≤ 255) → 0 ≤ a → a < 256 ^ k → 0 ≤ l.foldl (fun x c => x * 256 + c) a ∧ l.foldl (fun x c => x * 256 + c) a < 256 ^ (k + l.length) by
    have := H l 0 0 h (by omega) (by omega)
    simpa [val] using this
  intro l
  induction l with
  | nil => intro a k _ h0 h1; exact ⟨h0, h1⟩
  | cons c l ih =>
    intro a k hl h0 h1
    have hc := hl c (by simp)
    have := ih (a * 256 + c) (k + 1) (fun x hx => hl x (by simp [hx])) (by omega) (by rw [Int.pow_succ]; omega)
    simp only [List.foldl_cons, List.length_cons]
    rw [show k + (l.length + 1) = k + 1 + l.length by omega]
    exact this

theorem Rdr.byte {w : World} {rb g n cap : Nat} {pl code : Int} {bs : List Int} (h : Rdr w rb g n cap pl code bs) (t : Nat) (ht : t < n) : w.cell? ⟨g, t, none⟩ = some (.int .u8 (bs.getD t 0)) := by
  obtain ⟨b, o, he, hc⟩ := h.lies.at (by omega)
  cases he
  simpa using hc t ht

theorem or_byte (V C : Int) (h1 : 0 ≤ V) (h2 : V < 72057594037927936) (h3 : 0 ≤ C) (h4 : C ≤ 255) : bits .or .u64 (V * 256) C = V * 256 + C := by
  rw [u64_or (V * 256) C (by omega) (by omega) h3 (by omega)]
  obtain ⟨v, rfl⟩ := Int.eq_ofNat_of_zero_le h1
  obtain ⟨c, rfl⟩ := Int.eq_ofNat_of_zero_le h3
  have e : v <<< 8 + c = v <<< 8 ||| c := Nat.shiftLeft_add_eq_or_of_lt (by omega) v
  rw [Nat.shiftLeft_eq] at e
  have e1 : ((v : Int) * 256).toNat = v * 2 ^ 8 := by omega
  have e2 : ((c : Int)).toNat = c := by omega
  rw [e1, e2, ← e]
  omega

set_option maxHeartbeats 400000 in
theorem number_ok (rb g n cap pl k : Nat) (code : Int) (bs : List Int) (w : World) (hR : Rdr w rb g n cap pl code bs) (hk : pl + k ≤ n) (hk0 : 0 < k) (hk8 : k ≤ 8) (hn : cap ≤ 200000000000000) (hby : ∀ x ∈ bs, 0 ≤ x ∧ x ≤ 255) :
    Calls Tryz.prog 146 #[.pointer (some ⟨rb, 0, none⟩), .int .u64 k] w fun e w' => e = .returned (.int .u64 (val ((bs.drop pl).take k))) ∧ ∃ m, w' = w.drewN m := by
  have hki : (k : Int) ≤ 8 := by omega
  have hnc := hR.lies.hle
  go_enter Tryz.func146, Tryz.ntmps146
  go_wp2_with (go_at_call 156; refine (ahead_ok rb g n cap pl k code bs _ hR hk hk0 hn).mono ?_; rintro e w1 ⟨rfl, m0, hw1⟩; subst w1)
  go_loop [5, 12] (fun x i => ∃ j : Nat, j ≤ k ∧ i = .int .i64 j ∧ x = .int .u64 (val ((bs.drop pl).take j))) (fun _ i => k - (intOf i).toNat)
  case atStart => exact ⟨0, Nat.zero_le _, rfl, rfl⟩
  case round =>
    obtain ⟨j, hj, rfl, rfl⟩ := hrel
    have hl : ((bs.drop pl).take j).length = j := by simp [hR.lies.hlen]; omega
    by_cases hlt : j < k
    · have hb := val_bd ((bs.drop pl).take j) (fun x hx => hby x (List.mem_of_mem_drop (List.mem_of_mem_take hx)))
      rw [hl] at hb
      have hb2 : (256 : Int) ^ j ≤ 256 ^ 7 := by
        have := Nat.pow_le_pow_right (show 0 < 256 by decide) (show j ≤ 7 by omega)
        exact_mod_cast this
      have hc := hR.byte (pl + j) (by omega)
      have hmem : bs.getD (pl + j) 0 ∈ bs := by
        have : pl + j < bs.length := by rw [hR.lies.hlen]; omega
        simp [List.getD, this]
      have hcb := hby _ hmem
      have hstep : (bs.drop pl).take (j + 1) = (bs.drop pl).take j ++ [bs.getD (pl + j) 0] := by
        have : pl + j < bs.length := by rw [hR.lies.hlen]; omega
        rw [List.take_succ_eq_append_getElem (by simp; omega)]
        simp [List.getD, this]
      have HS : Hid (val ((bs.drop pl).take (j + 1)) = val ((bs.drop pl).take j) * 256 + bs.getD (pl + j) 0) := by rw [hstep]; exact val_snoc _ _
      clear hstep hmem
      generalize hV : val ((bs.drop pl).take j) = V at *
      generalize hC : bs.getD (pl + j) 0 = C at *
      have hV0 : 0 ≤ V := hb.1
      have hV1 : V < 72057594037927936 := by have : (256 : Int) ^ 7 = 72057594037927936 := by decide
                                             omega
      have hC0 := hcb.1
      have hC1 := hcb.2
      clear hV hC hb hb2 hcb hR hby hl
      go_wp2
      go_round
      case rel => exact ⟨j + 1, by omega, by go_num, by rw [HS.out, or_byte V C hV0 hV1 hC0 hC1]⟩
      case measure => simp [intOf]; omega
    · have hjk : (k : Int) ≤ j := by omega
      obtain ⟨V, hV⟩ : ∃ V, V = val ((bs.drop pl).take j) := ⟨_, rfl⟩
      have HV : Hid (V = val ((bs.drop pl).take k)) := by obtain rfl : j = k := by omega
                                                          exact hV
      rw [← hV]
      clear hV hR hby hl
      go_wp2
      go_ret
      exact ⟨by rw [← HV.out]; rfl, m0, rfl⟩

set_option maxHeartbeats 400000 in
theorem number_short (rb g n cap pl k : Nat) (code : Int) (bs : List Int) (er : Nat → Addr) (w : World) (hR : Rdr w rb g n cap pl code bs) (hE : Errs w er) (hp : pl ≤ n) (hk : n < pl + k) (hkb : k ≤ 4611686018427387904) (hn : cap ≤ 200000000000000) :
    Calls Tryz.prog 146 #[.pointer (some ⟨rb, 0, none⟩), .int .u64 k] w fun e w' => e = gaveUp (er 4) ∧ ∃ m, w' = w.drewN m := by
  go_enter Tryz.func146, Tryz.ntmps146
  go_wp2_with (go_at_call 156; refine (ahead_short rb g n cap pl k code bs er _ hR hE hp hk hkb hn).mono ?_; rintro e w1 ⟨rfl, m0, hw1⟩; subst w1)
  exact ⟨rfl, rfl, m0, rfl⟩

set_option maxHeartbeats 400000 in
theorem above_neg (X M : Int) (w : World) (hM : M < 0) :
    Calls Tryz.prog 196 #[.int .u64 X, .int .i64 M] w fun e w' => e = .returned (.bool true) ∧ w' = w := by
  go_enter Tryz.func196, Tryz.ntmps196
  go_wp2
  go_ret
  exact ⟨rfl, rfl⟩

set_option maxHeartbeats 400000 in
theorem above_yes (X M : Int) (w : World) (hM : 0 ≤ M) (hM1 : M ≤ 9223372036854775807) (h : M < X) :
    Calls Tryz.prog 196 #[.int .u64 X, .int .i64 M] w fun e w' => e = .returned (.bool true) ∧ w' = w := by
  go_enter Tryz.func196, Tryz.ntmps196
  go_wp2
  go_ret
  exact ⟨rfl, rfl⟩

set_option maxHeartbeats 400000 in
theorem above_no (X M : Int) (w : World) (hM : 0 ≤ M) (hM1 : M ≤ 9223372036854775807) (h : X ≤ M) :
    Calls Tryz.prog 196 #[.int .u64 X, .int .i64 M] w fun e w' => e = .returned (.bool false) ∧ w' = w := by
  go_enter Tryz.func196, Tryz.ntmps196
  go_wp2
  go_ret
  refine ⟨?_, rfl⟩
  show Ending.returned (.bool (decide (M < 0) || decide (M < X))) = _
  rw [decide_eq_false (by omega), decide_eq_false (by omega)]; rfl
end Go.Proofs.YtdkcplndplhblaaGreatDoor

/- bounded by its contracts. -/
namespace Go.Proofs.YtdkcplndplhblaaGreatDoor
open Go.RowKit
set_option maxRecDepth 100000

set_option maxHeartbeats 400000 in
theorem bounded_short (rb g n cap pl k : Nat) (M code : Int) (bs : List Int) (er : Nat → Addr) (w : World) (hR : Rdr w rb g n cap pl code bs) (hE : Errs w er) (hp : pl ≤ n) (hk : n < pl + k) (hk8 : k ≤ 8) (hn : cap ≤ 200000000000000) :
    Calls Tryz.prog 195 #[.pointer (some ⟨rb, 0, none⟩), .int .i64 k, .int .i64 M] w fun e w' => e = gaveUp (er 4) ∧ ∃ m, w' = w.drewN m := by
  have hki : (k : Int) ≤ 8 := by omega
  go_enter Tryz.func195, Tryz.ntmps195
  go_wp2_with (go_at_call 146; refine (number_short rb g n cap pl k code bs er _ hR hE hp hk (by omega) hn).mono ?_; rintro e w1 ⟨rfl, m0, hw1⟩; subst w1)
  exact ⟨rfl, rfl, m0, rfl⟩

set_option maxHeartbeats 400000 in
theorem bounded_wide (rb g n cap pl k : Nat) (M code : Int) (bs : List Int) (er : Nat → Addr) (w : World) (hR : Rdr w rb g n cap pl code bs) (hE : Errs w er) (hk : pl + k ≤ n) (hk0 : 0 < k) (hk8 : k ≤ 8) (hn : cap ≤ 200000000000000) (hby : ∀ x ∈ bs, 0 ≤ x ∧ x ≤ 255)
    (hM1 : M ≤ 9223372036854775807) (hw : M < 0 ∨ M < val ((bs.drop pl).take k)) :
    Calls Tryz.prog 195 #[.pointer (some ⟨rb, 0, none⟩), .int .i64 k, .int .i64 M] w fun e w' => e = gaveUp (er 1) ∧ ∃ m, w' = w.drewN m := by
  have hki : (k : Int) ≤ 8 := by omega
  have e1 := hE.c1
  have HA : ∀ w : World, Calls Tryz.prog 196 #[.int .u64 (val ((bs.drop pl).take k)), .int .i64 M] w fun e w' => e = .returned (.bool true) ∧ w' = w := by
    intro w
    rcases Int.lt_or_le M 0 with h | h
    · exact above_neg _ M w h
    · exact above_yes _ M w h hM1 (by omega)
  go_enter Tryz.func195, Tryz.ntmps195
  go_wp2_with (first
    | (go_at_call 146; refine (number_ok rb g n cap pl k code bs _ hR hk hk0 hk8 hn hby).mono ?_; rintro e w1 ⟨rfl, m0, hw1⟩; subst w1)
    | (go_at_call 196; refine (HA _).mono ?_; rintro e w2 ⟨rfl, hw2⟩; subst w2))
  exact ⟨rfl, rfl, m0, rfl⟩

set_option maxHeartbeats 400000 in
theorem bounded_ok (rb g n cap pl k : Nat) (M code : Int) (bs : List Int) (w : World) (hR : Rdr w rb g n cap pl code bs) (hk : pl + k ≤ n) (hk0 : 0 < k) (hk8 : k ≤ 8) (hn : cap ≤ 200000000000000) (hby : ∀ x ∈ bs, 0 ≤ x ∧ x ≤ 255)
    (hM1 : M ≤ 9223372036854775807) (hM0 : 0 ≤ M) (hv : val ((bs.drop pl).take k) ≤ M) :
    Calls Tryz.prog 195 #[.pointer (some ⟨rb, 0, none⟩), .int .i64 k, .int .i64 M] w fun e w' => e = .returned (.int .i64 (val ((bs.drop pl).take k))) ∧ ∃ m, w' = (w.drewN m).setCell ⟨rb, 1, none⟩ (.int .i64 ((pl + k : Nat) : Int)) := by
  have hki : (k : Int) ≤ 8 := by omega
  have hnc := hR.lies.hle
  have hpi : (pl : Int) ≤ 200000000000000 := by omega
  have c1 := hR.c1
  have f1 := hR.f 1
  have hv0 := (val_bd ((bs.drop pl).take k) (fun x hx => hby x (List.mem_of_mem_drop (List.mem_of_mem_take hx)))).1
  have hN := number_ok rb g n cap pl k code bs w hR hk hk0 hk8 hn hby
  generalize hV : val ((bs.drop pl).take k) = V at *
  clear hV hR hby
  go_enter Tryz.func195, Tryz.ntmps195
  go_wp2_with (first
    | (go_at_call 146; refine hN.mono ?_; rintro e w1 ⟨rfl, m0, hw1⟩; subst w1)
    | (go_at_call 196; refine (above_no V M _ hM0 hM1 hv).mono ?_; rintro e w2 ⟨rfl, hw2⟩; subst w2))
  go_ret
  exact ⟨rfl, m0, by simp⟩
end Go.Proofs.YtdkcplndplhblaaGreatDoor

/- codeOf and keep by their contracts: which number each of the package's errors is kept as. -/
namespace Go.Proofs.YtdkcplndplhblaaGreatDoor
open Go.RowKit Go.Extern.Stop Go.Stop Go.Extern
set_option maxRecDepth 100000

/-- The number that the error of variable i is kept as. -/
def codeNo : Nat → Int
  | 4 => 11 | 1 => 12 | 0 => 13 | 2 => 14 | _ => 15

/-- errors.Is of two of the package's errors. -/
theorem is_errs (er : Nat → Addr) (i j : Nat) (w : World) (hE : Errs w er) (hi : i < 5) (hj : j < 5) :
    Calls Tryz.prog 161 #[.iface 223 (.pointer (some (er i))), .iface 223 (.pointer (some (er j)))] w fun e w' => e = .returned (.bool (i == j)) ∧ w' = w := by
  by_cases h : i = j
  · subst h
    refine (is_same (er i) w).mono ?_
    rintro e w' ⟨rfl, rfl⟩
    simp
  · obtain ⟨c1, t1, r1⟩ := hE.row i hi
    obtain ⟨c2, t2, r2⟩ := hE.row j hj
    refine (is_other (er i) (er j) c1 c2 t1 t2 w (hE.ne i j hi hj h) r1 r2).mono ?_
    rintro e w' ⟨rfl, rfl⟩
    simp [h]

set_option maxHeartbeats 400000 in
theorem codeOf_0 (er : Nat → Addr) (w : World) (hE : Errs w er) :
    Calls Tryz.prog 155 #[.iface 223 (.pointer (some (er 0)))] w fun e w' => e = .returned (.int .i64 (codeNo 0)) ∧ w' = w := by
  have e4 := hE.c4
  have e1 := hE.c1
  have e0 := hE.c0
  go_enter Tryz.func155, Tryz.ntmps155
  go_wp2_with (go_at_call 161; refine (is_errs er _ _ _ hE (by decide) (by decide)).mono ?_; rintro e w1 ⟨he, hw1⟩; simp at he; subst he; subst w1)
  go_ret
  exact ⟨rfl, rfl⟩

set_option maxHeartbeats 400000 in
theorem codeOf_1 (er : Nat → Addr) (w : World) (hE : Errs w er) :
    Calls Tryz.prog 155 #[.iface 223 (.pointer (some (er 1)))] w fun e w' => e = .returned (.int .i64 (codeNo 1)) ∧ w' = w := by
  have e4 := hE.c4
  have e1 := hE.c1
  go_enter Tryz.func155, Tryz.ntmps155
  go_wp2_with (go_at_call 161; refine (is_errs er _ _ _ hE (by decide) (by decide)).mono ?_; rintro e w1 ⟨he, hw1⟩; simp at he; subst he; subst w1)
  go_ret
  exact ⟨rfl, rfl⟩

set_option maxHeartbeats 400000 in
theorem codeOf_2 (er : Nat → Addr) (w : World) (hE : Errs w er) :
    Calls Tryz.prog 155 #[.iface 223 (.pointer (some (er 2)))] w fun e w' => e = .returned (.int .i64 (codeNo 2)) ∧ w' = w := by
  have e4 := hE.c4
  have e1 := hE.c1
  have e0 := hE.c0
  have e2 := hE.c2
  go_enter Tryz.func155, Tryz.ntmps155
  go_wp2_with (go_at_call 161; refine (is_errs er _ _ _ hE (by decide) (by decide)).mono ?_; rintro e w1 ⟨he, hw1⟩; simp at he; subst he; subst w1)
  go_ret
  exact ⟨rfl, rfl⟩

set_option maxHeartbeats 400000 in
theorem codeOf_3 (er : Nat → Addr) (w : World) (hE : Errs w er) :
    Calls Tryz.prog 155 #[.iface 223 (.pointer (some (er 3)))] w fun e w' => e = .returned (.int .i64 (codeNo 3)) ∧ w' = w := by
  have e4 := hE.c4
  have e1 := hE.c1
  have e0 := hE.c0
  have e2 := hE.c2
  have e3 := hE.c3
  go_enter Tryz.func155, Tryz.ntmps155
  go_wp2_with (go_at_call 161; refine (is_errs er _ _ _ hE (by decide) (by decide)).mono ?_; rintro e w1 ⟨he, hw1⟩; simp at he; subst he; subst w1)
  go_ret
  exact ⟨rfl, rfl⟩

set_option maxHeartbeats 400000 in
theorem codeOf_4 (er : Nat → Addr) (w : World) (hE : Errs w er) :
    Calls Tryz.prog 155 #[.iface 223 (.pointer (some (er 4)))] w fun e w' => e = .returned (.int .i64 (codeNo 4)) ∧ w' = w := by
  have e4 := hE.c4
  go_enter Tryz.func155, Tryz.ntmps155
  go_wp2_with (go_at_call 161; refine (is_errs er _ _ _ hE (by decide) (by decide)).mono ?_; rintro e w1 ⟨he, hw1⟩; simp at he; subst he; subst w1)
  go_ret
  exact ⟨rfl, rfl⟩

theorem codeOf_any (i : Nat) (hi : i < 5) (er : Nat → Addr) (w : World) (hE : Errs w er) :
    Calls Tryz.prog 155 #[.iface 223 (.pointer (some (er i)))] w fun e w' => e = .returned (.int .i64 (codeNo i)) ∧ w' = w := by
  match i, hi with
  | 0, _ => exact codeOf_0 er w hE
  | 1, _ => exact codeOf_1 er w hE
  | 2, _ => exact codeOf_2 er w hE
  | 3, _ => exact codeOf_3 er w hE
  | 4, _ => exact codeOf_4 er w hE

theorem codeNo_ne (i : Nat) : (codeNo i != 0) = true := by
  unfold codeNo; split <;> rfl
theorem asErr (v : Value) (xT : TypeId) (w : World) : (Instr.typeAssert (.iface 223 v) xT 193 true).run Tryz.prog w = .ok (.tuple #[.iface 223 v, .bool true]) w := run_typeAssert_hasB Tryz.underlying193 (by kernel_rfl) v xT w

set_option maxHeartbeats 400000 in
theorem keep_nil (p : Value) (w : World) :
    Calls Tryz.prog 145 #[p, .nilIface] w fun e w' => e = .returned (.tuple #[]) ∧ w' = w := by
  have hnil : ∀ w : World, (binOp BinOp.eql 20 .nilIface .nilIface).run Tryz.prog w = .ok (.bool true) w := fun _ => by kernel_rfl
  go_enter Tryz.func145, Tryz.ntmps145
  go_wp2
  first | go_end0 | refine bodyPost_ret (results_none rfl _ _ _) rfl ?_
  exact ⟨rfl, rfl⟩

set_option maxHeartbeats 400000 in
theorem keep_err (i : Nat) (hi : i < 5) (rb g n cap : Nat) (pl code : Int) (bs : List Int) (er : Nat → Addr) (w : World) (hR : Rdr w rb g n cap pl code bs) (hE : Errs w er) :
    Calls Tryz.prog 145 #[.pointer (some ⟨rb, 0, none⟩), .iface 223 (.pointer (some (er i)))] w fun e w' => e = .returned (.tuple #[]) ∧ w' = w.setCell ⟨rb, 2, none⟩ (.int .i64 (codeNo i)) := by
  have c2 := hR.c2
  have f2 := hR.f 2
  have hne := codeNo_ne i
  have hA := asErr
  have hnil : ∀ (v : Value) (w : World), (binOp BinOp.eql 20 (.iface 223 v) .nilIface).run Tryz.prog w = .ok (.bool false) w := fun _ _ => by kernel_rfl
  go_enter Tryz.func145, Tryz.ntmps145
  go_wp2_with (go_at_call 155; refine (codeOf_any i hi er _ hE).mono ?_; rintro e w1 ⟨rfl, hw1⟩; subst w1)
  first | go_end0 | refine bodyPost_ret (results_none rfl _ _ _) rfl ?_
  exact ⟨rfl, rfl⟩
end Go.Proofs.YtdkcplndplhblaaGreatDoor

/- A law of no program: a region that draws its order inside a deferred function that recovers: walked in each order that may be drawn. -/
namespace Go.Proofs.YtdkcplndplhblaaGreatDoor
open Go.RowKit

/-- All orders that a region may draw. -/
def regOrders (md : Region.Mode) (ops : Array Oper) : Nat → Array Bool → List (List Nat)
  | 0, _ => [[]]
  | f + 1, listed =>
    match Region.ready md ops listed with
    | [] => [[]]
    | r :: rs => (r :: rs).flatMap fun i => (regOrders md ops f (listed.setIfInBounds i true)).map (i :: ·)

theorem reg_mem (md : Region.Mode) (ops : Array Oper) : ∀ (f t : Nat) (listed : Array Bool), Region.linearise.go md ops f t listed [] ∈ regOrders md ops f listed := by
  intro f
  induction f with
  | zero => intro t listed; simp [Region.linearise.go, regOrders]
  | succ f ih =>
    intro t listed
    simp only [Region.linearise.go]
    change (match (Region.ready md ops listed)[t % (Region.ready md ops listed).length]? with
      | some i => Region.linearise.go md ops f (t / (Region.ready md ops listed).length) (listed.setIfInBounds i true) [i]
      | none => [].reverse) ∈ _
    simp only [regOrders]
    cases hr : Region.ready md ops listed with
    | nil => simp
    | cons r rs =>
      have hlt : t % (r :: rs).length < (r :: rs).length := Nat.mod_lt _ (by simp)
      rw [List.getElem?_eq_getElem hlt]
      simp only []
      rw [linearise_go_acc]
      simp only [List.reverse_singleton, List.singleton_append]
      refine List.mem_flatMap.2 ⟨_, List.getElem_mem hlt, List.mem_map.2 ⟨_, ih _ _, rfl⟩⟩

theorem wpS_region_draw {P : Program} {Q : Exit → Act → List Frame → World → Prop} {a : Act} {cs : List Frame} {w : World} {id : Nat} {ops : Array Oper} (L : List (List Nat)) (hm : P.follows .mixedOrders = true) (hL : regOrders .any ops ops.size (Array.replicate ops.size false) = L)
    (h : ∀ l ∈ L, wpOpsS P ops Q l a cs w.drew) : (Code.region id ops true).wpS P Q a cs w := by
  subst hL
  intro b k hb hr
  have h' : ∀ t, wpOpsS P ops Q (Region.schedule (P.follows .mixedOrders) ops t) a cs { w with drawn := w.drawn + 1 } := fun t => by
    simp only [Region.schedule, hm, Bool.true_or, if_true]
    exact h _ (reg_mem _ _ _ _ _)
  obtain ⟨e, a', cs', w', q, r⟩ := wp_opsS _ a cs _ (h' _) b k hb hr
  exact ⟨e, a', cs', w', q, .of_steps (.one step_region_draw) r⟩
end Go.Proofs.YtdkcplndplhblaaGreatDoor

/- The deferred functions of the reading calls by their contracts. -/
namespace Go.Proofs.YtdkcplndplhblaaGreatDoor
open Go.RowKit
set_option maxRecDepth 100000

theorem Rdr.drew {w : World} {rb g n cap : Nat} {pl code : Int} {bs : List Int} (h : Rdr w rb g n cap pl code bs) : Rdr w.drew rb g n cap pl code bs := h.drewN 1
theorem Errs.drew {w : World} {er : Nat → Addr} (h : Errs w er) : Errs w.drew er := h.drewN 1

set_option maxHeartbeats 400000 in
theorem catch39_idle (p : Addr) (rb : Nat) (w : World) (hc : w.cell? p = some (.pointer (some ⟨rb, 0, none⟩))) :
    CallsD Tryz.prog 194 #[.pointer (some p)] .returning w fun e u' w' => e = .returned (.tuple #[]) ∧ u' = .returning ∧ w' = w.drew := by
  refine callsD_of_wpS Tryz.func194 rfl fun c₀ cs hu => ?_
  refine wpS_region_draw [[0, 1, 2], [1, 0, 2]] (by kernel_rfl) (by kernel_rfl) ?_
  intro l hl
  simp only [List.mem_cons, List.not_mem_nil, or_false] at hl
  rcases hl with rfl | rfl
  all_goals
    simp [wpOpsS, go_sem, recoverD, hu, hc, Tryz.ntmps194]
    refine (keep_nil _ _).mono ?_
    rintro e w' ⟨rfl, rfl⟩
    cases c₀
    simp_all [bodyPostS, results, Tryz.results194]

set_option maxHeartbeats 400000 in
theorem catch39_err (i : Nat) (hi : i < 5) (p : Addr) (rb g n cap : Nat) (pl code : Int) (bs : List Int) (er : Nat → Addr) (older : List PanicEntry) (w : World) (hc : w.cell? p = some (.pointer (some ⟨rb, 0, none⟩))) (hR : Rdr w rb g n cap pl code bs) (hE : Errs w er) :
    CallsD Tryz.prog 194 #[.pointer (some p)] (.panicking ({ v := .iface 223 (.pointer (some (er i))), recovered := false } :: older)) w fun e u' w' =>
      e = .returned (.tuple #[]) ∧ u' = .panicking ({ v := .iface 223 (.pointer (some (er i))), recovered := true } :: older) ∧ w' = (w.setCell ⟨rb, 2, none⟩ (.int .i64 (codeNo i))).drew := by
  refine callsD_of_wpS Tryz.func194 rfl fun c₀ cs hu => ?_
  refine wpS_region_draw [[0, 1, 2], [1, 0, 2]] (by kernel_rfl) (by kernel_rfl) ?_
  intro l hl
  simp only [List.mem_cons, List.not_mem_nil, or_false] at hl
  rcases hl with rfl | rfl
  all_goals
    simp [wpOpsS, go_sem, recoverD, hu, hc, Tryz.ntmps194]
    refine (keep_err i hi rb g n cap pl code bs er _ hR.drew hE.drew).mono ?_
    rintro e w' ⟨rfl, rfl⟩
    cases c₀
    simp_all [bodyPostS, results, Tryz.results194, World.setCell_drew]

set_option maxHeartbeats 400000 in
theorem catch42_idle (p : Addr) (rb : Nat) (w : World) (hc : w.cell? p = some (.pointer (some ⟨rb, 0, none⟩))) :
    CallsD Tryz.prog 201 #[.pointer (some p)] .returning w fun e u' w' => e = .returned (.tuple #[]) ∧ u' = .returning ∧ w' = w.drew := by
  refine callsD_of_wpS Tryz.func201 rfl fun c₀ cs hu => ?_
  refine wpS_region_draw [[0, 1, 2], [1, 0, 2]] (by kernel_rfl) (by kernel_rfl) ?_
  intro l hl
  simp only [List.mem_cons, List.not_mem_nil, or_false] at hl
  rcases hl with rfl | rfl
  all_goals
    simp [wpOpsS, go_sem, recoverD, hu, hc, Tryz.ntmps201]
    refine (keep_nil _ _).mono ?_
    rintro e w' ⟨rfl, rfl⟩
    cases c₀
    simp_all [bodyPostS, results, Tryz.results201]

set_option maxHeartbeats 400000 in
theorem catch42_err (i : Nat) (hi : i < 5) (p : Addr) (rb g n cap : Nat) (pl code : Int) (bs : List Int) (er : Nat → Addr) (older : List PanicEntry) (w : World) (hc : w.cell? p = some (.pointer (some ⟨rb, 0, none⟩))) (hR : Rdr w rb g n cap pl code bs) (hE : Errs w er) :
    CallsD Tryz.prog 201 #[.pointer (some p)] (.panicking ({ v := .iface 223 (.pointer (some (er i))), recovered := false } :: older)) w fun e u' w' =>
      e = .returned (.tuple #[]) ∧ u' = .panicking ({ v := .iface 223 (.pointer (some (er i))), recovered := true } :: older) ∧ w' = (w.setCell ⟨rb, 2, none⟩ (.int .i64 (codeNo i))).drew := by
  refine callsD_of_wpS Tryz.func201 rfl fun c₀ cs hu => ?_
  refine wpS_region_draw [[0, 1, 2], [1, 0, 2]] (by kernel_rfl) (by kernel_rfl) ?_
  intro l hl
  simp only [List.mem_cons, List.not_mem_nil, or_false] at hl
  rcases hl with rfl | rfl
  all_goals
    simp [wpOpsS, go_sem, recoverD, hu, hc, Tryz.ntmps201]
    refine (keep_err i hi rb g n cap pl code bs er _ hR.drew hE.drew).mono ?_
    rintro e w' ⟨rfl, rfl⟩
    cases c₀
    simp_all [bodyPostS, results, Tryz.results201, World.setCell_drew]

set_option maxHeartbeats 400000 in
theorem catch43_idle (p : Addr) (rb : Nat) (w : World) (hc : w.cell? p = some (.pointer (some ⟨rb, 0, none⟩))) :
    CallsD Tryz.prog 144 #[.pointer (some p)] .returning w fun e u' w' => e = .returned (.tuple #[]) ∧ u' = .returning ∧ w' = w.drew := by
  refine callsD_of_wpS Tryz.func144 rfl fun c₀ cs hu => ?_
  refine wpS_region_draw [[0, 1, 2], [1, 0, 2]] (by kernel_rfl) (by kernel_rfl) ?_
  intro l hl
  simp only [List.mem_cons, List.not_mem_nil, or_false] at hl
  rcases hl with rfl | rfl
  all_goals
    simp [wpOpsS, go_sem, recoverD, hu, hc, Tryz.ntmps144]
    refine (keep_nil _ _).mono ?_
    rintro e w' ⟨rfl, rfl⟩
    cases c₀
    simp_all [bodyPostS, results, Tryz.results144]

set_option maxHeartbeats 400000 in
theorem catch43_err (i : Nat) (hi : i < 5) (p : Addr) (rb g n cap : Nat) (pl code : Int) (bs : List Int) (er : Nat → Addr) (older : List PanicEntry) (w : World) (hc : w.cell? p = some (.pointer (some ⟨rb, 0, none⟩))) (hR : Rdr w rb g n cap pl code bs) (hE : Errs w er) :
    CallsD Tryz.prog 144 #[.pointer (some p)] (.panicking ({ v := .iface 223 (.pointer (some (er i))), recovered := false } :: older)) w fun e u' w' =>
      e = .returned (.tuple #[]) ∧ u' = .panicking ({ v := .iface 223 (.pointer (some (er i))), recovered := true } :: older) ∧ w' = (w.setCell ⟨rb, 2, none⟩ (.int .i64 (codeNo i))).drew := by
  refine callsD_of_wpS Tryz.func144 rfl fun c₀ cs hu => ?_
  refine wpS_region_draw [[0, 1, 2], [1, 0, 2]] (by kernel_rfl) (by kernel_rfl) ?_
  intro l hl
  simp only [List.mem_cons, List.not_mem_nil, or_false] at hl
  rcases hl with rfl | rfl
  all_goals
    simp [wpOpsS, go_sem, recoverD, hu, hc, Tryz.ntmps144]
    refine (keep_err i hi rb g n cap pl code bs er _ hR.drew hE.drew).mono ?_
    rintro e w' ⟨rfl, rfl⟩
    cases c₀
    simp_all [bodyPostS, results, Tryz.results144, World.setCell_drew]

set_option maxHeartbeats 400000 in
theorem catch45_idle (p : Addr) (rb : Nat) (w : World) (hc : w.cell? p = some (.pointer (some ⟨rb, 0, none⟩))) :
    CallsD Tryz.prog 207 #[.pointer (some p)] .returning w fun e u' w' => e = .returned (.tuple #[]) ∧ u' = .returning ∧ w' = w.drew := by
  refine callsD_of_wpS Tryz.func207 rfl fun c₀ cs hu => ?_
  refine wpS_region_draw [[0, 1, 2], [1, 0, 2]] (by kernel_rfl) (by kernel_rfl) ?_
  intro l hl
  simp only [List.mem_cons, List.not_mem_nil, or_false] at hl
  rcases hl with rfl | rfl
  all_goals
    simp [wpOpsS, go_sem, recoverD, hu, hc, Tryz.ntmps207]
    refine (keep_nil _ _).mono ?_
    rintro e w' ⟨rfl, rfl⟩
    cases c₀
    simp_all [bodyPostS, results, Tryz.results207]

set_option maxHeartbeats 400000 in
theorem catch45_err (i : Nat) (hi : i < 5) (p : Addr) (rb g n cap : Nat) (pl code : Int) (bs : List Int) (er : Nat → Addr) (older : List PanicEntry) (w : World) (hc : w.cell? p = some (.pointer (some ⟨rb, 0, none⟩))) (hR : Rdr w rb g n cap pl code bs) (hE : Errs w er) :
    CallsD Tryz.prog 207 #[.pointer (some p)] (.panicking ({ v := .iface 223 (.pointer (some (er i))), recovered := false } :: older)) w fun e u' w' =>
      e = .returned (.tuple #[]) ∧ u' = .panicking ({ v := .iface 223 (.pointer (some (er i))), recovered := true } :: older) ∧ w' = (w.setCell ⟨rb, 2, none⟩ (.int .i64 (codeNo i))).drew := by
  refine callsD_of_wpS Tryz.func207 rfl fun c₀ cs hu => ?_
  refine wpS_region_draw [[0, 1, 2], [1, 0, 2]] (by kernel_rfl) (by kernel_rfl) ?_
  intro l hl
  simp only [List.mem_cons, List.not_mem_nil, or_false] at hl
  rcases hl with rfl | rfl
  all_goals
    simp [wpOpsS, go_sem, recoverD, hu, hc, Tryz.ntmps207]
    refine (keep_err i hi rb g n cap pl code bs er _ hR.drew hE.drew).mono ?_
    rintro e w' ⟨rfl, rfl⟩
    cases c₀
    simp_all [bodyPostS, results, Tryz.results207, World.setCell_drew]

set_option maxHeartbeats 400000 in
theorem catch47_idle (p : Addr) (rb : Nat) (w : World) (hc : w.cell? p = some (.pointer (some ⟨rb, 0, none⟩))) :
    CallsD Tryz.prog 215 #[.pointer (some p)] .returning w fun e u' w' => e = .returned (.tuple #[]) ∧ u' = .returning ∧ w' = w.drew := by
  refine callsD_of_wpS Tryz.func215 rfl fun c₀ cs hu => ?_
  refine wpS_region_draw [[0, 1, 2], [1, 0, 2]] (by kernel_rfl) (by kernel_rfl) ?_
  intro l hl
  simp only [List.mem_cons, List.not_mem_nil, or_false] at hl
  rcases hl with rfl | rfl
  all_goals
    simp [wpOpsS, go_sem, recoverD, hu, hc, Tryz.ntmps215]
    refine (keep_nil _ _).mono ?_
    rintro e w' ⟨rfl, rfl⟩
    cases c₀
    simp_all [bodyPostS, results, Tryz.results215]

set_option maxHeartbeats 400000 in
theorem catch47_err (i : Nat) (hi : i < 5) (p : Addr) (rb g n cap : Nat) (pl code : Int) (bs : List Int) (er : Nat → Addr) (older : List PanicEntry) (w : World) (hc : w.cell? p = some (.pointer (some ⟨rb, 0, none⟩))) (hR : Rdr w rb g n cap pl code bs) (hE : Errs w er) :
    CallsD Tryz.prog 215 #[.pointer (some p)] (.panicking ({ v := .iface 223 (.pointer (some (er i))), recovered := false } :: older)) w fun e u' w' =>
      e = .returned (.tuple #[]) ∧ u' = .panicking ({ v := .iface 223 (.pointer (some (er i))), recovered := true } :: older) ∧ w' = (w.setCell ⟨rb, 2, none⟩ (.int .i64 (codeNo i))).drew := by
  refine callsD_of_wpS Tryz.func215 rfl fun c₀ cs hu => ?_
  refine wpS_region_draw [[0, 1, 2], [1, 0, 2]] (by kernel_rfl) (by kernel_rfl) ?_
  intro l hl
  simp only [List.mem_cons, List.not_mem_nil, or_false] at hl
  rcases hl with rfl | rfl
  all_goals
    simp [wpOpsS, go_sem, recoverD, hu, hc, Tryz.ntmps215]
    refine (keep_err i hi rb g n cap pl code bs er _ hR.drew hE.drew).mono ?_
    rintro e w' ⟨rfl, rfl⟩
    cases c₀
    simp_all [bodyPostS, results, Tryz.results215, World.setCell_drew]

set_option maxHeartbeats 400000 in
theorem catch48_idle (p : Addr) (rb : Nat) (w : World) (hc : w.cell? p = some (.pointer (some ⟨rb, 0, none⟩))) :
    CallsD Tryz.prog 222 #[.pointer (some p)] .returning w fun e u' w' => e = .returned (.tuple #[]) ∧ u' = .returning ∧ w' = w.drew := by
  refine callsD_of_wpS Tryz.func222 rfl fun c₀ cs hu => ?_
  refine wpS_region_draw [[0, 1, 2], [1, 0, 2]] (by kernel_rfl) (by kernel_rfl) ?_
  intro l hl
  simp only [List.mem_cons, List.not_mem_nil, or_false] at hl
  rcases hl with rfl | rfl
  all_goals
    simp [wpOpsS, go_sem, recoverD, hu, hc, Tryz.ntmps222]
    refine (keep_nil _ _).mono ?_
    rintro e w' ⟨rfl, rfl⟩
    cases c₀
    simp_all [bodyPostS, results, Tryz.results222]

set_option maxHeartbeats 400000 in
theorem catch48_err (i : Nat) (hi : i < 5) (p : Addr) (rb g n cap : Nat) (pl code : Int) (bs : List Int) (er : Nat → Addr) (older : List PanicEntry) (w : World) (hc : w.cell? p = some (.pointer (some ⟨rb, 0, none⟩))) (hR : Rdr w rb g n cap pl code bs) (hE : Errs w er) :
    CallsD Tryz.prog 222 #[.pointer (some p)] (.panicking ({ v := .iface 223 (.pointer (some (er i))), recovered := false } :: older)) w fun e u' w' =>
      e = .returned (.tuple #[]) ∧ u' = .panicking ({ v := .iface 223 (.pointer (some (er i))), recovered := true } :: older) ∧ w' = (w.setCell ⟨rb, 2, none⟩ (.int .i64 (codeNo i))).drew := by
  refine callsD_of_wpS Tryz.func222 rfl fun c₀ cs hu => ?_
  refine wpS_region_draw [[0, 1, 2], [1, 0, 2]] (by kernel_rfl) (by kernel_rfl) ?_
  intro l hl
  simp only [List.mem_cons, List.not_mem_nil, or_false] at hl
  rcases hl with rfl | rfl
  all_goals
    simp [wpOpsS, go_sem, recoverD, hu, hc, Tryz.ntmps222]
    refine (keep_err i hi rb g n cap pl code bs er _ hR.drew hE.drew).mono ?_
    rintro e w' ⟨rfl, rfl⟩
    cases c₀
    simp_all [bodyPostS, results, Tryz.results222, World.setCell_drew]
end Go.Proofs.YtdkcplndplhblaaGreatDoor
