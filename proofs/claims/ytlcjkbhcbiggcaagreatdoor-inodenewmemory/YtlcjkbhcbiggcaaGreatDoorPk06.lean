/- The face Sum by its contract. -/
import Derived.Test.YtlcjkbhcbiggcaaGreatDoorPk05
import Derived.Laws.IdiomStrings
import Derived.Test.YtlcjkbhcbiggcaaGreatDoorPk01
import Derived.BigQuiet
import Derived.Deep.QuietTactic
import Derived.OpenShut
import Derived.Laws.BitsAllLaws
import Derived.Test.YtlcjkbhcbiggcaaGreatDoorPk04
import Derived.Lib.SmallJoins
import Derived.Lib.SliceRun
namespace Go.Proofs.YtlcjkbhcbiggcaaGreatDoor
open Go.RowKit
set_option maxRecDepth 100000

/-- The text of bytes. -/
def txt (l : List Int) : ByteArray := ⟨(l.map (fun x => UInt8.ofNat x.toNat)).toArray⟩
theorem fold_txt : ∀ (l : List Int) (r : ByteArray), l.foldl (fun r n => r.push (UInt8.ofNat n.toNat)) r = ⟨r.data ++ (l.map (fun x => UInt8.ofNat x.toNat)).toArray⟩
  | [], r => by simp
  | b :: l, r => by
    simp only [List.foldl_cons]
    rw [fold_txt l]
    simp [ByteArray.push]
theorem txt_size (l : List Int) : (txt l).size = l.length := by simp [txt, ByteArray.size]
theorem nums_txt (l : List Int) (h : ∀ x ∈ l, 0 ≤ x ∧ x ≤ 255) : nums (txt l) = l := by
  simp only [nums, txt, List.toList_toArray, List.map_map]
  conv => rhs; rw [← List.map_id l]
  apply List.map_congr_left
  intro x hx
  have := h x hx
  simp only [Function.comp, id]
  rw [UInt8.toNat_ofNat_of_lt' (by simp [UInt8.size]; omega)]
  omega

theorem run_string_of (w : World) (a : Addr) (n cap : Nat) (l : List Int) (hL : Lies w (some a) n cap l) : (convert 39 9 (.slice (some a) n cap)).run Tryz.prog w = .ok (.string (txt l)) w := by
  rw [run_convert_bytes_string w 39 9 5 (some a) n cap Tryz.underlying39 Tryz.underlying5 Tryz.underlying9]
  have hl := run_loadCells_list (P := Tryz.prog) w a (l.map (Value.int .u8)) (fun j v hj => hL.hcells a rfl j v hj)
  rw [List.length_map, hL.hlen] at hl
  rw [run_bytesToString w a n cap l hl, fold_txt]
  simp [txt]

/-- A piece of a row. -/
theorem Lies.sub {w : World} {g n cap : Nat} {bs : List Int} (h : Lies w (some ⟨g, 0, none⟩) n cap bs) (q p k c : Nat) (hq : 0 < k → q = p) (hk : p + k ≤ n) (hkc : k ≤ c) : Lies w (some ⟨g, q, none⟩) k c ((bs.drop p).take k) := by
  have hl : ((bs.drop p).take k).length = k := by simp [h.hlen]; omega
  refine ⟨hl, hkc, (fun h => by cases h), fun ad had t u hu => ?_⟩
  obtain rfl := Option.some.inj had
  have ht : t < k := by
    have := (List.getElem?_eq_some_iff.1 hu).1
    simp only [List.length_map, hl] at this
    exact this
  obtain rfl := hq (by omega)
  have := h.hcells _ rfl (q + t) u (by rw [← hu]; simp [ht])
  rw [Addr.add_lit] at this ⊢
  simpa using this

/-- What Text and Bytes read, and where they leave the reader. -/
def rdText (n : Nat) (bs : List Int) (pl : Nat) (code M : Int) : List Int × Nat × Int :=
  if code ≠ 0 then ([], pl, code) else
  if n < pl + 4 then ([], pl, 11) else
  if M < 0 ∨ M < val ((bs.drop pl).take 4) then ([], pl, 14) else
  if n < pl + (4 + (val ((bs.drop pl).take 4)).toNat + padN (val ((bs.drop pl).take 4)).toNat) then ([], pl, 11) else
  if ¬ ∀ t, t < padN (val ((bs.drop pl).take 4)).toNat → bs.getD (pl + (4 + (val ((bs.drop pl).take 4)).toNat) + t) 0 = 0 then ([], pl, 15) else
  ((bs.drop (pl + 4)).take (val ((bs.drop pl).take 4)).toNat, pl + (4 + (val ((bs.drop pl).take 4)).toNat + padN (val ((bs.drop pl).take 4)).toNat), 0)

theorem val4_lt (bs : List Int) (pl : Nat) (hby : ∀ x ∈ bs, 0 ≤ x ∧ x ≤ 255) : 0 ≤ val ((bs.drop pl).take 4) ∧ val ((bs.drop pl).take 4) < 4294967296 := by
  have h := val_bd ((bs.drop pl).take 4) (fun x hx => hby x (List.mem_of_mem_drop (List.mem_of_mem_take hx)))
  refine ⟨h.1, Int.lt_of_lt_of_le h.2 ?_⟩
  have hl : ((bs.drop pl).take 4).length ≤ 4 := List.length_take_le _ _
  have := Nat.pow_le_pow_right (show 0 < 256 by decide) hl
  have e : (256 : Int) ^ ((bs.drop pl).take 4).length = ((256 ^ ((bs.drop pl).take 4).length : Nat) : Int) := by simp
  rw [e]
  omega

/-- What Sum answers, and where it leaves the reader. -/
def rdSum (n : Nat) (bs : List Int) (pl : Nat) (code : Int) : Int × Nat × Int :=
  if code ≠ 0 then (0, pl, code) else if n < pl + 8 then (0, pl, 11) else (val ((bs.drop pl).take 8), pl + 8, 0)
/-- What Flag answers, and where it leaves the reader. -/
def rdFlag (n : Nat) (bs : List Int) (pl : Nat) (code : Int) : Bool × Nat × Int :=
  if code ≠ 0 then (false, pl, code) else if n < pl + 4 then (false, pl, 11) else if 1 < val ((bs.drop pl).take 4) then (false, pl, 13) else (val ((bs.drop pl).take 4) == 1, pl + 4, 0)

set_option maxHeartbeats 400000 in
theorem sum_held (rb g n cap : Nat) (pl code : Int) (bs : List Int) (w : World) (hR : Rdr w rb g n cap pl code bs) (hc : (code != 0) = true) :
    Calls Tryz.prog 235 #[.pointer (some ⟨rb, 0, none⟩)] w fun e w' => e = .returned (.int .u64 0) ∧ WentR w w' rb g n cap pl code bs := by
  have c2 := (hR.alloc (.cells #[.pointer (some ⟨rb, 0, none⟩)] 283)).c2
  have fin := went_held hR
  clear hR
  go_enter_defers Tryz.func235, Tryz.ntmps235
  go_wp2
  exact ⟨_, results_tmp rfl _ _ _, rfl, fin⟩

set_option maxHeartbeats 400000 in
theorem sum_short (rb g n cap pl : Nat) (bs : List Int) (er : Nat → Addr) (w : World) (hR : Rdr w rb g n cap pl 0 bs) (hE : Errs w er) (hp : pl ≤ n) (hk : n < pl + 8) (hn : cap ≤ 200000000000000) :
    Calls Tryz.prog 235 #[.pointer (some ⟨rb, 0, none⟩)] w fun e w' => e = .returned (.int .u64 0) ∧ WentR w w' rb g n cap pl 11 bs := by
  have hmf : ∀ (fn : Fn) (first cap : Array Value) (w : World), (Instr.makeFunc fn first cap).run Tryz.prog w = .ok (.func fn first cap) w := fun _ _ _ _ => rfl
  have hR0 := hR.alloc (.cells #[.pointer (some ⟨rb, 0, none⟩)] 283)
  have hE0 := hE.alloc (.cells #[.pointer (some ⟨rb, 0, none⟩)] 283)
  have c2 := hR0.c2
  go_enter_defers Tryz.func235, Tryz.ntmps235
  go_wp2_with (go_at_call 263; refine (number_short rb g n cap pl 8 0 bs er _ hR0 hE0 hp hk (by omega) hn).mono ?_; rintro e w1 ⟨rfl, m0, hw1⟩; subst w1)
  refine leaves_cons (f := 262) (args := #[.pointer (some ⟨w.heap.size, 0, none⟩)]) (by simp) (by simp [go_sem]) ?_
  refine (catch43_err 4 (by omega) ⟨w.heap.size, 0, none⟩ rb g n cap pl 0 bs er [] _ ?_ (hR0.drewN m0) (hE0.drewN m0)).mono ?_
  · simp [go_sem]
  rintro e u' w'' ⟨rfl, rfl, rfl⟩
  exact ⟨_, results_tmp rfl _ _ _, rfl, went_err hR m0 11⟩

set_option maxHeartbeats 400000 in
theorem sum_ok (rb g n cap pl : Nat) (bs : List Int) (w : World) (hR : Rdr w rb g n cap pl 0 bs) (hk : pl + 8 ≤ n) (hn : cap ≤ 200000000000000) (hby : ∀ x ∈ bs, 0 ≤ x ∧ x ≤ 255) :
    Calls Tryz.prog 235 #[.pointer (some ⟨rb, 0, none⟩)] w fun e w' => e = .returned (.int .u64 (val ((bs.drop pl).take 8))) ∧ WentR w w' rb g n cap (pl + 8 : Nat) 0 bs := by
  have hmf : ∀ (fn : Fn) (first cap : Array Value) (w : World), (Instr.makeFunc fn first cap).run Tryz.prog w = .ok (.func fn first cap) w := fun _ _ _ _ => rfl
  have hR0 := hR.alloc (.cells #[.pointer (some ⟨rb, 0, none⟩)] 283)
  have c1 := hR0.c1
  have c2 := hR0.c2
  have f1 := hR0.f 1
  have hnc := hR.lies.hle
  have hpi : (pl : Int) ≤ 200000000000000 := by omega
  have hB := number_ok rb g n cap pl 8 0 bs _ hR0 hk (by omega) (by omega) hn hby
  generalize hV : val ((bs.drop pl).take 8) = V at *
  clear hV hby
  go_enter_defers Tryz.func235, Tryz.ntmps235
  go_wp2_with (go_at_call 263; refine hB.mono ?_; rintro e w1 ⟨rfl, m0, hw1⟩; subst w1)
  refine leaves_cons (f := 262) (args := #[.pointer (some ⟨w.heap.size, 0, none⟩)]) (by simp) (by simp [go_sem]) ?_
  refine (catch43_idle ⟨w.heap.size, 0, none⟩ rb _ ?_).mono ?_
  · have hlt := hR.lt
    exact (World.cell?_setCell_other _ _ _ _ (ne_block (Nat.ne_of_lt hlt))).trans (by simp [go_sem])
  rintro e u' w'' ⟨rfl, rfl, rfl⟩
  exact ⟨_, results_tmp rfl _ _ _, rfl, went_ok hR m0 _⟩

theorem sum_any (rb g n cap pl : Nat) (code : Int) (bs : List Int) (er : Nat → Addr) (w : World) (hR : Rdr w rb g n cap pl code bs) (hE : Errs w er) (hp : pl ≤ n) (hn : cap ≤ 200000000000000) (hby : ∀ x ∈ bs, 0 ≤ x ∧ x ≤ 255) :
    Calls Tryz.prog 235 #[.pointer (some ⟨rb, 0, none⟩)] w fun e w' => e = .returned (.int .u64 (rdSum n bs pl code).1) ∧ WentR w w' rb g n cap (rdSum n bs pl code).2.1 (rdSum n bs pl code).2.2 bs := by
  unfold rdSum
  by_cases hc : code ≠ 0
  · simp only [if_pos hc]
    exact sum_held rb g n cap pl code bs w hR (by simpa using hc)
  · have hc0 : code = 0 := by omega
    subst hc0
    simp only [if_neg hc]
    by_cases hk : n < pl + 8
    · simp only [if_pos hk]
      exact sum_short rb g n cap pl bs er w hR hE hp hk hn
    · simp only [if_neg hk]
      exact sum_ok rb g n cap pl bs w hR (by omega) hn hby
end Go.Proofs.YtlcjkbhcbiggcaaGreatDoor

/- What the texts on sums stand on. -/

/- The sum's step, forwards and backwards, as numbers; what follows of it. -/
namespace Go.Proofs.YtlcjkbhcbiggcaaGreatDoor.S2
open Go.RowKit
set_option maxRecDepth 100000

/-- A number of 64 bits. -/
abbrev U (h : Int) : Prop := 0 ≤ h ∧ h ≤ 18446744073709551615
/-- A byte. -/
abbrev By (x : Int) : Prop := 0 ≤ x ∧ x ≤ 255
/-- The step of a number and a byte. -/
def stp (h x : Int) : Int := IntKind.u64.wrap (bits .xor .u64 h x * 1099511628211)
/-- The number times the inverse. -/
def inv (h : Int) : Int := IntKind.u64.wrap (h * 14886173955864302971)
/-- The step undone. -/
def und (h x : Int) : Int := bits .xor .u64 (inv h) x
def fwd (h : Int) (l : List Int) : Int := l.foldl stp h
def bwd (h : Int) (l : List Int) : Int := l.foldr (fun x g => und g x) h

theorem By.u {x : Int} (h : By x) : U x := ⟨h.1, by have := h.2; omega⟩
theorem U.wrap (n : Int) : U (IntKind.u64.wrap n) := by
  rw [IntKind.wrap_u64]; exact ⟨by omega, by omega⟩
theorem xorN {a b : Int} (ha : U a) (hb : U b) : bits .xor .u64 a b = ((a.toNat ^^^ b.toNat : Nat) : Int) := by
  have h1 := ha.1; have h2 := ha.2; have h3 := hb.1; have h4 := hb.2
  exact u64_xor a b h1 (by omega) h3 (by omega)
theorem U.xor {a b : Int} (ha : U a) (hb : U b) : U (bits .xor .u64 a b) := by
  rw [xorN ha hb]
  have h1 := ha.1; have h2 := ha.2; have h3 := hb.1; have h4 := hb.2
  have : a.toNat ^^^ b.toNat < 2 ^ 64 := Nat.xor_lt_two_pow (by omega) (by omega)
  exact ⟨by omega, by omega⟩
theorem xor_self {a b : Int} (ha : U a) (hb : U b) : bits .xor .u64 (bits .xor .u64 a b) b = a := by
  rw [xorN (ha.xor hb) hb, xorN ha hb, Int.toNat_natCast, Nat.xor_assoc, Nat.xor_self, Nat.xor_zero]
  have := ha.1; omega
theorem xor_comm {a b : Int} (ha : U a) (hb : U b) : bits .xor .u64 a b = bits .xor .u64 b a := by
  rw [xorN ha hb, xorN hb ha, Nat.xor_comm]
theorem xor_assoc {a b c : Int} (ha : U a) (hb : U b) (hc : U c) : bits .xor .u64 (bits .xor .u64 a b) c = bits .xor .u64 a (bits .xor .u64 b c) := by
  rw [xorN (ha.xor hb) hc, xorN ha hb, xorN ha (hb.xor hc), xorN hb hc, Int.toNat_natCast, Int.toNat_natCast, Nat.xor_assoc]
theorem xor_inj {a b c : Int} (ha : U a) (hb : U b) (hc : U c) (h : bits .xor .u64 a b = bits .xor .u64 a c) : b = c := by
  have e1 := xor_self hb ha
  have e2 := xor_self hc ha
  rw [xor_comm hb ha] at e1
  rw [xor_comm hc ha] at e2
  rw [← e1, ← e2, h]
theorem U.stp (h x : Int) : U (stp h x) := U.wrap _
theorem U.inv (h : Int) : U (inv h) := U.wrap _
theorem U.und (h : Int) {x : Int} (hx : By x) : U (und h x) := (U.inv h).xor hx.u
theorem inv_mul {a : Int} (ha : U a) : inv (IntKind.u64.wrap (a * 1099511628211)) = a := by
  have h1 := ha.1; have h2 := ha.2
  unfold inv
  rw [IntKind.wrap_u64, IntKind.wrap_u64]
  omega
theorem mul_inv {a : Int} (ha : U a) : IntKind.u64.wrap (inv a * 1099511628211) = a := by
  have h1 := ha.1; have h2 := ha.2
  unfold inv
  rw [IntKind.wrap_u64, IntKind.wrap_u64]
  omega
theorem und_stp {h x : Int} (hh : U h) (hx : By x) : und (stp h x) x = h := by
  unfold und stp
  rw [inv_mul (hh.xor hx.u), xor_self hh hx.u]
theorem stp_und {h x : Int} (hh : U h) (hx : By x) : stp (und h x) x = h := by
  unfold und stp
  rw [xor_self (U.inv h) hx.u, mul_inv hh]
theorem U.fwd {h : Int} (l : List Int) (hh : U h) : U (fwd h l) := by
  induction l generalizing h with
  | nil => exact hh
  | cons x l ih => exact ih (U.stp h x)
theorem U.bwd {h : Int} (l : List Int) (hl : ∀ x ∈ l, By x) (hh : U h) : U (bwd h l) := by
  cases l with
  | nil => exact hh
  | cons x l => exact U.und _ (hl x (by simp))
theorem fwd_append (h : Int) (a b : List Int) : fwd h (a ++ b) = fwd (fwd h a) b := List.foldl_append ..
theorem bwd_append (h : Int) (a b : List Int) : bwd h (a ++ b) = bwd (bwd h b) a := List.foldr_append ..
theorem bwd_fwd {h : Int} (l : List Int) (hl : ∀ x ∈ l, By x) (hh : U h) : bwd (fwd h l) l = h := by
  induction l generalizing h with
  | nil => rfl
  | cons x l ih =>
    show und (bwd (fwd (stp h x) l) l) x = h
    rw [ih (fun y hy => hl y (by simp [hy])) (U.stp h x), und_stp hh (hl x (by simp))]
theorem fwd_bwd {h : Int} (l : List Int) (hl : ∀ x ∈ l, By x) (hh : U h) : fwd (bwd h l) l = h := by
  induction l with
  | nil => rfl
  | cons x l ih =>
    show fwd (stp (und (bwd h l) x) x) l = h
    rw [stp_und (U.bwd l (fun y hy => hl y (by simp [hy])) hh) (hl x (by simp)), ih (fun y hy => hl y (by simp [hy]))]
theorem fwd_inj {g h : Int} (l : List Int) (hl : ∀ x ∈ l, By x) (hg : U g) (hh : U h) : fwd g l = fwd h l ↔ g = h := by
  refine ⟨fun e => ?_, fun e => by rw [e]⟩
  rw [← bwd_fwd l hl hg, ← bwd_fwd l hl hh, e]
theorem bwd_inj {g h : Int} (l : List Int) (hl : ∀ x ∈ l, By x) (hg : U g) (hh : U h) : bwd g l = bwd h l ↔ g = h := by
  refine ⟨fun e => ?_, fun e => by rw [e]⟩
  rw [← fwd_bwd l hl hg, ← fwd_bwd l hl hh, e]
end Go.Proofs.YtlcjkbhcbiggcaaGreatDoor.S2

/- sum.step, sum.undo, sum.inverseOfPrime by their contracts. -/
namespace Go.Proofs.YtlcjkbhcbiggcaaGreatDoor.S2
open Go.RowKit
set_option maxRecDepth 100000

set_option maxHeartbeats 400000 in
theorem step_any (h x : Int) (w : World) (hx : By x) :
    Calls Tryz.prog 227 #[.int .u64 h, .int .u8 x] w fun e w' => e = .returned (.int .u64 (stp h x)) ∧ w' = w := by
  have h1 := hx.1; have h2 := hx.2
  go_enter Tryz.func227, Tryz.ntmps227
  go_wp2
  go_ret
  exact ⟨rfl, rfl⟩
end Go.Proofs.YtlcjkbhcbiggcaaGreatDoor.S2

/- sum.More, sum.Back, sum.Sum by their contracts. -/
namespace Go.Proofs.YtlcjkbhcbiggcaaGreatDoor.S2
open Go.RowKit
set_option maxRecDepth 100000

theorem by_getD {l : List Int} (hl : ∀ x ∈ l, By x) {k : Nat} (hk : k < l.length) : By (l.getD k 0) := by
  have : l.getD k 0 = l[k] := by simp [List.getD, hk]
  rw [this]; exact hl _ (List.getElem_mem hk)
theorem take_succ_getD (l : List Int) {k : Nat} (hk : k < l.length) : l.take (k + 1) = l.take k ++ [l.getD k 0] := by
  rw [List.take_succ_eq_append_getElem hk]
  simp [List.getD, hk]
theorem drop_getD (l : List Int) {k : Nat} (hk : k < l.length) : l.drop k = l.getD k 0 :: l.drop (k + 1) := by
  rw [List.drop_eq_getElem_cons hk]
  simp [List.getD, hk]

set_option maxHeartbeats 400000 in
theorem more_pos (h : Int) (b o c n : Nat) (bs : List Int) (w : World) (hn : n ≤ 9223372036854775807) (hl : bs.length = n) (hby : ∀ x ∈ bs, By x)
    (hc : ∀ t, t < n → w.cell? ⟨b, o + t, none⟩ = some (.int .u8 (bs.getD t 0))) :
    Calls Tryz.prog 177 #[.int .u64 h, .slice (some ⟨b, o, none⟩) n c] w fun e w' => e = .returned (.int .u64 (fwd h bs)) ∧ w' = w := by
  have hni : (n : Int) ≤ 9223372036854775807 := by omega
  go_enter Tryz.func177, Tryz.ntmps177
  go_wp2
  go_loopw [0, 9] (fun g i wr => ∃ k : Nat, k ≤ n ∧ i = .int .i64 k ∧ g = .int .u64 (fwd h (bs.take k)) ∧ wr = w) (fun _ i _ => n - (intOf i).toNat)
  case atStart => exact ⟨0, Nat.zero_le _, rfl, by simp [fwd], rfl⟩
  case round =>
    obtain ⟨k, hk, rfl, rfl, hwr⟩ := hrel
    subst wr
    by_cases hlt : k < n
    · have hck := hc k hlt
      have hx := by_getD hby (show k < bs.length by omega)
      have hs : fwd h (bs.take (k + 1)) = stp (fwd h (bs.take k)) (bs.getD k 0) := by
        rw [take_succ_getD bs (by omega), fwd_append]; rfl
      have HS : Hid _ := hs
      clear hs
      clear hc hby
      generalize fwd h (bs.take k) = g at *
      generalize bs.getD k 0 = x at *
      go_wp2_with (go_at_call 227; refine (step_any _ _ _ hx).mono ?_; rintro e w1 ⟨rfl, hw1⟩; subst w1)
      go_roundw
      case rel => exact ⟨k + 1, by omega, by go_num, by rw [HS.out], by trivial⟩
      case measure => simp [intOf]; omega
    · clear hc hby
      go_wp2
      go_ret
      rw [List.take_of_length_le (by omega)]
      exact ⟨rfl, rfl⟩

set_option maxHeartbeats 400000 in
theorem more_zero (h : Int) (ao : Option Addr) (c : Nat) (w : World) :
    Calls Tryz.prog 177 #[.int .u64 h, .slice ao 0 c] w fun e w' => e = .returned (.int .u64 h) ∧ w' = w := by
  go_enter Tryz.func177, Tryz.ntmps177
  go_wp2
  refine wp_loop_rounds 1 ?_
  rw [rounds_succ]
  go_wp2
  go_ret
  exact ⟨rfl, rfl⟩

/-- More, of any number and any list. -/
theorem more_any (h : Int) (ao : Option Addr) (n c : Nat) (bs : List Int) (w : World) (hn : n ≤ 9223372036854775807) (hL : Lies w ao n c bs) (hby : ∀ x ∈ bs, By x) :
    Calls Tryz.prog 177 #[.int .u64 h, .slice ao n c] w fun e w' => e = .returned (.int .u64 (fwd h bs)) ∧ w' = w := by
  by_cases h0 : 0 < n
  · obtain ⟨b, o, rfl, hc⟩ := hL.at h0
    exact more_pos h b o c n bs w hn hL.hlen hby hc
  · obtain rfl : n = 0 := by omega
    obtain rfl := List.eq_nil_of_length_eq_zero hL.hlen
    exact more_zero h ao c w

set_option maxHeartbeats 400000 in
theorem sum_any (ao : Option Addr) (n c : Nat) (bs : List Int) (w : World) (hn : n ≤ 9223372036854775807) (hL : Lies w ao n c bs) (hby : ∀ x ∈ bs, By x) :
    Calls Tryz.prog 124 #[.slice ao n c] w fun e w' => e = .returned (.int .u64 (fwd 14695981039346656037 bs)) ∧ w' = w := by
  go_enter Tryz.func124, Tryz.ntmps124
  go_wp2_with (go_at_call 177; refine (more_any _ ao n c bs _ hn hL hby).mono ?_; rintro e w1 ⟨rfl, hw1⟩; subst w1)
  go_ret
  exact ⟨rfl, rfl⟩
end Go.Proofs.YtlcjkbhcbiggcaaGreatDoor.S2

/- The journal's own blocks, by their contracts: filled, commitBlock, headBlock. -/
namespace Go.Proofs.YtlcjkbhcbiggcaaGreatDoor
open Go.RowKit
set_option maxRecDepth 100000

theorem lies_mark (w : World) (l : List Int) (n : Nat) (hl : l.length = n) (C : Array Value) (hC : C = (l.map (Value.int .u8)).toArray) (fr : Nat × Nat) (g : Nat) (hg : g = w.heap.size) : Lies (w.alloc (.cells C 5 fr)) (some ⟨g, 0, none⟩) n n l := by
  subst hC
  refine ⟨hl, Nat.le_refl _, (fun h => by cases h), fun ad had t u hu => ?_⟩
  obtain rfl := Option.some.inj had
  rw [Addr.add_lit, Nat.zero_add, Go.Joins.cell_alloc_mark_at _ _ _ _ _ _ hg]
  simpa using hu
theorem be_by (X : Int) (k : Nat) : ∀ x ∈ be X k, 0 ≤ x ∧ x ≤ 255 := by
  induction k with
  | zero => intro x hx; simp [be] at hx
  | succ k ih =>
    intro x hx
    simp only [be, List.mem_cons] at hx
    rcases hx with rfl | hx
    · omega
    · exact ih x hx
/-- So many bytes, and zeros behind them. -/
def fillB (bs : List Int) : List Int := bs ++ List.replicate (512 - bs.length) 0
theorem fillB_len {bs : List Int} (h : bs.length ≤ 512) : (fillB bs).length = 512 := by simp [fillB]; omega
theorem fillB_by {bs : List Int} (h : ∀ x ∈ bs, 0 ≤ x ∧ x ≤ 255) : ∀ x ∈ fillB bs, 0 ≤ x ∧ x ≤ 255 := fun x hx => by
  rcases List.mem_append.1 hx with hx | hx
  · exact h x hx
  · have := List.eq_of_mem_replicate hx; omega
theorem splice_zeros (bs : List Int) : splice (List.replicate 512 (Value.int .u8 0)) 0 (bs.map (Value.int .u8)) = (fillB bs).map (Value.int .u8) := by
  unfold splice fillB
  rw [List.take_zero, List.nil_append, List.length_map, Nat.zero_add, List.drop_replicate, List.map_append, List.map_replicate]
/-- A new block of these bytes. -/
def Blk (w w' : World) (e : Ending) (bs : List Int) : Prop := ∃ g, e = .returned (hv g) ∧ w.heap.size ≤ g ∧ w'.heap[g]? = some (bl bs) ∧ Below w.heap.size w w'
set_option maxHeartbeats 1000000 in
theorem filled_any (ao : Option Addr) (n c : Nat) (bs : List Int) (w : World) (hn : n ≤ 512) (hL : Lies w ao n c bs) : Calls Tryz.prog 122 #[.slice ao n c] w fun e w' => Blk w w' e (fillB bs) := by
  obtain ⟨i0, hi, hz0, hz1, hz2⟩ := info_parts Tryz.info5
  have hsz : (Tryz.prog.info? 5).map (·.size) = some 1 := by rw [hi]; simp [hz1]
  have hlen := hL.hlen
  have hL1 : Lies (w.alloc (.cells (madeCells #[.int .u8 0] 512) 5)) ao n c bs := hL.below ((Below.refl _ w).alloc (Nat.le_refl _) _) (Nat.le_refl _)
  have hpos : 0 < (bs.map (Value.int .u8)).length → (some ⟨w.heap.size, 0, none⟩ : Option Addr) = some ⟨w.heap.size, 0, none⟩ ∧ ∃ ad, ao = some ad ∧ ∀ j v, (bs.map (Value.int .u8))[j]? = some v → (w.alloc (.cells (madeCells #[.int .u8 0] 512) 5)).cell? (ad.add j) = some v := fun hp => by
    cases hao : ao with
    | none => have := (hL.hnone hao).1; simp at hp; omega
    | some ad => exact ⟨rfl, ad, rfl, hL1.hcells ad hao⟩
  have hrow := made_row w 512
  have hbel : Below w.heap.size w (w.alloc (.cells (madeCells #[.int .u8 0] 512) 5)) := (Below.refl _ w).alloc (Nat.le_refl _) _
  go_enter Tryz.func122, Tryz.ntmps122
  go_wp2_with (first
    | (at_make; (refine wpList_make_row _ rfl _ _ 39 rfl 5 i0 (.int .u8 0) Tryz.underlying39 hi hz0 hz1 rfl _ _ 512 rfl rfl (by rw [hz2]; omega) (by omega) ?_))
    | (refine wpList_copy_splice rfl _ _ 39 39 rfl 5 Tryz.underlying39 hsz _ _ _ _ _ _ rfl rfl w.heap.size 0 (List.replicate 512 (Value.int .u8 0)) 5 hrow (bs.map (Value.int .u8)) (by rw [List.length_map, hlen]; exact (Nat.min_eq_left hn).symm) hpos (by rw [List.length_map, hlen, List.length_replicate]; omega) (ints_oneCell _ _) w.heap.size w hbel (Nat.le_refl _) ?_; intro w2 HG2 hB2))
  go_ret
  refine ⟨_, rfl, Nat.le_refl _, ?_, hB2⟩
  rw [HG2.out, splice_zeros]
/-- A commit. -/
def comB (seq : Int) : List Int := fillB ([65, 78, 88, 67] ++ be 0 4 ++ be (IntKind.u64.wrap seq) 8)
set_option maxHeartbeats 1000000 in
theorem commitBlock_any (seq : Int) (w : World) : Calls Tryz.prog 205 #[.int .i64 seq] w fun e w' => Blk w w' e (comB seq) := by
  have hcc := Go.Joins.run_convert_bytes_const_at (P := Tryz.prog) w 39 5 #[.int .u8 65, .int .u8 78, .int .u8 88, .int .u8 67] 4 4 w.heap.size (by simp) Tryz.underlying39 Tryz.underlying5
  have hb0 : Below w.heap.size w (w.alloc (.cells #[.int .u8 65, .int .u8 78, .int .u8 88, .int .u8 67] 5 (4, 5))) := (Below.refl _ w).alloc (Nat.le_refl _) _
  have hL0 : Lies (w.alloc (.cells #[.int .u8 65, .int .u8 78, .int .u8 88, .int .u8 67] 5 (4, 5))) (some ⟨w.heap.size, 0, none⟩) 4 4 [65, 78, 88, 67] := lies_mark w [65, 78, 88, 67] 4 rfl _ rfl (4, 5) w.heap.size rfl
  go_enter Tryz.func205, Tryz.ntmps205
  go_wp2_with fail
  refine (put32_any _ 4 4 0 _ _ (by omega) hL0).mono ?_
  rintro e w1 ⟨g1, c1, rfl, ho1, hb1⟩
  have hL1 := Lies.own ho1
  have q1 := hb0.trans (hb1.mono hb0.size)
  clear hcc hb0 hL0 ho1 hb1
  go_wp2_with fail
  refine (put64_any _ _ c1 seq _ _ (by omega) hL1).mono ?_
  rintro e w2 ⟨g2, c2, rfl, ho2, hb2⟩
  have hL2 := Lies.own ho2
  have q2 := q1.trans (hb2.mono q1.size)
  clear hL1 ho2 hb2 q1
  go_wp2_with fail
  refine (filled_any _ _ c2 _ _ (by omega) hL2).mono ?_
  rintro e w3 ⟨g3, rfl, l3, b3, q3⟩
  go_wp2
  go_ret
  exact ⟨g3, rfl, Nat.le_trans q2.size l3, b3, q2.trans (q3.mono q2.size)⟩
/-- A head: what its sum is of; the head. -/
def hdB (seq place : Int) : List Int := [65, 78, 88, 72] ++ be 0 4 ++ be (IntKind.u64.wrap seq) 8 ++ be (IntKind.u64.wrap place) 4
def jsum (l : List Int) : Int := S2.fwd 14695981039346656037 l
def jheadB (seq place : Int) : List Int := fillB (hdB seq place ++ be (jsum (hdB seq place)) 8)
theorem hdB_len (seq place : Int) : (hdB seq place).length = 20 := by simp [hdB, be_length]
theorem hdB_by (seq place : Int) : ∀ x ∈ hdB seq place, 0 ≤ x ∧ x ≤ 255 := fun x hx => by
  simp only [hdB, List.mem_append] at hx
  rcases hx with ((hx | hx) | hx) | hx
  · simp at hx; omega
  all_goals exact be_by _ _ x hx
set_option maxHeartbeats 1000000 in
theorem headBlock_any (seq place : Int) (w : World) : Calls Tryz.prog 73 #[.int .i64 seq, .int .i64 place] w fun e w' => Blk w w' e (jheadB seq place) := by
  have hcc := Go.Joins.run_convert_bytes_const_at (P := Tryz.prog) w 39 5 #[.int .u8 65, .int .u8 78, .int .u8 88, .int .u8 72] 4 4 w.heap.size (by simp) Tryz.underlying39 Tryz.underlying5
  have hb0 : Below w.heap.size w (w.alloc (.cells #[.int .u8 65, .int .u8 78, .int .u8 88, .int .u8 72] 5 (4, 5))) := (Below.refl _ w).alloc (Nat.le_refl _) _
  have hL0 : Lies (w.alloc (.cells #[.int .u8 65, .int .u8 78, .int .u8 88, .int .u8 72] 5 (4, 5))) (some ⟨w.heap.size, 0, none⟩) 4 4 [65, 78, 88, 72] := lies_mark w [65, 78, 88, 72] 4 rfl _ rfl (4, 5) w.heap.size rfl
  go_enter Tryz.func73, Tryz.ntmps73
  go_wp2_with fail
  refine (put32_any _ 4 4 0 _ _ (by omega) hL0).mono ?_
  rintro e w1 ⟨g1, c1, rfl, ho1, hb1⟩
  have hL1 := Lies.own ho1
  have q1 := hb0.trans (hb1.mono hb0.size)
  clear hcc hb0 hL0 ho1 hb1
  go_wp2_with fail
  refine (put64_any _ _ c1 seq _ _ (by omega) hL1).mono ?_
  rintro e w2 ⟨g2, c2, rfl, ho2, hb2⟩
  have hL2 := Lies.own ho2
  have q2 := q1.trans (hb2.mono q1.size)
  clear hL1 ho2 hb2 q1
  go_wp2_with fail
  refine (put32_any _ _ c2 place _ _ (by omega) hL2).mono ?_
  rintro e w3 ⟨g3, c3, rfl, ho3, hb3⟩
  have hL3 : Lies w3 (some ⟨g3, 0, none⟩) 20 c3 (hdB seq place) := Lies.own ho3
  have q3 := q2.trans (hb3.mono q2.size)
  have hby := hdB_by seq place
  clear hL2 ho3 hb3 q2
  go_wp2_with fail
  refine (S2.sum_any (some ⟨g3, 0, none⟩) 20 c3 (hdB seq place) _ (by omega) hL3 hby).mono ?_
  rintro e w4 ⟨rfl, hw4⟩
  subst w4
  have hsu : 0 ≤ S2.fwd 14695981039346656037 (hdB seq place) ∧ S2.fwd 14695981039346656037 (hdB seq place) ≤ 18446744073709551615 := S2.U.fwd (h := 14695981039346656037) _ ⟨by decide, by decide⟩
  obtain ⟨S, hS⟩ : ∃ S, S2.fwd 14695981039346656037 (hdB seq place) = S := ⟨_, rfl⟩
  rw [hS] at hsu
  simp only [hS]
  have HS : Hid (jsum (hdB seq place) = S) := hS
  clear hS
  go_wp2_with fail
  refine (putSum_any (some ⟨g3, 0, none⟩) 20 c3 S (hdB seq place) _ hsu.1 hsu.2 (by omega) hL3).mono ?_
  rintro e w5 ⟨g5, c5, rfl, ho5, hb5⟩
  have hL5 := Lies.own ho5
  have q5 := q3.trans (hb5.mono q3.size)
  clear hL3 ho5 hb5 q3
  go_wp2_with fail
  refine (filled_any _ _ c5 _ _ (by omega) hL5).mono ?_
  rintro e w6 ⟨g6, rfl, l6, b6, q6⟩
  go_wp2
  go_ret
  refine ⟨g6, rfl, Nat.le_trans q5.size l6, ?_, q5.trans (q6.mono q5.size)⟩
  unfold jheadB
  rw [HS.out]
  exact b6
end Go.Proofs.YtlcjkbhcbiggcaaGreatDoor

/- A descriptor, by its contract: descriptorBlock. -/
namespace Go.Proofs.YtlcjkbhcbiggcaaGreatDoor
open Go.RowKit
set_option maxRecDepth 100000

/-- The cells of a descriptor's lines. -/
def lnC (ls : List (Nat × Nat)) : List Value := ls.flatMap fun p => [.int .i64 p.1, .int .i64 p.2]
theorem lnC_len (ls : List (Nat × Nat)) : (lnC ls).length = ls.length * 2 := by
  induction ls with
  | nil => rfl
  | cons p ls ih => simp only [lnC, List.flatMap_cons, List.length_append, List.length_cons, List.length_nil] at *; omega
theorem lnC_at : ∀ (ls : List (Nat × Nat)) (i : Nat) (p : Nat × Nat), ls[i]? = some p → (lnC ls)[i * 2]? = some (.int .i64 p.1) ∧ (lnC ls)[i * 2 + 1]? = some (.int .i64 p.2)
  | [], i, p, h => by simp at h
  | q :: ls, 0, p, h => by simp at h; subst h; simp [lnC]
  | q :: ls, i + 1, p, h => by
    have := lnC_at ls i p (by simpa using h)
    rw [show (i + 1) * 2 = i * 2 + 1 + 1 by omega]
    simpa [lnC] using this
/-- The lines of a descriptor in memory. -/
structure Lns (w : World) (lv : Value) (ls : List (Nat × Nat)) : Prop where
  row : w.ownsRow 0 250 2 lv ls.length (lnC ls)
theorem Lns.get {w : World} {lv : Value} {ls : List (Nat × Nat)} (h : Lns w lv ls) {i : Nat} {p : Nat × Nat} (hp : ls[i]? = some p) : ∃ g c, lv = .slice (some ⟨g, 0, none⟩) ls.length c ∧ w.cell? ⟨g, i * 2, none⟩ = some (.int .i64 p.1) ∧ w.cell? ⟨g, i * 2 + 1, none⟩ = some (.int .i64 p.2) := by
  have hi := (List.getElem?_eq_some_iff.1 hp).1
  rcases h.row.2 with ⟨_, h0⟩ | ⟨g, cap, cur, hv, _, hg, h1, h2, h3, h4⟩
  · omega
  · obtain ⟨e1, e2⟩ := lnC_at ls i p hp
    refine ⟨g, cap, hv, ?_, ?_⟩
    · simp only [World.cell?, hg]
      rw [← h4, List.getElem?_take, if_pos (by omega)] at e1
      simpa using e1
    · simp only [World.cell?, hg]
      rw [← h4, List.getElem?_take, if_pos (by omega)] at e2
      simpa using e2
def lnB (ls : List (Nat × Nat)) : List Int := ls.flatMap fun p => be p.1 4 ++ be p.2 4
theorem lnB_len (ls : List (Nat × Nat)) : (lnB ls).length = 8 * ls.length := by
  induction ls with
  | nil => rfl
  | cons p ls ih => simp only [lnB, List.flatMap_cons, List.length_append, be_length, List.length_cons] at *; omega
theorem lnB_snoc (ls : List (Nat × Nat)) (p : Nat × Nat) : lnB (ls ++ [p]) = lnB ls ++ be p.1 4 ++ be p.2 4 := by simp [lnB]
/-- A descriptor. -/
def desH (seq : Int) (n : Nat) : List Int := [65, 78, 88, 68] ++ be n 4 ++ be (IntKind.u64.wrap seq) 8
def desB (seq : Int) (ls : List (Nat × Nat)) : List Int := fillB (desH seq ls.length ++ lnB ls)
theorem u64_nat (x : Nat) (h1 : x ≤ 1000000) : IntKind.u64.wrap (x : Int) = x := by
  simp [IntKind.wrap, IntKind.bits, IntKind.signed]; omega
set_option maxHeartbeats 4000000 in
theorem descriptorBlock_any (seq : Int) (lv : Value) (ls : List (Nat × Nat)) (w : World) (hl : Lns w lv ls) (hn : ls.length ≤ 24) (hsm : ∀ p ∈ ls, p.1 ≤ 4096 ∧ p.2 ≤ 2) : Calls Tryz.prog 203 #[.int .i64 seq, lv] w fun e w' => Blk w w' e (desB seq ls) := by
  obtain ⟨aL, cL, rfl⟩ := row_slice hl.row
  obtain ⟨N, hN⟩ : ∃ N, ls.length = N := ⟨_, rfl⟩
  rw [hN] at hn
  have hcc := Go.Joins.run_convert_bytes_const_at (P := Tryz.prog) w 39 5 #[.int .u8 65, .int .u8 78, .int .u8 88, .int .u8 68] 4 4 w.heap.size (by simp) Tryz.underlying39 Tryz.underlying5
  have hb0 : Below w.heap.size w (w.alloc (.cells #[.int .u8 65, .int .u8 78, .int .u8 88, .int .u8 68] 5 (4, 5))) := (Below.refl _ w).alloc (Nat.le_refl _) _
  have hL0 : Lies (w.alloc (.cells #[.int .u8 65, .int .u8 78, .int .u8 88, .int .u8 68] 5 (4, 5))) (some ⟨w.heap.size, 0, none⟩) 4 4 [65, 78, 88, 68] := lies_mark w [65, 78, 88, 68] 4 rfl _ rfl (4, 5) w.heap.size rfl
  go_enter Tryz.func203, Tryz.ntmps203
  rw [hN]
  go_wp2_with fail
  refine (put32_any _ 4 4 N _ _ (by omega) hL0).mono ?_
  rintro e w1 ⟨g1, c1, rfl, ho1, hb1⟩
  have hL1 := Lies.own ho1
  rw [u64_nat N (by omega)] at hL1
  have q1 := hb0.trans (hb1.mono hb0.size)
  clear hcc hb0 hL0 ho1 hb1
  go_wp2_with fail
  refine (put64_any _ _ c1 seq _ _ (by omega) hL1).mono ?_
  rintro e w2 ⟨g2, c2, rfl, ho2, hb2⟩
  have hL2 : Lies w2 (some ⟨g2, 0, none⟩) 16 c2 (desH seq N) := Lies.own ho2
  have q2 := q1.trans (hb2.mono q1.size)
  clear hL1 ho2 hb2 q1
  go_wp2_with fail
  go_loopw [5, 18] (fun b v wr => ∃ (k g c : Nat), k ≤ N ∧ v = .int .i64 k ∧ b = .slice (some ⟨g, 0, none⟩) (16 + 8 * k) c ∧ Lies wr (some ⟨g, 0, none⟩) (16 + 8 * k) c (desH seq N ++ lnB (ls.take k)) ∧ Below w.heap.size w wr) (fun _ v _ => N - (intOf v).toNat)
  case atStart => exact ⟨0, _, _, by omega, rfl, rfl, by simpa [lnB] using hL2, q2⟩
  case round =>
    clear q2 hL2
    obtain ⟨k, g, c, hk, rfl, rfl, hL, hb⟩ := hrel
    by_cases hlt : k < N
    · obtain ⟨p, hp⟩ : ∃ p, ls[k]? = some p := ⟨_, List.getElem?_eq_getElem (by omega)⟩
      obtain ⟨gl, cl, hal, y0, y1⟩ := hl.get hp
      have hps := hsm p (List.mem_of_getElem? hp)
      have HT : Hid (ls.take (k + 1) = ls.take k ++ [p]) := by
        refine List.ext_getElem? fun i => ?_
        rw [List.getElem?_take, List.getElem?_append, List.length_take, hN, Nat.min_eq_left (by omega : k ≤ N)]
        by_cases h1 : i < k
        · rw [if_pos (by omega), if_pos h1, List.getElem?_take, if_pos h1]
        · by_cases h2 : i = k
          · subst h2; simp [hp]
          · rw [if_neg (by omega), if_neg h1]; simp; omega
      obtain ⟨p1, p2⟩ := p
      have z0 := cell_later hb y0
      have z1 := cell_later hb y1
      obtain rfl : aL = some ⟨gl, 0, none⟩ := by cases hal; rfl
      have hki : (k : Int) < N := by omega
      obtain ⟨W, hW⟩ : ∃ W, wr.alloc (.cells #[.int .i64 p1, .int .i64 p2] 250) = W := ⟨_, rfl⟩
      have bW : Below wr.heap.size wr W := by rw [← hW]; exact (Below.refl _ wr).alloc (Nat.le_refl _) _
      have x0 : W.cell? ⟨wr.heap.size, 0, none⟩ = some (.int .i64 p1) := by rw [← hW]; simp
      have x1 : W.cell? ⟨wr.heap.size, 1, none⟩ = some (.int .i64 p2) := by rw [← hW]; simp
      have hLW := hL.below bW (Nat.le_refl _)
      have hbW := hb.trans (bW.mono hb.size)
      clear y0 y1 hal
      go_wp2_with fail
      try rw [hW]
      refine (put32_any (some ⟨g, 0, none⟩) (16 + 8 * k) c p1 _ _ (by omega) hLW).mono ?_
      rintro e w2 ⟨g2, c2, rfl, ho, hb2⟩
      have hL2 := Lies.own ho
      rw [u64_nat p1 (by omega)] at hL2
      have hq2 := hbW.trans (hb2.mono hbW.size)
      have x1 := cell_later hb2 x1
      clear hLW ho x0
      go_wp2_with fail
      refine (put32_any (some ⟨g2, 0, none⟩) _ c2 p2 _ _ (by omega) hL2).mono ?_
      rintro e w3 ⟨g3, c3, rfl, ho3, hb3⟩
      have hL3 := Lies.own ho3
      rw [u64_nat p2 (by omega), List.append_assoc (desH seq N), List.append_assoc (desH seq N), ← lnB_snoc _ (p1, p2), ← HT.out] at hL3
      have hq3 := hq2.trans (hb3.mono hq2.size)
      rw [show 16 + 8 * k + 4 + 4 = 16 + 8 * (k + 1) by omega] at hL3
      clear hL2 ho3 hL hb hb2 hb3 hbW z0 z1 x1
      go_wp2_with fail
      go_roundw
      case rel => exact ⟨k + 1, g3, c3, by omega, by go_num, by rw [show 16 + 8 * k + 4 + 4 = 16 + 8 * (k + 1) by omega], hL3, hq3⟩
      case measure => simp [intOf]; omega
    · obtain rfl : k = N := by omega
      rw [List.take_of_length_le (by omega)] at hL
      go_wp2_with fail
      refine (filled_any _ _ c _ _ (by omega) hL).mono ?_
      rintro e w3 ⟨g3, rfl, l3, b3, q3⟩
      go_wp2
      go_ret
      refine ⟨g3, rfl, Nat.le_trans hb.size l3, ?_, hb.trans (q3.mono hb.size)⟩
      unfold desB
      rw [hN]
      exact b3
end Go.Proofs.YtlcjkbhcbiggcaaGreatDoor

/- How a block begins; how it stands in the log: begins, flagOf, hidden. -/
namespace Go.Proofs.YtlcjkbhcbiggcaaGreatDoor
open Go.RowKit
set_option maxRecDepth 100000

/-- The first four bytes are a mark's. -/
def begs (bs m : List Int) : Bool := decide (bs.take 4 = m)
theorem txt_inj {a b : List Int} (ha : ∀ x ∈ a, 0 ≤ x ∧ x ≤ 255) (hb : ∀ x ∈ b, 0 ≤ x ∧ x ≤ 255) (h : txt a = txt b) : a = b := by
  have := congrArg nums h
  rwa [nums_txt a ha, nums_txt b hb] at this
set_option maxHeartbeats 1000000 in
theorem begins_any (g n c : Nat) (bs m : List Int) (s : ByteArray) (w : World) (hL : Lies w (some ⟨g, 0, none⟩) n c bs) (h4 : 4 ≤ n) (hc : c ≤ 140737488355328) (hby : ∀ x ∈ bs, 0 ≤ x ∧ x ≤ 255) (hm : ∀ x ∈ m, 0 ≤ x ∧ x ≤ 255) (hs : txt m = s) : Calls Tryz.prog 237 #[.slice (some ⟨g, 0, none⟩) n c, .string s] w fun e w' => e = .returned (.bool (begs bs m)) ∧ w' = w := by
  subst hs
  have hle := hL.hle
  have hs4 := hL.sub 0 0 4 c (fun _ => rfl) (by omega) (by omega)
  have hcv := run_string_of w ⟨g, 0, none⟩ 4 c _ hs4
  have hq : ((txt (bs.take 4)).toList == (txt m).toList) = begs bs m := by
    rw [Bool.eq_iff_iff, beq_iff_eq]
    simp only [begs, decide_eq_true_eq]
    refine ⟨fun h => txt_inj (fun x hx => hby x (List.mem_of_mem_take hx)) hm ?_, fun h => by rw [h]⟩
    rw [ByteArray.toList_eq, ByteArray.toList_eq] at h
    exact ByteArray.ext (Array.toList_inj.1 h)
  go_enter Tryz.func237, Tryz.ntmps237
  go_wp2
  go_ret
  refine ⟨?_, rfl⟩
  rw [← hq]
  rfl
/-- How a block begins. -/
def flagN (bs : List Int) : Nat := if begs bs [65, 78, 88, 68] then 1 else if begs bs [65, 78, 88, 67] then 2 else 0
set_option maxHeartbeats 1000000 in
theorem flagOf_any (g : Nat) (bs : List Int) (w : World) (hg : w.heap[g]? = some (bl bs)) (hl : bs.length = 512) (hby : ∀ x ∈ bs, 0 ≤ x ∧ x ≤ 255) : Calls Tryz.prog 201 #[hv g] w fun e w' => e = .returned (.int .i64 (flagN bs)) ∧ w' = w := by
  have hL := Lies.full hg hl
  have m1 := begins_any g 512 512 bs [65, 78, 88, 68] ⟨#[65, 78, 88, 68]⟩ w hL (by omega) (by omega) hby (by decide) (by rfl)
  have m2 := begins_any g 512 512 bs [65, 78, 88, 67] ⟨#[65, 78, 88, 67]⟩ w hL (by omega) (by omega) hby (by decide) (by rfl)
  cases h1 : begs bs [65, 78, 88, 68] with
  | true =>
    rw [h1] at m1
    go_enter Tryz.func201, Tryz.ntmps201
    go_wp2_with fail
    refine m1.mono ?_
    rintro e wn ⟨rfl, hwn⟩
    subst wn
    go_wp2
    go_ret
    exact ⟨by simp [flagN, h1], rfl⟩
  | false =>
    rw [h1] at m1
    cases h2 : begs bs [65, 78, 88, 67] with
    | true =>
      rw [h2] at m2
      go_enter Tryz.func201, Tryz.ntmps201
      go_wp2_with fail
      refine m1.mono ?_
      rintro e wn ⟨rfl, hwn⟩
      subst wn
      go_wp2_with fail
      refine m2.mono ?_
      rintro e wn ⟨rfl, hwn⟩
      subst wn
      go_wp2
      go_ret
      exact ⟨by simp [flagN, h1, h2], rfl⟩
    | false =>
      rw [h2] at m2
      go_enter Tryz.func201, Tryz.ntmps201
      go_wp2_with fail
      refine m1.mono ?_
      rintro e wn ⟨rfl, hwn⟩
      subst wn
      go_wp2_with fail
      refine m2.mono ?_
      rintro e wn ⟨rfl, hwn⟩
      subst wn
      go_wp2
      go_ret
      exact ⟨by simp [flagN, h1, h2], rfl⟩
theorem cleared {w : World} {g : Nat} {bs : List Int} (hl : bs.length = 512) (h : w.heap[g]? = some (bl bs)) : (w.setCells g 0 (List.replicate 4 (.int .u8 0))).heap[g]? = some (bl ([0, 0, 0, 0] ++ bs.drop 4)) := by
  rcases bs with _ | ⟨a, _ | ⟨b, _ | ⟨c, _ | ⟨d, r⟩⟩⟩⟩
  iterate 4 (simp at hl)
  have e1 := heap_setCell_same _ g 0 _ _ (.int .u8 0) h
  have e2 := heap_setCell_same _ g 1 _ _ (.int .u8 0) e1
  have e3 := heap_setCell_same _ g 2 _ _ (.int .u8 0) e2
  have e4 := heap_setCell_same _ g 3 _ _ (.int .u8 0) e3
  refine Eq.trans e4 ?_
  simp
theorem cleared_turns (w : World) (g : Nat) : Turns (fun i => i = g) w (w.setCells g 0 (List.replicate 4 (.int .u8 0))) :=
  (((Turns.cell w g 0 _).trans (Turns.cell _ g 1 _) (fun _ _ h => h)).trans (Turns.cell _ g 2 _) (fun _ _ h => h)).trans (Turns.cell _ g 3 _) (fun _ _ h => h)
/-- A block as it stands in the log. -/
def hidB (bs : List Int) (f : Nat) : List Int := if f = 0 then bs else [0, 0, 0, 0] ++ bs.drop 4
set_option maxHeartbeats 1000000 in
theorem hidden_any (g : Nat) (bs : List Int) (f : Nat) (w : World) (hg : w.heap[g]? = some (bl bs)) (hl : bs.length = 512) (hf : f ≤ 2) : Calls Tryz.prog 204 #[hv g, .int .i64 f] w fun e w' => Blk w w' e (hidB bs f) := by
  have hL := Lies.full hg hl
  by_cases h0 : f = 0
  · subst h0
    go_enter Tryz.func204, Tryz.ntmps204
    go_wp2_with fail
    refine (jcopied_any _ _ _ _ _ (by omega) hL).mono ?_
    rintro e w1 ⟨g1, rfl, l1, b1, q1⟩
    go_wp2
    go_ret
    exact ⟨g1, rfl, l1, by simpa [hidB] using b1, q1⟩
  · have hfi : (f : Int) ≠ 0 := by omega
    go_enter Tryz.func204, Tryz.ntmps204
    go_wp2_with fail
    refine (jcopied_any _ _ _ _ _ (by omega) hL).mono ?_
    rintro e w1 ⟨g1, rfl, l1, b1, q1⟩
    have hz : ∀ w : World, (zeroValue 5).run Tryz.prog w = .ok (.int .u8 0) w := fun w => by kernel_rfl
    have hcl : ∀ ty, (Builtin.clear_ #[39] ty #[.slice (some ⟨g1, 0, none⟩) 4 512]).run Tryz.prog w1 = .ok (.tuple #[]) (w1.setCells g1 0 (List.replicate 4 (.int .u8 0))) := fun ty => Lib.run_clear_slice w1 _ _ ty _ Tryz.underlying39 hz rfl rfl g1 0 4 512 (by omega) (fun j hj => by simp [World.cell?, b1]; omega) (fun j hj => by simp [World.frozen?, b1])
    have hset := cleared hl b1
    have hT := cleared_turns w1 g1
    generalize w1.setCells g1 0 (List.replicate 4 (.int .u8 0)) = w2 at *
    go_wp2
    go_ret
    refine ⟨g1, rfl, l1, ?_, q1.trans (hT.below (fun i e => by omega) q1.size)⟩
    unfold hidB
    rw [if_neg h0]
    exact hset
end Go.Proofs.YtlcjkbhcbiggcaaGreatDoor

/- Err by its contract. -/
namespace Go.Proofs.YtlcjkbhcbiggcaaGreatDoor
open Go.RowKit
set_option maxRecDepth 100000

set_option maxHeartbeats 400000 in
theorem err_any (rb g n cap : Nat) (pl code : Int) (bs : List Int) (w : World) (hR : Rdr w rb g n cap pl code bs) :
    Calls Tryz.prog 236 #[.pointer (some ⟨rb, 0, none⟩)] w fun e w' => e = .returned (.tuple #[.int .i64 code, .int .i64 pl]) ∧ ∃ m, w' = w.drewN m := by
  have c1 := hR.c1
  have c2 := hR.c2
  go_enter Tryz.func236, Tryz.ntmps236
  go_wp2
  go_quiet (fail)
  go_wp2
  go_ret2
  exact ⟨rfl, _, rfl⟩
end Go.Proofs.YtlcjkbhcbiggcaaGreatDoor

/- A head as it is read: headOf by its contract. -/
namespace Go.Proofs.YtlcjkbhcbiggcaaGreatDoor
open Go.RowKit
set_option maxRecDepth 100000

theorem Lies.cut {w : World} {g n : Nat} {bs : List Int} (h : w.heap[g]? = some (bl bs)) (hl : bs.length = 512) (o : Nat) (hn : o + n ≤ 512) (c : Nat) (hc : n ≤ c) : Lies w (some ⟨g, o, none⟩) n c ((bs.drop o).take n) := Lies.piece h (by omega) hc
theorem WentR.below {B : Nat} {w w' : World} {rb g n cap : Nat} {pl code : Int} {bs : List Int} (h : WentR w w' rb g n cap pl code bs) {w0 : World} (hb : Below B w0 w) (hr : B ≤ rb) (hB : B ≤ w.heap.size) : Below B w0 w' := hb.grown h.2 hB (fun k e => by cases e; exact hr)
theorem rdNum_le {k n : Nat} {bs : List Int} {pl : Nat} {code M : Int} (h : pl ≤ n) : (rdNum k n bs pl code M).2.1 ≤ n := by
  unfold rdNum
  split
  · exact h
  · split
    · exact h
    · split
      · exact h
      · simp only; omega
theorem rdNum_bd (k n : Nat) (bs : List Int) (pl : Nat) (code M : Int) (hM : 0 ≤ M) (hv0 : 0 ≤ val ((bs.drop pl).take k)) : 0 ≤ (rdNum k n bs pl code M).1 ∧ (rdNum k n bs pl code M).1 ≤ M := by
  unfold rdNum
  split
  · exact ⟨Int.le_refl _, hM⟩
  · split
    · exact ⟨Int.le_refl _, hM⟩
    · split
      · exact ⟨Int.le_refl _, hM⟩
      · simp only; omega
/-- What is read behind a head's mark. -/
def hdR (bs : List Int) (places : Int) : (Int × Nat × Int) × (Int × Nat × Int) × (Int × Nat × Int) :=
  let q := (bs.drop 8).take 20
  let a := rdNum 8 20 q 0 0 4611686018427387905
  let b := rdNum 4 20 q a.2.1 a.2.2 (places - 1)
  (a, b, rdSum 20 q b.2.1 b.2.2)
/-- Is it a head that is right for so many places? -/
def hdOk (bs : List Int) (places : Int) : Bool := begs bs [65, 78, 88, 72] && (decide ((hdR bs places).2.2.2.2 = 0) && decide (0 < (hdR bs places).1.1)) && ((hdR bs places).2.2.1 == jsum (bs.take 20))
set_option maxHeartbeats 4000000 in
theorem headOf_any (g : Nat) (bs : List Int) (places : Int) (er : Nat → Addr) (w : World) (hg : w.heap[g]? = some (bl bs)) (hl : bs.length = 512) (hby : ∀ x ∈ bs, 0 ≤ x ∧ x ≤ 255) (hE : Errs w er) (hp : 1 ≤ places ∧ places ≤ 4096) :
    Calls Tryz.prog 185 #[hv g, .int .i64 places] w fun e w' => e = .returned (.tuple #[.int .i64 (hdR bs places).1.1, .int .i64 (hdR bs places).2.1.1, .bool (hdOk bs places)]) ∧ Below w.heap.size w w' := by
  have hL := Lies.cut (n := 20) hg hl 8 (by omega) 504 (by omega)
  have hq : ∀ x ∈ (bs.drop 8).take 20, 0 ≤ x ∧ x ≤ 255 := fun x hx => hby x (List.mem_of_mem_drop (List.mem_of_mem_take hx))
  go_enter Tryz.func185, Tryz.ntmps185
  go_wp2_with fail
  refine (newReader_any (some ⟨g, 8, none⟩) 20 504 _ w (by omega) hL).mono ?_
  rintro e w1 ⟨rb, rg, rfl, hR, hrb, hrg, b1⟩
  have E1 := hE.below b1 (Nat.le_refl _)
  go_wp2_with fail
  refine (u64_any rb rg 20 20 0 0 _ _ er w1 hR E1 (by omega) (by omega) hq (by omega)).mono ?_
  rintro e w2 ⟨rfl, W2⟩
  have b2 := W2.below b1 hrb b1.size
  have E2 := hE.below b2 (Nat.le_refl _)
  have le2 : (rdNum 8 20 ((bs.drop 8).take 20) 0 0 4611686018427387905).2.1 ≤ 20 := rdNum_le (by omega)
  obtain ⟨A, hA⟩ : ∃ A, rdNum 8 20 ((bs.drop 8).take 20) 0 0 4611686018427387905 = A := ⟨_, rfl⟩
  rw [hA] at W2 le2
  rw [hA]
  have HA : Hid _ := hA
  clear hA E1 hR
  have R2 := W2.1
  go_wp2_with fail
  refine (u32_any rb rg 20 20 A.2.1 A.2.2 (places - 1) _ er w2 R2 E2 le2 (by omega) hq (by omega)).mono ?_
  rintro e w3 ⟨rfl, W3⟩
  have b3 := W3.below b2 hrb b2.size
  have E3 := hE.below b3 (Nat.le_refl _)
  have le3 : (rdNum 4 20 ((bs.drop 8).take 20) A.2.1 A.2.2 (places - 1)).2.1 ≤ 20 := rdNum_le le2
  obtain ⟨B, hB⟩ : ∃ B, rdNum 4 20 ((bs.drop 8).take 20) A.2.1 A.2.2 (places - 1) = B := ⟨_, rfl⟩
  rw [hB] at W3 le3
  rw [hB]
  have HB : Hid _ := hB
  clear hB E2 R2 W2
  have R3 := W3.1
  go_wp2_with fail
  refine (sum_any rb rg 20 20 B.2.1 B.2.2 _ er w3 R3 E3 le3 (by omega) hq).mono ?_
  rintro e w4 ⟨rfl, W4⟩
  have b4 := W4.below b3 hrb b3.size
  obtain ⟨C, hC⟩ : ∃ C, rdSum 20 ((bs.drop 8).take 20) B.2.1 B.2.2 = C := ⟨_, rfl⟩
  rw [hC] at W4
  rw [hC]
  have HC : Hid _ := hC
  clear hC E3 R3 W3
  have R4 := W4.1
  go_wp2_with fail
  refine (err_any rb rg 20 20 _ _ _ w4 R4).mono ?_
  rintro e w5 ⟨rfl, t5, rfl⟩
  have b5 : Below w.heap.size w (w4.drewN t5) := ⟨b4.os, b4.tape, b4.output, b4.size, b4.block⟩
  have g5 := (b5.block g (heap_lt hg)).trans hg
  have hR0 : hdR bs places = (A, B, C) := by
    unfold hdR
    simp only [HA.out, HB.out, HC.out]
  have HO : Hid (hdOk bs places = (begs bs [65, 78, 88, 72] && (decide (C.2.2 = 0) && decide (0 < A.1)) && (C.1 == jsum (bs.take 20))) ∧ hdR bs places = (A, B, C)) := ⟨by unfold hdOk; rw [hR0], hR0⟩
  clear hR0 HA HB HC R4 W4 hL
  generalize w4.drewN t5 = w5 at *
  have L5 := Lies.full g5 hl
  have m1 := begins_any g 512 512 bs [65, 78, 88, 72] ⟨#[65, 78, 88, 72]⟩ w5 L5 (by omega) (by omega) hby (by decide) (by rfl)
  have L6 : Lies w5 (some ⟨g, 0, none⟩) 20 512 (bs.take 20) := by simpa using Lies.cut (n := 20) g5 hl 0 (by omega) 512 (by omega)
  have y6 : ∀ x ∈ bs.take 20, 0 ≤ x ∧ x ≤ 255 := fun x hx => hby x (List.mem_of_mem_take hx)
  cases h1 : begs bs [65, 78, 88, 72] with
  | false =>
    rw [h1] at m1
    go_wp2_with (go_at_call 237; refine m1.mono ?_; rintro e wn ⟨rfl, hwn⟩; subst wn)
    refine bodyPost_ret (results_tmp3 rfl _ _ _) rfl ?_
    refine ⟨?_, b5⟩
    rw [HO.out.1, HO.out.2, h1]
    simp
  | true =>
    rw [h1] at m1
    by_cases h2 : C.2.2 = 0
    · by_cases h3 : 0 < A.1
      · go_wp2_with (go_at_call 237; refine m1.mono ?_; rintro e wn ⟨rfl, hwn⟩; subst wn)
        refine (S2.sum_any (some ⟨g, 0, none⟩) 20 512 (bs.take 20) _ (by omega) L6 y6).mono ?_
        rintro e w6 ⟨rfl, hw6⟩
        subst w6
        obtain ⟨T, hT⟩ : ∃ T, S2.fwd 14695981039346656037 (bs.take 20) = T := ⟨_, rfl⟩
        have HT : Hid (jsum (bs.take 20) = T) := hT
        simp only [hT]
        clear hT
        go_wp2
        refine bodyPost_ret (results_tmp3 rfl _ _ _) rfl ?_
        refine ⟨?_, b5⟩
        rw [HO.out.1, HO.out.2, h1, HT.out]
        simp [h2, h3]
      · go_wp2_with (go_at_call 237; refine m1.mono ?_; rintro e wn ⟨rfl, hwn⟩; subst wn)
        refine bodyPost_ret (results_tmp3 rfl _ _ _) rfl ?_
        refine ⟨?_, b5⟩
        rw [HO.out.1, HO.out.2, h1, decide_eq_false (by omega : ¬ 0 < A.1)]
        simp
    · go_wp2_with (go_at_call 237; refine m1.mono ?_; rintro e wn ⟨rfl, hwn⟩; subst wn)
      refine bodyPost_ret (results_tmp3 rfl _ _ _) rfl ?_
      refine ⟨?_, b5⟩
      rw [HO.out.1, HO.out.2, h1]
      simp [h2]
end Go.Proofs.YtlcjkbhcbiggcaaGreatDoor

/- codeOf at no error; Format by its contract. -/
namespace Go.Proofs.YtlcjkbhcbiggcaaGreatDoor
open Go.RowKit
set_option maxRecDepth 100000

theorem as_nil (v : Value) (w : World) : Calls Tryz.prog 125 #[.nilIface, v] w fun e w' => e = .returned (.bool false) ∧ w' = w := by
  go_enter Tryz.func125, Tryz.ntmps125
  go_wp2
  go_ret
  exact ⟨rfl, rfl⟩
theorem codeOf_nil (w : World) : Calls Tryz.prog 74 #[.nilIface] w fun e w' => e = .returned (.int .i64 0) ∧ Below w.heap.size w w' := by
  go_enter Tryz.func74, Tryz.ntmps74
  go_wp2_with (go_at_call 125; refine (as_nil _ _).mono ?_; rintro e wn ⟨rfl, hwn⟩; subst wn)
  go_ret
  exact ⟨rfl, (Below.refl _ w).alloc (Nat.le_refl _) _⟩
/-- The power is on, and does not fail at the next m operations. -/
structure Lasts (S : DevS) (m : Nat) : Prop where
  on : S.off = false
  fu : S.fuse = 0 ∨ m < S.fuse
theorem Lasts.burnt {S : DevS} {m : Nat} (h : Lasts S (m + 1)) : Lasts (burnt S) m := by
  obtain ⟨h1, h2⟩ := h
  unfold Go.Proofs.YtlcjkbhcbiggcaaGreatDoor.burnt
  split
  · rename_i h0; exact ⟨h1, Or.inl h0⟩
  · rename_i h0
    refine ⟨?_, Or.inr (by simp only; omega)⟩
    simp [h1]; omega
theorem Lasts.mono {S : DevS} {m n : Nat} (h : Lasts S m) (hn : n ≤ m) : Lasts S n := ⟨h.on, h.fu.imp id (fun q => by omega)⟩
theorem wkE_ok {S : DevS} {k m : Nat} {b : Nat} (h : Lasts S (m + 1)) (hb : b < k) : wkE 0 S k b 512 = 0 := by
  have := h.burnt.on
  unfold wkE wrE
  rw [if_pos rfl, if_neg (fun q => q ⟨by omega, by omega⟩), if_neg (fun q => q rfl), if_neg (by simp [this])]
theorem wkS_ok {S : DevS} {k m : Nat} {b : Nat} {d : List Int} (h : Lasts S (m + 1)) (hb : b < k) (hd : d.length = 512) : wkS 0 S k b d = wrote (burnt S) b d := by
  have := h.burnt.on
  unfold wkS wrS
  rw [if_pos rfl, if_neg (fun q => q ⟨by omega, by omega⟩), if_neg (fun q => q hd), if_neg (by simp [this])]
  rfl
theorem fkE_ok {S : DevS} {m : Nat} (h : Lasts S (m + 1)) : fkE 0 S = 0 := by
  have := h.burnt.on
  unfold fkE flE
  rw [if_pos rfl, if_neg (by simp [this])]
theorem fkS_ok {S : DevS} {m : Nat} (h : Lasts S (m + 1)) : fkS 0 S = flushed (burnt S) := by
  have := h.burnt.on
  unfold fkS flS
  rw [if_pos rfl, if_neg (by simp [this])]
theorem Lasts.wrote {S : DevS} {m : Nat} (h : Lasts S m) (b : Nat) (d : List Int) : Lasts (wrote S b d) m := ⟨h.on, h.fu⟩
theorem Lasts.flushed {S : DevS} {m : Nat} (h : Lasts S m) : Lasts (flushed S) m := ⟨h.on, h.fu⟩
/-- A write of a call that met no error and meets none. -/
structure Wrt (w w' : World) (wb d : Nat) (S : DevS) (k N : Nat) (F : Nat → Prop) : Prop where
  wk : Wk w' wb d .nilIface
  dv : Dev w' d 0 S k N (grow F w w')
  tr : Turns (fun i => F i ∨ i = wb) w w'
theorem wkwrite_ok {w : World} {d wb : Nat} {S : DevS} {k N m : Nat} {F : Nat → Prop} (hD : Dev w d 0 S k N F) (hW : Wk w wb d .nilIface) (hwF : ¬ F wb) (hS : Lasts S (m + 1)) (b : Nat) (hb : b < k) (ao : Option Addr) (c : Nat) (ds : List Int) (hL : Lies w ao 512 c ds) (hy : ∀ x ∈ ds, 0 ≤ x ∧ x ≤ 255) (hF : ∀ ad, ao = some ad → ¬ F ad.block) (hN : N ≤ 1099511627776) :
    Calls Tryz.prog 70 #[.pointer (some ⟨wb, 0, none⟩), .int .i64 b, .slice ao 512 c] w fun e w' => e = .returned (.tuple #[]) ∧ Wrt w w' wb d (wrote (burnt S) b ds) k (N + 1) F := by
  refine (wkwrite_any hD hW (Or.inl ⟨rfl, rfl⟩) hwF b ao 512 c ds hL hy hF hN).mono ?_
  rintro e w' ⟨rfl, ev, hev, k1, d1, t1⟩
  rw [wkE_ok hS hb] at hev
  rw [wkS_ok hS hb hL.hlen] at d1
  obtain ⟨_, rfl⟩ := hev.resolve_right (fun h => h.1 rfl)
  exact ⟨rfl, k1, d1, t1⟩
theorem wkflush_ok {w : World} {d wb : Nat} {S : DevS} {k N m : Nat} {F : Nat → Prop} (hD : Dev w d 0 S k N F) (hW : Wk w wb d .nilIface) (hwF : ¬ F wb) (hS : Lasts S (m + 1)) (hN : N ≤ 1099511627776) :
    Calls Tryz.prog 72 #[.pointer (some ⟨wb, 0, none⟩)] w fun e w' => e = .returned (.tuple #[]) ∧ Wrt w w' wb d (flushed (burnt S)) k N F := by
  refine (wkflush_any hD hW (Or.inl ⟨rfl, rfl⟩) hwF hN).mono ?_
  rintro e w' ⟨rfl, ev, hev, k1, d1, t1⟩
  rw [fkE_ok hS] at hev
  rw [fkS_ok hS] at d1
  obtain ⟨_, rfl⟩ := hev.resolve_right (fun h => h.1 rfl)
  exact ⟨rfl, k1, d1, t1⟩
end Go.Proofs.YtlcjkbhcbiggcaaGreatDoor
