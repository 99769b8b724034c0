/- The iterator of names.parts: at a path it hands out what stands between the slashes, in its order. -/
import Derived.Test.YtknneihkkagnfaaCut
import Derived.RangeFuncNested
import Derived.RangeFuncBound
import Derived.RangeFuncCalls
import Derived.RangeFuncLeaves
import Derived.RangeFuncBox
import Derived.Maps.AppendAt
import Derived.Shelf.Abstract
import Derived.Shelf.RegionOpen
import Derived.OwnWalkIn
import Derived.TacticsInMore
import Derived.LoopNIn
import Derived.LoopIn
namespace Go.Proofs.Ytknneihkkagnfaa
open Go.RowKit Go.Shelf
set_option maxRecDepth 100000

attribute [local go_sem] Oper.semAt_some

/-- What stands between the slashes, as texts. -/
def cutsB (l : List UInt8) : List ByteArray := (cuts l).map tx
/-- The texts that are still to come. -/
def toCome (b : ByteArray) (m : Bool) : List ByteArray := if m = true then cutsB (bs b) else []
/-- The measure: how much is still to come. -/
def mes (r m : Value) : Nat := match r, m with
  | .string s, .bool b => if b = true then s.size + 1 else 0
  | _, _ => 0

theorem start_cut {p a b : ByteArray} {m : Bool} (hp : (bs p).head? = some 47) (hc : cuts (bs p) = bs a :: (if m = true then cuts (bs b) else [])) (hm : m = true → bs p = bs a ++ 47 :: bs b) : toCome b m = cutsB (bs p).tail := by
  cases hl : bs p with
  | nil => rw [hl] at hp; simp at hp
  | cons c t =>
    rw [hl] at hp hc
    simp at hp
    subst hp
    have h1 : cuts (47 :: t) = [] :: cuts t := by simp [cuts]
    rw [h1] at hc
    have ha : bs a = [] := (List.cons.inj hc).1.symm
    cases m with
    | false => exact absurd (List.cons.inj hc).2 (cuts_ne t)
    | true =>
      have := hm rfl
      rw [ha, hl] at this
      simp at this
      simp [toCome, this]
theorem step_cut {s a b : ByteArray} {m : Bool} (hc : cuts (bs s) = bs a :: (if m = true then cuts (bs b) else [])) : toCome s true = a :: toCome b m := by
  unfold toCome cutsB
  rw [if_pos rfl, hc, List.map_cons, tx_bs]
  cases m <;> simp

set_option maxHeartbeats 2000000 in
theorem parts1_in (n : Nat) (_hn : 1 ≤ n) (l Bn n₀ : Nat) (p : ByteArray) (xs : List ByteArray) (J Jx : List ByteArray → World → Prop)
    (hJ : ∀ s W m, J s W → J s (W.drewN m))
    (hY : ∀ pre x W, J pre W → pre.length < xs.length → YieldAt Fence.wide (n - 1) Try.prog l #[.string x] W fun e W' =>
      (e = .returned (.bool true) ∧ J (pre ++ [x]) W' ∧ Below n₀ W W') ∨ (e = .returned (.bool false) ∧ Jx (pre ++ [x]) W'))
    (W : World) (hBn : W.cell? ⟨Bn, 0, none⟩ = some (.string p)) (hs : p.size ≤ 281474976710656) (hp : (bs p).head? = some 47) (hx : cutsB (bs p).tail = xs) (h0 : J [] W) :
    CallsIn Fence.wide n Try.prog 30 #[.func (.yield l) #[] #[], .pointer (some ⟨Bn, 0, none⟩)] W fun e W' => (∃ v, e = .returned v) ∧
      ((∃ ys, ys = xs ∧ J ys W') ∨ (∃ pre, pre <+: xs ∧ Jx pre W')) := by
  refine callsIn_of_wp Try.func30 rfl trivial ?_ rfl
  simp only [Try.ntmps30, List.size_toArray, List.length_cons, List.length_nil, Nat.reduceAdd, Nat.reduceSub, Array.replicate_succ, Array.replicate_zero, List.push_toArray, List.append_toArray, List.nil_append, List.cons_append]
  gi_wp2_with (refine ⟨trivial, ?_⟩; gi_at_call 31; refine (callsIn_wide.2 (cut_any _ _ hs)).mono ?_; rintro e w' ⟨a, b, m, rfl, ⟨q, rfl⟩, hc, ha, hb, hm⟩)
  have hst := start_cut hp hc hm
  rw [hx] at hst
  have HJ0 : Hid (J [] (W.drewN q)) := ⟨hJ _ _ _ h0⟩
  have hsb : b.size ≤ 281474976710656 := by split at hb <;> omega
  clear hc ha hb hm hx hp hs hBn h0
  gi_loopw [4, 5] (fun r mm wr => ∃ (pre : List ByteArray) (s : ByteArray) (m : Bool), r = .string s ∧ mm = .bool m ∧ xs = pre ++ toCome s m ∧ s.size ≤ 281474976710656 ∧ Hid (J pre wr)) (fun r mm _ => mes r mm)
  case atStart => exact ⟨[], b, m, rfl, rfl, by simp [hst], hsb, HJ0⟩
  case round =>
    obtain ⟨pre, s, m1, rfl, rfl, hx, hs, hJs⟩ := hrel
    clear hst hsb
    cases m1 with
    | false =>
      gi_wp2
      go_end0
      exact ⟨⟨_, rfl⟩, .inl ⟨pre, by simp [hx, toCome], hJs.out⟩⟩
    | true =>
      gi_wp2_with fail
      refine ⟨trivial, (callsIn_wide.2 (cut_any _ _ hs)).mono ?_⟩
      rintro e w' ⟨a2, b2, m2, rfl, ⟨q2, rfl⟩, hc, ha, hb, hm⟩
      have hst := step_cut hc
      rw [hst] at hx
      have hsb : b2.size ≤ 281474976710656 := by split at hb <;> omega
      have hmes : mes (.string b2) (.bool m2) < mes (.string s) (.bool true) := by
        unfold mes
        cases m2 <;> simp at hb ⊢ <;> omega
      obtain ⟨fn, tmps, assign, body, hy, hR⟩ := hY pre a2 _ (hJ _ _ q2 hJs.out) (by rw [hx]; simp)
      clear hc ha hb hm hst
      gi_wp2
      refine hR.mono ?_
      rintro e W3 (⟨rfl, hJ3, hk3⟩ | ⟨rfl, hJx3⟩)
      · clear hR hy
        have HJ3 : Hid (J (pre ++ [a2]) W3) := ⟨hJ3⟩
        clear hJ3
        gi_wp2
        go_roundw
        case rel => exact ⟨pre ++ [a2], b2, m2, rfl, rfl, by simp [hx], hsb, HJ3⟩
        case measure => exact hmes
      · clear hR hy
        gi_wp2
        refine bodyPost_ret (results_none rfl _ _ _) rfl ?_
        exact ⟨⟨_, rfl⟩, .inr ⟨pre ++ [a2], ⟨toCome b2 m2, by simp [hx]⟩, hJx3⟩⟩

set_option maxHeartbeats 1000000 in
/-- parts(path): the path is boxed; the function value captures the box. -/
theorem parts_in (n : Nat) (p : ByteArray) (w : World) :
    CallsIn Fence.wide n Try.prog 25 #[.string p] w fun e w' => e = .returned (.func (.func 30) #[] #[.pointer (some ⟨w.heap.size, 0, none⟩)]) ∧ w' = w.alloc (.cells #[.string p] 9) := by
  refine callsIn_of_wp Try.func25 rfl trivial ?_ rfl
  simp only [Try.ntmps25, List.size_toArray, List.length_cons, List.length_nil, Nat.reduceAdd, Nat.reduceSub, Array.replicate_succ, Array.replicate_zero, List.push_toArray, List.append_toArray, List.nil_append, List.cons_append]
  gi_wp2
  go_ret
  exact ⟨rfl, rfl⟩

theorem parts_stops (n : Nat) (hn : 1 ≤ n) (Bn n₀ : Nat) (p : ByteArray) (w : World) (hBn : Bn < w.heap.size) (hc : w.cell? ⟨Bn, 0, none⟩ = some (.string p)) (hs : p.size ≤ 281474976710656) (hp : (bs p).head? = some 47) :
    SeqStopsK Fence.wide n Try.prog 30 #[.pointer (some ⟨Bn, 0, none⟩)] (fun x : ByteArray => #[Value.string x]) (Below n₀) (fun ys => ys = cutsB (bs p).tail) (fun pre => pre <+: cutsB (bs p).tail) (cutsB (bs p).tail).length w := fun l J Jx W hW hJ _ hY h0 =>
  parts1_in n hn l Bn n₀ p _ J Jx (fun s W m h => hJ s W (W.drewN m) none h ⟨rfl, rfl, rfl, Nat.le_refl _, fun _ _ _ => rfl⟩ (fun r e => by cases e)) hY W ((hW.cell (p := ⟨Bn, 0, none⟩) hBn).trans hc) hs hp rfl h0
end Go.Proofs.Ytknneihkkagnfaa
