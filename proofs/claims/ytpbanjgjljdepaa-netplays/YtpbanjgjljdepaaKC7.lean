/- plays: send, and the kinds that do nothing. -/
import Derived.Test.YtpbanjgjljdepaaKC4
namespace Go.Proofs.Ytpbanjgjljdepaa
open Go.RowKit Go.Maps
set_option maxRecDepth 100000
variable {w w' w0 w1 : World} {lab lab' lab'' : Nat → Nat} {k j pb c : Nat} {a b : Nat → Nat} {v bv bv' l : Value} {st : Int} {lg : Bool} {F : Nat → Prop} {S R : Nat → St} {es : List Ke}
set_option maxHeartbeats 1000000 in
theorem plays_none (h : Pl w lab k pb a b bv st lg S S es) (hw : Wk w0 lab w) (o : Op) (h1 : ∀ x : Int, 1 ≤ x → x ≤ 8 → ¬ o.k = x) :
    Calls Try.prog 29 #[.pointer (some ⟨pb, 0, none⟩), .agg o.box] w fun e w' => e = .returned (.bool true) ∧ Stepped w w' lab k pb st es S a b := by
  have M1 := Md.start h hw o
  obtain ⟨W1, hW1⟩ : ∃ W, w.alloc (.cells o.box 59) = W := ⟨_, rfl⟩
  rw [hW1] at M1
  have o0 := M1.at 0 (.int .i64 o.k) rfl
  have o1 := M1.at 1 (.int .i64 o.w) rfl
  have n1 := h1 1 (by decide) (by decide)
  have n2 := h1 2 (by decide) (by decide)
  have n3 := h1 3 (by decide) (by decide)
  have n4 := h1 4 (by decide) (by decide)
  have n5 := h1 5 (by decide) (by decide)
  have n6 := h1 6 (by decide) (by decide)
  have n7 := h1 7 (by decide) (by decide)
  have n8 := h1 8 (by decide) (by decide)
  have HM1 : Hid (Md w0 w W1 lab _ k pb a b bv st lg S S es o w.heap.size) := M1
  clear M1 h hw h1
  go_enter Try.func29, Try.ntmps29
  go_wp2_with fail
  go_ret
  exact ⟨rfl, _, _, _, _, HM1.out.pl, HM1.out.fr, fun q => by omega⟩
set_option maxHeartbeats 2000000 in
theorem plays_send (h : Pl w lab k pb a b bv st lg S S es) (hw : Wk w0 lab w) (hk : 0 < k) (hc : c < 2) (hlast : (S c).last < 4611686018427387904) (o : Op) (hO : ∀ w', Below w0.heap.size w0 w' → o.In w') (hwc : bits BinOp.and IntKind.i64 o.w 1 = (c : Int)) (h4 : o.k = 1) :
    Calls Try.prog 29 #[.pointer (some ⟨pb, 0, none⟩), .agg o.box] w fun e w' => e = .returned (.bool true) ∧ Stepped w w' lab k pb st es (upd2 S c (sendS (S c) o.to o.Z)) a b := by
  have M1 := Md.start h hw o
  obtain ⟨W1, hW1⟩ : ∃ W, w.alloc (.cells o.box 59) = W := ⟨_, rfl⟩
  rw [hW1] at M1
  have hS := sends_any M1.pl M1.wk hk hc rfl hlast o hO
  have o0 := M1.at 0 (.int .i64 o.k) rfl
  have o1 := M1.at 1 (.int .i64 o.w) rfl
  have o2 := M1.at 2 (.int .i64 o.no) rfl
  have o3 := M1.at 3 (.int .i64 o.a) rfl
  have o4 := M1.at 4 (.int .i64 o.v) rfl
  have o5 := M1.at 5 (.int .i64 o.to) rfl
  have o6 := M1.at 6 (.slice o.da o.dn o.dc) rfl
  have o7 := M1.at 7 (.int .i64 o.m) rfl
  have HM1 : Hid (Md w0 w W1 lab _ k pb a b bv st lg S S es o w.heap.size) := M1
  clear M1 h hw
  rw [h4] at o0
  unfold Op.box at hS
  rw [h4] at hS
  go_enter Try.func29, Try.ntmps29
  go_wp2_with fail
  refine hS.mono ?_
  rintro e w3 ⟨rfl, q⟩
  have HQ : Hid (Sent W1 w3 _ k pb a b st S S es c o) := q
  clear q hS
  go_wp2_with fail
  go_ret
  obtain ⟨L', bv', lg', es', h1, h2, h3⟩ := HQ.out
  exact ⟨rfl, L', bv', lg', es', h1, HM1.out.fr.trans h2, fun q => by omega⟩
end Go.Proofs.Ytpbanjgjljdepaa
