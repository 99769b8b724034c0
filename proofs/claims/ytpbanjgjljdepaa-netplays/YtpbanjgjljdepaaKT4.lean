/- plays, whatever the step. -/
import Derived.Test.YtpbanjgjljdepaaKT2
import Derived.Test.YtpbanjgjljdepaaKC6
import Derived.Test.YtpbanjgjljdepaaKT3
import Derived.Laws.BitsLemmas
namespace Go.Proofs.Ytpbanjgjljdepaa
open Go.RowKit Go.Maps
set_option maxRecDepth 100000
variable {w w' w0 w1 : World} {lab lab' lab'' : Nat → Nat} {k j pb c : Nat} {a b : Nat → Nat} {v bv bv' l : Value} {st : Int} {lg : Bool} {F : Nat → Prop} {S R : Nat → St} {es : List Ke}
theorem i64_and1 (n : Int) : bits .and .i64 n 1 = n % 2 := by
  have h1 : (BitVec.ofInt 64 1).toNat = 2 ^ 1 - 1 := by decide
  have key : (BitVec.ofInt 64 n &&& BitVec.ofInt 64 1).toNat = (n % ((2 ^ 64 : Nat) : Int)).toNat % 2 ^ 1 := by
    rw [BitVec.toNat_and, BitVec.toNat_ofInt, h1, Nat.and_two_pow_sub_one_eq_mod]
  show IntKind.i64.wrap ((BitVec.ofInt 64 n &&& BitVec.ofInt 64 1).toNat : Nat) = n % 2
  rw [key, IntKind.wrap_i64]
  omega
theorem who_two (n : Int) : ∃ c : Nat, c < 2 ∧ bits BinOp.and IntKind.i64 n 1 = (c : Int) := by
  refine ⟨(n % 2).toNat, by omega, ?_⟩
  rw [i64_and1]
  omega
theorem Stepped.from {S' : Nat → St} (f : Fr k w w1 lab lab') (h : Stepped w1 w' lab' k pb st es S' a b) : Stepped w w' lab k pb st es S' a b := by
  obtain ⟨l', bv', lg', es', h1, h2, h3⟩ := h
  exact ⟨l', bv', lg', es', h1, f.trans h2, h3⟩
set_option maxHeartbeats 2000000 in
theorem plays_tells (h : Pl w lab k pb a b bv st lg S S es) (hw : Wk w0 lab w) (o : Op) (hwc : bits BinOp.and IntKind.i64 o.w 1 = (c : Int)) (h4 : o.k = 2 ∨ o.k = 3) {S' : Nat → St}
    (hT : ∀ (w2 : World) (lab2 : Nat → Nat), Pl w2 lab2 k pb a b bv st lg S S es → Wk w0 lab2 w2 → Calls Try.prog 38 #[.pointer (some ⟨pb, 0, none⟩), .int .i64 c, .agg o.box] w2 fun e w' => e = .returned (.bool true) ∧ Stepped w2 w' lab2 k pb st es S' a b) :
    Calls Try.prog 29 #[.pointer (some ⟨pb, 0, none⟩), .agg o.box] w fun e w' => e = .returned (.bool true) ∧ Stepped w w' lab k pb st es S' a b := by
  have M1 := Md.start h hw o
  obtain ⟨W1, hW1⟩ : ∃ W, w.alloc (.cells o.box 59) = W := ⟨_, rfl⟩
  rw [hW1] at M1
  have hS := hT _ _ M1.pl M1.wk
  have o0 := M1.at 0 (.int .i64 o.k) rfl
  have o1 := M1.at 1 (.int .i64 o.w) rfl
  have o2 := M1.at 2 (.int .i64 o.no) rfl
  have o3 := M1.at 3 (.int .i64 o.a) rfl
  have o4 := M1.at 4 (.int .i64 o.v) rfl
  have o5 := M1.at 5 (.int .i64 o.to) rfl
  have o6 := M1.at 6 (.slice o.da o.dn o.dc) rfl
  have o7 := M1.at 7 (.int .i64 o.m) rfl
  have HF : Hid (Fr k w W1 lab _) := M1.fr
  clear M1 h hw hT
  unfold Op.box at hS
  rcases h4 with h4 | h4
  all_goals
    rw [h4] at o0 hS
    go_enter Try.func29, Try.ntmps29
    go_wp2_with fail
    refine hS.mono ?_
    rintro e w3 ⟨rfl, q⟩
    have HQ : Hid (Stepped W1 w3 _ k pb st es S' a b) := q
    clear q hS
    go_wp2_with fail
    go_ret
    exact ⟨rfl, Stepped.from HF.out HQ.out⟩
/-- A step of a play, whatever it is. -/
def Played (w w' : World) (lab : Nat → Nat) (k pb : Nat) (st : Int) (es : List Ke) (B : Int) : Prop :=
  ∃ S' a' b', Stepped w w' lab k pb st es S' a' b' ∧ ∀ c, c < 2 → (S' c).last ≤ B + 5000
theorem take_last (T : St) (no : Int) : (takeS T no).last = T.last := rfl
theorem flip_last (T : St) (no at_ v : Int) : (flipS T no at_ v).last = T.last := by unfold flipS; split <;> rfl
theorem copy_last (T : St) (no : Int) : (copyS T no).last ≤ T.last + 1 := by
  unfold copyS
  split
  · exact send_last _ _ _
  · omega
theorem Stepped.played {x : St} {B : Int} (h : Stepped w w' lab k pb st es (upd2 S c x) a b) (hB : ∀ c, c < 2 → (S c).last ≤ B) (hx : x.last ≤ B + 5000) : Played w w' lab k pb st es B :=
  ⟨_, _, _, h, fun e he => by
    by_cases q : e = c
    · subst q; rw [upd2_at]; exact hx
    · rw [upd2_off _ _ _ _ q]; have := hB e he; omega⟩
set_option maxHeartbeats 1000000 in
theorem plays_any (h : Pl w lab k pb a b bv st lg S S es) (hw : Wk w0 lab w) (hk : 0 < k) (hes : es.length ≤ 900) {B : Int} (hB0 : 0 ≤ B) (hB1 : B < 4611686018427380000) (hB : ∀ c, c < 2 → (S c).last ≤ B) (o : Op) (hO : ∀ w', Below w0.heap.size w0 w' → o.In w') :
    Calls Try.prog 29 #[.pointer (some ⟨pb, 0, none⟩), .agg o.box] w fun e w' => e = .returned (.bool true) ∧ Played w w' lab k pb st es B := by
  obtain ⟨c, hc, hwc⟩ := who_two o.w
  have hl := hB c hc
  have fin : ∀ {x : St} {w' : World} {e : Ending}, x.last ≤ B + 5000 → (e = .returned (.bool true) ∧ Stepped w w' lab k pb st es (upd2 S c x) a b) → (e = .returned (.bool true) ∧ Played w w' lab k pb st es B) := fun hx q => ⟨q.1, q.2.played hB hx⟩
  have same : ∀ {w' : World} {e : Ending}, (e = .returned (.bool true) ∧ Stepped w w' lab k pb st es S a b) → (e = .returned (.bool true) ∧ Played w w' lab k pb st es B) := fun q => ⟨q.1, _, _, _, q.2, fun e he => by have := hB e he; omega⟩
  by_cases k1 : o.k = 1
  · exact (plays_send h hw hk hc (by omega) o hO hwc k1).mono fun _ _ q => fin (by have := send_last (S c) o.to o.Z; omega) q
  by_cases k2 : o.k = 2
  · exact (plays_tells h hw o hwc (Or.inl k2) (fun w2 lab2 h2 g2 => tells_under h2 g2 hk hc hes o k2)).mono fun _ _ q => same q
  by_cases k3 : o.k = 3
  · exact (plays_tells h hw o hwc (Or.inr k3) (fun w2 lab2 h2 g2 => tells_take h2 g2 hk hc hes o hO k3)).mono fun _ _ q => fin (by rw [take_last]; omega) q
  by_cases k4 : o.k = 4
  · exact (plays_drop h hw hk hc o hO hwc k4).mono fun _ _ q => fin (by rw [take_last]; omega) q
  by_cases k5 : o.k = 5
  · cases lg with
    | true => exact (plays_copy_long h hw o k5).mono fun _ _ q => same q
    | false => exact (plays_copy h hw hk hc (by omega) o hO hwc k5).mono fun _ _ q => fin (by have := copy_last (S c) o.no; omega) q
  by_cases k6 : o.k = 6
  · exact (plays_flip h hw hk hc o hO hwc k6).mono fun _ _ q => fin (by rw [flip_last]; omega) q
  by_cases k7 : o.k = 7
  · refine (plays_new h hw hk hc o hwc k7).mono fun _ _ q => ?_
    obtain ⟨q1, xb, yb, q2⟩ := q
    exact ⟨q1, q2.played hB (by show (0 : Int) ≤ _; omega)⟩
  by_cases k8 : o.k = 8
  · refine (plays_many h hw hk hc (by omega) o hO hwc k8).mono fun _ _ q => ?_
    obtain ⟨q1, t, ht, q2⟩ := q
    exact ⟨q1, q2.played hB (by have := sndN_last o.to o.Z (S c) t; omega)⟩
  · exact (plays_none h hw o (fun x h1 h2 q => by omega)).mono fun _ _ q => same q
end Go.Proofs.Ytpbanjgjljdepaa
