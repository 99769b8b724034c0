/- plays: many. -/
import Derived.Test.YtpbanjgjljdepaaKC7
namespace Go.Proofs.Ytpbanjgjljdepaa
open Go.RowKit Go.Maps
set_option maxRecDepth 100000
variable {w w' w0 w1 : World} {lab lab' lab'' : Nat → Nat} {k j pb c : Nat} {a b : Nat → Nat} {v bv bv' l : Value} {st : Int} {lg : Bool} {F : Nat → Prop} {S R : Nat → St} {es : List Ke}
/-- n times sent. -/
def sndN (to : Int) (d : List Int) : Nat → St → St
  | 0, T => T
  | n + 1, T => sendS (sndN to d n T) to d
theorem send_last (T : St) (to : Int) (d : List Int) : (sendS T to d).last ≤ T.last + 1 := by
  unfold sendS
  split
  · omega
  · exact Int.le_refl _
theorem sndN_last (to : Int) (d : List Int) (T : St) : ∀ n : Nat, (sndN to d n T).last ≤ T.last + n
  | 0 => by simp [sndN]
  | n + 1 => by
    have h1 := sndN_last to d T n
    have h2 := send_last (sndN to d n T) to d
    show (sendS (sndN to d n T) to d).last ≤ _
    omega
theorem upd2_twice {α : Type} (f : Nat → α) (c : Nat) (x y : α) : upd2 (upd2 f c x) c y = upd2 f c y := by
  funext i
  by_cases h : i = c
  · subst h; rw [upd2_at, upd2_at]
  · rw [upd2_off _ _ _ _ h, upd2_off _ _ _ _ h, upd2_off _ _ _ _ h]
theorem upd2_self {α : Type} (f : Nat → α) (c : Nat) : upd2 f c (f c) = f := by
  funext i
  by_cases h : i = c
  · subst h; rw [upd2_at]
  · rw [upd2_off _ _ _ _ h]
theorem Md.step2 {W W' : World} {L L' : Nat → Nat} {S' R' : Nat → St} {o : Op} {ob : Nat} {es' : List Ke} {lg' : Bool} (h : Md w0 w W lab L k pb a b bv st lg S R es o ob) (hk : 0 < k) (p : Pl W' L' k pb a b bv' st lg' S' R' es') (f : Fr k W W' L L') : Md w0 w W' lab L' k pb a b bv' st lg' S' R' es' o ob :=
  ⟨p, h.fr.trans f, f.wk h.wk hk, (f.box h.op h.ob).1, (f.box h.op h.ob).2⟩
/-- Amid many: t are sent. -/
def Mny (w0 w W : World) (lab : Nat → Nat) (k pb : Nat) (a b : Nat → Nat) (st : Int) (S : Nat → St) (es : List Ke) (o : Op) (c t : Nat) : Prop :=
  ∃ L bv' lg' es', Md w0 w W lab L k pb a b bv' st lg' (upd2 S c (sndN o.to o.Z t (S c))) (upd2 S c (sndN o.to o.Z t (S c))) es' o w.heap.size ∧ (es.length ≤ 900 → es'.length ≤ 902)
theorem Mny.send {W : World} {o : Op} {t : Nat} (h : Mny w0 w W lab k pb a b st S es o c t) (hk : 0 < k) (hc : c < 2) (ht : t < 5000) (hlast : (S c).last < 4611686018427380000) (hO : ∀ w', Below w0.heap.size w0 w' → o.In w') :
    Calls Try.prog 37 #[.pointer (some ⟨pb, 0, none⟩), .int .i64 c, .agg o.box] W fun e w' => e = .returned (.bool true) ∧ Mny w0 w w' lab k pb a b st S es o c (t + 1) := by
  obtain ⟨L, bv', lg', es', M, he⟩ := h
  have hl := sndN_last o.to o.Z (S c) t
  refine (sends_any M.pl M.wk hk hc rfl (by rw [upd2_at]; omega) o hO).mono ?_
  rintro e w3 ⟨rfl, L', bv2, lg2, es2, h1, h2, h3⟩
  rw [upd2_twice, upd2_at] at h1
  exact ⟨rfl, L', bv2, lg2, es2, M.step2 hk h1 h2, fun q => by have := he q; omega⟩
theorem Mny.ops {W : World} {o : Op} {t : Nat} (h : Mny w0 w W lab k pb a b st S es o c t) : ∀ (i : Nat) (u : Value), o.box[i]? = some u → W.cell? ⟨w.heap.size, i, none⟩ = some u := fun i u hu => by
  obtain ⟨L, bv', lg', es', M, he⟩ := h
  exact M.at i u hu
set_option maxHeartbeats 4000000 in
theorem plays_many (h : Pl w lab k pb a b bv st lg S S es) (hw : Wk w0 lab w) (hk : 0 < k) (hc : c < 2) (hlast : (S c).last < 4611686018427380000) (o : Op) (hO : ∀ w', Below w0.heap.size w0 w' → o.In w') (hwc : bits BinOp.and IntKind.i64 o.w 1 = (c : Int)) (h4 : o.k = 8) :
    Calls Try.prog 29 #[.pointer (some ⟨pb, 0, none⟩), .agg o.box] w fun e w' => e = .returned (.bool true) ∧ ∃ t : Nat, t ≤ 5000 ∧ Stepped w w' lab k pb st es (upd2 S c (sndN o.to o.Z t (S c))) a b := by
  have M1 := Md.start h hw o
  obtain ⟨W1, hW1⟩ : ∃ W, w.alloc (.cells o.box 59) = W := ⟨_, rfl⟩
  rw [hW1] at M1
  have e0 : upd2 S c (sndN o.to o.Z 0 (S c)) = S := upd2_self S c
  have N1 : Hid (Mny w0 w W1 lab k pb a b st S es o c 0) := ⟨_, bv, lg, es, (by rw [e0]; exact M1), fun q => by omega⟩
  clear e0
  have o0 := M1.at 0 (.int .i64 o.k) rfl
  have o1 := M1.at 1 (.int .i64 o.w) rfl
  have hdn := (hO _ M1.wk.b).le
  clear M1 h hw
  rw [h4] at o0
  go_enter Try.func29, Try.ntmps29
  go_wp2_with fail
  go_loopw [6] (fun i wr => ∃ t : Nat, t ≤ 5000 ∧ i = .int .i64 t ∧ Mny w0 w wr lab k pb a b st S es o c t) (fun i _ => 5000 - (intOf i).toNat)
  case atStart => exact ⟨0, Nat.zero_le _, rfl, N1.out⟩
  case round =>
    obtain ⟨t, ht, rfl, N2⟩ := hrel
    clear N1 o0 o1
    have q7 := N2.ops 7 (.int .i64 o.m) rfl
    have q6 := N2.ops 6 (.slice o.da o.dn o.dc) rfl
    have HN : Hid (Mny w0 w wr lab k pb a b st S es o c t) := N2
    clear N2
    have fin : ∀ (x : Ending), x = .returned (.bool true) → (x = .returned (.bool true) ∧ ∃ t : Nat, t ≤ 5000 ∧ Stepped w wr lab k pb st es (upd2 S c (sndN o.to o.Z t (S c))) a b) := fun x hx => by
      obtain ⟨L, bv', lg', es', M, he⟩ := HN.out
      exact ⟨hx, t, ht, L, bv', lg', es', M.pl, M.fr, fun q => by have := he q; omega⟩
    have HF : Hid (∀ (x : Ending), x = .returned (.bool true) → (x = .returned (.bool true) ∧ ∃ t : Nat, t ≤ 5000 ∧ Stepped w wr lab k pb st es (upd2 S c (sndN o.to o.Z t (S c))) a b)) := fin
    clear fin
    by_cases hm : (t : Int) < o.m
    · by_cases h5 : t < 5000
      · have h5i : (t : Int) < 5000 := by omega
        by_cases h0 : t = 0
        · subst h0
          have hS := HN.out.send hk hc h5 hlast hO
          unfold Op.box at hS
          rw [h4] at hS
          have q0 := HN.out.ops 0 (.int .i64 o.k) rfl
          have q1 := HN.out.ops 1 (.int .i64 o.w) rfl
          have q2 := HN.out.ops 2 (.int .i64 o.no) rfl
          have q3 := HN.out.ops 3 (.int .i64 o.a) rfl
          have q4 := HN.out.ops 4 (.int .i64 o.v) rfl
          have q5 := HN.out.ops 5 (.int .i64 o.to) rfl
          rw [h4] at q0
          go_wp2_with fail
          refine hS.mono ?_
          rintro e w3 ⟨rfl, N3⟩
          have HN3 : Hid (Mny w0 w w3 lab k pb a b st S es o c (0 + 1)) := N3
          clear hS N3 HN
          go_wp2_with fail
          go_roundw
          case rel => exact ⟨0 + 1, by omega, by go_num, HN3.out⟩
          case measure => simp [intOf]
        · have h0i : ¬ (t : Int) = 0 := by omega
          by_cases hd : o.dn ≤ 3000
          · have hdi : (o.dn : Int) ≤ 3000 := by omega
            have hS := HN.out.send hk hc h5 hlast hO
            unfold Op.box at hS
            rw [h4] at hS
            have q0 := HN.out.ops 0 (.int .i64 o.k) rfl
            have q1 := HN.out.ops 1 (.int .i64 o.w) rfl
            have q2 := HN.out.ops 2 (.int .i64 o.no) rfl
            have q3 := HN.out.ops 3 (.int .i64 o.a) rfl
            have q4 := HN.out.ops 4 (.int .i64 o.v) rfl
            have q5 := HN.out.ops 5 (.int .i64 o.to) rfl
            rw [h4] at q0
            go_wp2_with fail
            refine hS.mono ?_
            rintro e w3 ⟨rfl, N3⟩
            have HN3 : Hid (Mny w0 w w3 lab k pb a b st S es o c (t + 1)) := N3
            clear hS N3 HN
            go_wp2_with fail
            go_roundw
            case rel => exact ⟨t + 1, by omega, by go_num, HN3.out⟩
            case measure => simp [intOf]; omega
          · have hdi : ¬ (o.dn : Int) ≤ 3000 := by omega
            go_wp2_with fail
            go_ret
            exact HF.out _ rfl
      · have h5i : ¬ (t : Int) < 5000 := by omega
        go_wp2_with fail
        go_ret
        exact HF.out _ rfl
    · go_wp2_with fail
      go_ret
      exact HF.out _ rfl
end Go.Proofs.Ytpbanjgjljdepaa
