/- The faces U32 and U64 by their contracts. -/
import Derived.Test.YtgpeefedboomoabDoorCatch
namespace Go.Proofs.YtgpeefedboomoabDoor
open Go.RowKit
set_option maxRecDepth 100000

theorem Rdr.alloc {w : World} {rb g n cap : Nat} {pl code : Int} {bs : List Int} (h : Rdr w rb g n cap pl code bs) (o : Obj) : Rdr (w.alloc o) rb g n cap pl code bs :=
  h.kept (World.grownBy_alloc w o none) (by simp) (by simp)
theorem Errs.alloc {w : World} {er : Nat → Addr} (h : Errs w er) (o : Obj) : Errs (w.alloc o) er := h.grown (World.grownBy_alloc w o none) (fun _ _ => ⟨by simp, by simp⟩)
theorem Rdr.lt {w : World} {rb g n cap : Nat} {pl code : Int} {bs : List Int} (h : Rdr w rb g n cap pl code bs) : rb < w.heap.size := lt_of_block h.blk
theorem grown_setCell (w : World) (b o : Nat) (v : Value) : w.grownBy (w.setCell ⟨b, o, none⟩ v) (some b) :=
  ⟨rfl, rfl, rfl, by simp [World.setCell], fun k _ hk => Below.heap_setCell _ _ _ _ (fun e => hk (by rw [e]))⟩
theorem grown_drewN (w : World) (m : Nat) (row : Option Nat) : w.grownBy (w.drewN m) row := ⟨rfl, rfl, rfl, Nat.le_refl _, fun _ _ _ => rfl⟩
theorem grown_drew (w : World) (row : Option Nat) : w.grownBy w.drew row := ⟨rfl, rfl, rfl, Nat.le_refl _, fun _ _ _ => rfl⟩
theorem Rdr.set1 {w : World} {rb g n cap : Nat} {pl code : Int} {bs : List Int} (h : Rdr w rb g n cap pl code bs) (q : Int) : Rdr (w.setCell ⟨rb, 1, none⟩ (.int .i64 q)) rb g n cap q code bs :=
  ⟨by rw [heap_setCell_same _ _ _ _ _ _ h.blk]; rfl, h.lies.grown (grown_setCell _ _ _ _) (fun ad had => by obtain rfl := Option.some.inj had; simpa using h.apart), h.apart, by simpa [World.setCell] using h.glt⟩
theorem Rdr.set2 {w : World} {rb g n cap : Nat} {pl code : Int} {bs : List Int} (h : Rdr w rb g n cap pl code bs) (q : Int) : Rdr (w.setCell ⟨rb, 2, none⟩ (.int .i64 q)) rb g n cap pl q bs :=
  ⟨by rw [heap_setCell_same _ _ _ _ _ _ h.blk]; rfl, h.lies.grown (grown_setCell _ _ _ _) (fun ad had => by obtain rfl := Option.some.inj had; simpa using h.apart), h.apart, by simpa [World.setCell] using h.glt⟩

theorem ne_block {b c o q : Nat} (h : b ≠ c) : (⟨b, o, none⟩ : Addr) ≠ ⟨c, q, none⟩ := fun e => h (congrArg Addr.block e)

/-- What a call at a reader leaves: its place and error; nothing else that was there has turned. -/
def Went (w w' : World) (rb g n cap : Nat) (pl code : Int) (bs : List Int) : Prop := Rdr w' rb g n cap pl code bs ∧ w.grownBy w' (some rb)

abbrev boxed (w : World) (rb : Nat) : World := w.alloc (.cells #[.pointer (some ⟨rb, 0, none⟩)] 81)
theorem boxed_grown (w : World) (rb : Nat) (row : Option Nat) : w.grownBy (boxed w rb) row := World.grownBy_alloc _ _ _

theorem went_held {w : World} {rb g n cap : Nat} {pl code : Int} {bs : List Int} (h : Rdr w rb g n cap pl code bs) : Went w (boxed w rb) rb g n cap pl code bs := ⟨h.alloc _, boxed_grown _ _ _⟩
theorem went_err {w : World} {rb g n cap : Nat} {pl code : Int} {bs : List Int} (h : Rdr w rb g n cap pl code bs) (m : Nat) (q : Int) : Went w ((((boxed w rb).drewN m).setCell ⟨rb, 2, none⟩ (.int .i64 q)).drew) rb g n cap pl q bs :=
  ⟨(((h.alloc _).drewN m).set2 q).drew, grown_trans (grown_trans (grown_trans (boxed_grown _ _ _) (grown_drewN _ m _)) (grown_setCell _ _ _ _)) (grown_drew _ _)⟩
theorem went_ok {w : World} {rb g n cap : Nat} {pl code : Int} {bs : List Int} (h : Rdr w rb g n cap pl code bs) (m : Nat) (q : Int) : Went w ((((boxed w rb).drewN m).setCell ⟨rb, 1, none⟩ (.int .i64 q)).drew) rb g n cap q code bs :=
  ⟨(((h.alloc _).drewN m).set1 q).drew, grown_trans (grown_trans (grown_trans (boxed_grown _ _ _) (grown_drewN _ m _)) (grown_setCell _ _ _ _)) (grown_drew _ _)⟩

/-- What U32 and U64 answer, and where they leave the reader. -/
def rdNum (k n : Nat) (bs : List Int) (pl : Nat) (code M : Int) : Int × Nat × Int :=
  if code ≠ 0 then (0, pl, code) else if n < pl + k then (0, pl, 11) else if M < 0 ∨ M < val ((bs.drop pl).take k) then (0, pl, 12) else (val ((bs.drop pl).take k), pl + k, 0)

set_option maxHeartbeats 400000 in
theorem u32_held (rb g n cap : Nat) (pl code M : Int) (bs : List Int) (w : World) (hR : Rdr w rb g n cap pl code bs) (hc : (code != 0) = true) :
    Calls Tryd.prog 51 #[.pointer (some ⟨rb, 0, none⟩), .int .i64 M] w fun e w' => e = .returned (.int .i64 0) ∧ Went w w' rb g n cap pl code bs := by
  have c2 := (hR.alloc (.cells #[.pointer (some ⟨rb, 0, none⟩)] 81)).c2
  have fin := went_held hR
  clear hR
  go_enter_defers Tryd.func51, Tryd.ntmps51
  go_wp2
  exact ⟨_, results_tmp rfl _ _ _, rfl, fin⟩

set_option maxHeartbeats 400000 in
theorem u32_short (rb g n cap pl : Nat) (M : Int) (bs : List Int) (er : Nat → Addr) (w : World) (hR : Rdr w rb g n cap pl 0 bs) (hE : Errs w er) (hp : pl ≤ n) (hk : n < pl + 4) (hn : cap ≤ 200000000000000) :
    Calls Tryd.prog 51 #[.pointer (some ⟨rb, 0, none⟩), .int .i64 M] w fun e w' => e = .returned (.int .i64 0) ∧ Went w w' rb g n cap pl 11 bs := by
  have hmf : ∀ (fn : Fn) (first cap : Array Value) (w : World), (Instr.makeFunc fn first cap).run Tryd.prog w = .ok (.func fn first cap) w := fun _ _ _ _ => rfl
  have hR0 := hR.alloc (.cells #[.pointer (some ⟨rb, 0, none⟩)] 81)
  have hE0 := hE.alloc (.cells #[.pointer (some ⟨rb, 0, none⟩)] 81)
  have c2 := hR0.c2
  go_enter_defers Tryd.func51, Tryd.ntmps51
  go_wp2_with (go_at_call 62; refine (bounded_short rb g n cap pl 4 M 0 bs er _ hR0 hE0 hp hk (by omega) hn).mono ?_; rintro e w1 ⟨rfl, m0, hw1⟩; subst w1)
  refine leaves_cons (f := 61) (args := #[.pointer (some ⟨w.heap.size, 0, none⟩)]) (by simp) (by simp [go_sem]) ?_
  refine (catch39_err 4 (by omega) ⟨w.heap.size, 0, none⟩ rb g n cap pl 0 bs er [] _ ?_ (hR0.drewN m0) (hE0.drewN m0)).mono ?_
  · simp [go_sem]
  rintro e u' w'' ⟨rfl, rfl, rfl⟩
  exact ⟨_, results_tmp rfl _ _ _, rfl, went_err hR m0 11⟩

set_option maxHeartbeats 400000 in
theorem u32_wide (rb g n cap pl : Nat) (M : Int) (bs : List Int) (er : Nat → Addr) (w : World) (hR : Rdr w rb g n cap pl 0 bs) (hE : Errs w er) (hk : pl + 4 ≤ n) (hn : cap ≤ 200000000000000) (hby : ∀ x ∈ bs, 0 ≤ x ∧ x ≤ 255)
    (hM1 : M ≤ 9223372036854775807) (hw : M < 0 ∨ M < val ((bs.drop pl).take 4)) :
    Calls Tryd.prog 51 #[.pointer (some ⟨rb, 0, none⟩), .int .i64 M] w fun e w' => e = .returned (.int .i64 0) ∧ Went w w' rb g n cap pl 12 bs := by
  have hmf : ∀ (fn : Fn) (first cap : Array Value) (w : World), (Instr.makeFunc fn first cap).run Tryd.prog w = .ok (.func fn first cap) w := fun _ _ _ _ => rfl
  have hR0 := hR.alloc (.cells #[.pointer (some ⟨rb, 0, none⟩)] 81)
  have hE0 := hE.alloc (.cells #[.pointer (some ⟨rb, 0, none⟩)] 81)
  have c2 := hR0.c2
  have HW : Hid (M < 0 ∨ M < val ((bs.drop pl).take 4)) := hw
  clear hw
  go_enter_defers Tryd.func51, Tryd.ntmps51
  go_wp2_with (go_at_call 62; refine (bounded_wide rb g n cap pl 4 M 0 bs er _ hR0 hE0 hk (by omega) (by omega) hn hby hM1 HW.out).mono ?_; rintro e w1 ⟨rfl, m0, hw1⟩; subst w1)
  refine leaves_cons (f := 61) (args := #[.pointer (some ⟨w.heap.size, 0, none⟩)]) (by simp) (by simp [go_sem]) ?_
  refine (catch39_err 1 (by omega) ⟨w.heap.size, 0, none⟩ rb g n cap pl 0 bs er [] _ ?_ (hR0.drewN m0) (hE0.drewN m0)).mono ?_
  · simp [go_sem]
  rintro e u' w'' ⟨rfl, rfl, rfl⟩
  exact ⟨_, results_tmp rfl _ _ _, rfl, went_err hR m0 12⟩

set_option maxHeartbeats 400000 in
theorem u32_ok (rb g n cap pl : Nat) (M : Int) (bs : List Int) (w : World) (hR : Rdr w rb g n cap pl 0 bs) (hk : pl + 4 ≤ n) (hn : cap ≤ 200000000000000) (hby : ∀ x ∈ bs, 0 ≤ x ∧ x ≤ 255)
    (hM1 : M ≤ 9223372036854775807) (hM0 : 0 ≤ M) (hv : val ((bs.drop pl).take 4) ≤ M) :
    Calls Tryd.prog 51 #[.pointer (some ⟨rb, 0, none⟩), .int .i64 M] w fun e w' => e = .returned (.int .i64 (val ((bs.drop pl).take 4))) ∧ Went w w' rb g n cap (pl + 4 : Nat) 0 bs := by
  have hmf : ∀ (fn : Fn) (first cap : Array Value) (w : World), (Instr.makeFunc fn first cap).run Tryd.prog w = .ok (.func fn first cap) w := fun _ _ _ _ => rfl
  have hR0 := hR.alloc (.cells #[.pointer (some ⟨rb, 0, none⟩)] 81)
  have c2 := hR0.c2
  have hB := bounded_ok rb g n cap pl 4 M 0 bs _ hR0 hk (by omega) (by omega) hn hby hM1 hM0 hv
  generalize hV : val ((bs.drop pl).take 4) = V at *
  clear hV hby hv
  go_enter_defers Tryd.func51, Tryd.ntmps51
  go_wp2_with (go_at_call 62; refine hB.mono ?_; rintro e w1 ⟨rfl, m0, hw1⟩; subst w1)
  refine leaves_cons (f := 61) (args := #[.pointer (some ⟨w.heap.size, 0, none⟩)]) (by simp) (by simp [go_sem]) ?_
  refine (catch39_idle ⟨w.heap.size, 0, none⟩ rb _ ?_).mono ?_
  · have hlt := hR.lt
    exact (World.cell?_setCell_other _ _ _ _ (ne_block (Nat.ne_of_lt hlt))).trans (by simp [go_sem])
  rintro e u' w'' ⟨rfl, rfl, rfl⟩
  exact ⟨_, results_tmp rfl _ _ _, rfl, went_ok hR m0 _⟩

theorem u32_any (rb g n cap pl : Nat) (code M : Int) (bs : List Int) (er : Nat → Addr) (w : World) (hR : Rdr w rb g n cap pl code bs) (hE : Errs w er) (hp : pl ≤ n) (hn : cap ≤ 200000000000000) (hby : ∀ x ∈ bs, 0 ≤ x ∧ x ≤ 255) (hM1 : M ≤ 9223372036854775807) :
    Calls Tryd.prog 51 #[.pointer (some ⟨rb, 0, none⟩), .int .i64 M] w fun e w' => e = .returned (.int .i64 (rdNum 4 n bs pl code M).1) ∧ Went w w' rb g n cap (rdNum 4 n bs pl code M).2.1 (rdNum 4 n bs pl code M).2.2 bs := by
  unfold rdNum
  by_cases hc : code ≠ 0
  · simp only [if_pos hc]
    exact u32_held rb g n cap pl code M bs w hR (by simpa using hc)
  · have hc0 : code = 0 := by omega
    subst hc0
    simp only [if_neg hc]
    by_cases hk : n < pl + 4
    · simp only [if_pos hk]
      exact u32_short rb g n cap pl M bs er w hR hE hp hk hn
    · simp only [if_neg hk]
      by_cases hv : M < 0 ∨ M < val ((bs.drop pl).take 4)
      · simp only [if_pos hv]
        exact u32_wide rb g n cap pl M bs er w hR hE (by omega) hn hby hM1 hv
      · simp only [if_neg hv]
        exact u32_ok rb g n cap pl M bs w hR (by omega) hn hby hM1 (by omega) (by omega)
end Go.Proofs.YtgpeefedboomoabDoor
