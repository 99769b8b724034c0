/- The faces U32 and U64 by their contracts. -/
import Derived.Test.YtdkcplndplhblaaGreatDoorPk01
import Derived.Lib.AppendZeros
import Derived.Lib.ConvBytes
namespace Go.Proofs.YtdkcplndplhblaaGreatDoor
open Go.RowKit
set_option maxRecDepth 100000

theorem Rdr.alloc {w : World} {rb g n cap : Nat} {pl code : Int} {bs : List Int} (h : Rdr w rb g n cap pl code bs) (o : Obj) : Rdr (w.alloc o) rb g n cap pl code bs :=
  h.kept (World.grownBy_alloc w o none) (by simp) (by simp)
theorem Errs.alloc {w : World} {er : Nat → Addr} (h : Errs w er) (o : Obj) : Errs (w.alloc o) er := h.grown (World.grownBy_alloc w o none) (fun _ _ => ⟨by simp, by simp⟩)
theorem Rdr.lt {w : World} {rb g n cap : Nat} {pl code : Int} {bs : List Int} (h : Rdr w rb g n cap pl code bs) : rb < w.heap.size := lt_of_block h.blk
theorem grown_setCell (w : World) (b o : Nat) (v : Value) : w.grownBy (w.setCell ⟨b, o, none⟩ v) (some b) :=
  ⟨rfl, rfl, rfl, by simp [World.setCell], fun k _ hk => Below.heap_setCell _ _ _ _ (fun e => hk (by rw [e]))⟩
theorem grown_drewN (w : World) (m : Nat) (row : Option Nat) : w.grownBy (w.drewN m) row := ⟨rfl, rfl, rfl, Nat.le_refl _, fun _ _ _ => rfl⟩
theorem grown_drew (w : World) (row : Option Nat) : w.grownBy w.drew row := ⟨rfl, rfl, rfl, Nat.le_refl _, fun _ _ _ => rfl⟩
theorem Rdr.set1 {w : World} {rb g n cap : Nat} {pl code : Int} {bs : List Int} (h : Rdr w rb g n cap pl code bs) (q : Int) : Rdr (w.setCell ⟨rb, 1, none⟩ (.int .i64 q)) rb g n cap q code bs :=
  ⟨by rw [heap_setCell_same _ _ _ _ _ _ h.blk]; rfl, h.lies.grown (grown_setCell _ _ _ _) (fun ad had => by obtain rfl := Option.some.inj had; simpa using h.apart), h.apart, by simpa [World.setCell] using h.glt⟩
theorem Rdr.set2 {w : World} {rb g n cap : Nat} {pl code : Int} {bs : List Int} (h : Rdr w rb g n cap pl code bs) (q : Int) : Rdr (w.setCell ⟨rb, 2, none⟩ (.int .i64 q)) rb g n cap pl q bs :=
  ⟨by rw [heap_setCell_same _ _ _ _ _ _ h.blk]; rfl, h.lies.grown (grown_setCell _ _ _ _) (fun ad had => by obtain rfl := Option.some.inj had; simpa using h.apart), h.apart, by simpa [World.setCell] using h.glt⟩

theorem ne_block {b c o q : Nat} (h : b ≠ c) : (⟨b, o, none⟩ : Addr) ≠ ⟨c, q, none⟩ := fun e => h (congrArg Addr.block e)

/-- What a call at a reader leaves: its place and error; nothing else that was there has turned. -/
def Went (w w' : World) (rb g n cap : Nat) (pl code : Int) (bs : List Int) : Prop := Rdr w' rb g n cap pl code bs ∧ w.grownBy w' (some rb)

abbrev boxed (w : World) (rb : Nat) : World := w.alloc (.cells #[.pointer (some ⟨rb, 0, none⟩)] 92)
theorem boxed_grown (w : World) (rb : Nat) (row : Option Nat) : w.grownBy (boxed w rb) row := World.grownBy_alloc _ _ _

theorem went_held {w : World} {rb g n cap : Nat} {pl code : Int} {bs : List Int} (h : Rdr w rb g n cap pl code bs) : Went w (boxed w rb) rb g n cap pl code bs := ⟨h.alloc _, boxed_grown _ _ _⟩
theorem went_err {w : World} {rb g n cap : Nat} {pl code : Int} {bs : List Int} (h : Rdr w rb g n cap pl code bs) (m : Nat) (q : Int) : Went w ((((boxed w rb).drewN m).setCell ⟨rb, 2, none⟩ (.int .i64 q)).drew) rb g n cap pl q bs :=
  ⟨(((h.alloc _).drewN m).set2 q).drew, grown_trans (grown_trans (grown_trans (boxed_grown _ _ _) (grown_drewN _ m _)) (grown_setCell _ _ _ _)) (grown_drew _ _)⟩
theorem went_ok {w : World} {rb g n cap : Nat} {pl code : Int} {bs : List Int} (h : Rdr w rb g n cap pl code bs) (m : Nat) (q : Int) : Went w ((((boxed w rb).drewN m).setCell ⟨rb, 1, none⟩ (.int .i64 q)).drew) rb g n cap q code bs :=
  ⟨(((h.alloc _).drewN m).set1 q).drew, grown_trans (grown_trans (grown_trans (boxed_grown _ _ _) (grown_drewN _ m _)) (grown_setCell _ _ _ _)) (grown_drew _ _)⟩

/-- What U32 and U64 answer, and where they leave the reader. -/
def rdNum (k n : Nat) (bs : List Int) (pl : Nat) (code M : Int) : Int × Nat × Int :=
  if code ≠ 0 then (0, pl, code) else if n < pl + k then (0, pl, 11) else if M < 0 ∨ M < val ((bs.drop pl).take k) then (0, pl, 12) else (val ((bs.drop pl).take k), pl + k, 0)

set_option maxHeartbeats 400000 in
theorem u32_held (rb g n cap : Nat) (pl code M : Int) (bs : List Int) (w : World) (hR : Rdr w rb g n cap pl code bs) (hc : (code != 0) = true) :
    Calls Tryz.prog 193 #[.pointer (some ⟨rb, 0, none⟩), .int .i64 M] w fun e w' => e = .returned (.int .i64 0) ∧ Went w w' rb g n cap pl code bs := by
  have c2 := (hR.alloc (.cells #[.pointer (some ⟨rb, 0, none⟩)] 92)).c2
  have fin := went_held hR
  clear hR
  go_enter_defers Tryz.func193, Tryz.ntmps193
  go_wp2
  exact ⟨_, results_tmp rfl _ _ _, rfl, fin⟩

set_option maxHeartbeats 400000 in
theorem u32_short (rb g n cap pl : Nat) (M : Int) (bs : List Int) (er : Nat → Addr) (w : World) (hR : Rdr w rb g n cap pl 0 bs) (hE : Errs w er) (hp : pl ≤ n) (hk : n < pl + 4) (hn : cap ≤ 200000000000000) :
    Calls Tryz.prog 193 #[.pointer (some ⟨rb, 0, none⟩), .int .i64 M] w fun e w' => e = .returned (.int .i64 0) ∧ Went w w' rb g n cap pl 11 bs := by
  have hmf : ∀ (fn : Fn) (first cap : Array Value) (w : World), (Instr.makeFunc fn first cap).run Tryz.prog w = .ok (.func fn first cap) w := fun _ _ _ _ => rfl
  have hR0 := hR.alloc (.cells #[.pointer (some ⟨rb, 0, none⟩)] 92)
  have hE0 := hE.alloc (.cells #[.pointer (some ⟨rb, 0, none⟩)] 92)
  have c2 := hR0.c2
  go_enter_defers Tryz.func193, Tryz.ntmps193
  go_wp2_with (go_at_call 195; refine (bounded_short rb g n cap pl 4 M 0 bs er _ hR0 hE0 hp hk (by omega) hn).mono ?_; rintro e w1 ⟨rfl, m0, hw1⟩; subst w1)
  refine leaves_cons (f := 194) (args := #[.pointer (some ⟨w.heap.size, 0, none⟩)]) (by simp) (by simp [go_sem]) ?_
  refine (catch39_err 4 (by omega) ⟨w.heap.size, 0, none⟩ rb g n cap pl 0 bs er [] _ ?_ (hR0.drewN m0) (hE0.drewN m0)).mono ?_
  · simp [go_sem]
  rintro e u' w'' ⟨rfl, rfl, rfl⟩
  exact ⟨_, results_tmp rfl _ _ _, rfl, went_err hR m0 11⟩

set_option maxHeartbeats 400000 in
theorem u32_wide (rb g n cap pl : Nat) (M : Int) (bs : List Int) (er : Nat → Addr) (w : World) (hR : Rdr w rb g n cap pl 0 bs) (hE : Errs w er) (hk : pl + 4 ≤ n) (hn : cap ≤ 200000000000000) (hby : ∀ x ∈ bs, 0 ≤ x ∧ x ≤ 255)
    (hM1 : M ≤ 9223372036854775807) (hw : M < 0 ∨ M < val ((bs.drop pl).take 4)) :
    Calls Tryz.prog 193 #[.pointer (some ⟨rb, 0, none⟩), .int .i64 M] w fun e w' => e = .returned (.int .i64 0) ∧ Went w w' rb g n cap pl 12 bs := by
  have hmf : ∀ (fn : Fn) (first cap : Array Value) (w : World), (Instr.makeFunc fn first cap).run Tryz.prog w = .ok (.func fn first cap) w := fun _ _ _ _ => rfl
  have hR0 := hR.alloc (.cells #[.pointer (some ⟨rb, 0, none⟩)] 92)
  have hE0 := hE.alloc (.cells #[.pointer (some ⟨rb, 0, none⟩)] 92)
  have c2 := hR0.c2
  have HW : Hid (M < 0 ∨ M < val ((bs.drop pl).take 4)) := hw
  clear hw
  go_enter_defers Tryz.func193, Tryz.ntmps193
  go_wp2_with (go_at_call 195; refine (bounded_wide rb g n cap pl 4 M 0 bs er _ hR0 hE0 hk (by omega) (by omega) hn hby hM1 HW.out).mono ?_; rintro e w1 ⟨rfl, m0, hw1⟩; subst w1)
  refine leaves_cons (f := 194) (args := #[.pointer (some ⟨w.heap.size, 0, none⟩)]) (by simp) (by simp [go_sem]) ?_
  refine (catch39_err 1 (by omega) ⟨w.heap.size, 0, none⟩ rb g n cap pl 0 bs er [] _ ?_ (hR0.drewN m0) (hE0.drewN m0)).mono ?_
  · simp [go_sem]
  rintro e u' w'' ⟨rfl, rfl, rfl⟩
  exact ⟨_, results_tmp rfl _ _ _, rfl, went_err hR m0 12⟩

set_option maxHeartbeats 400000 in
theorem u32_ok (rb g n cap pl : Nat) (M : Int) (bs : List Int) (w : World) (hR : Rdr w rb g n cap pl 0 bs) (hk : pl + 4 ≤ n) (hn : cap ≤ 200000000000000) (hby : ∀ x ∈ bs, 0 ≤ x ∧ x ≤ 255)
    (hM1 : M ≤ 9223372036854775807) (hM0 : 0 ≤ M) (hv : val ((bs.drop pl).take 4) ≤ M) :
    Calls Tryz.prog 193 #[.pointer (some ⟨rb, 0, none⟩), .int .i64 M] w fun e w' => e = .returned (.int .i64 (val ((bs.drop pl).take 4))) ∧ Went w w' rb g n cap (pl + 4 : Nat) 0 bs := by
  have hmf : ∀ (fn : Fn) (first cap : Array Value) (w : World), (Instr.makeFunc fn first cap).run Tryz.prog w = .ok (.func fn first cap) w := fun _ _ _ _ => rfl
  have hR0 := hR.alloc (.cells #[.pointer (some ⟨rb, 0, none⟩)] 92)
  have c2 := hR0.c2
  have hB := bounded_ok rb g n cap pl 4 M 0 bs _ hR0 hk (by omega) (by omega) hn hby hM1 hM0 hv
  generalize hV : val ((bs.drop pl).take 4) = V at *
  clear hV hby hv
  go_enter_defers Tryz.func193, Tryz.ntmps193
  go_wp2_with (go_at_call 195; refine hB.mono ?_; rintro e w1 ⟨rfl, m0, hw1⟩; subst w1)
  refine leaves_cons (f := 194) (args := #[.pointer (some ⟨w.heap.size, 0, none⟩)]) (by simp) (by simp [go_sem]) ?_
  refine (catch39_idle ⟨w.heap.size, 0, none⟩ rb _ ?_).mono ?_
  · have hlt := hR.lt
    exact (World.cell?_setCell_other _ _ _ _ (ne_block (Nat.ne_of_lt hlt))).trans (by simp [go_sem])
  rintro e u' w'' ⟨rfl, rfl, rfl⟩
  exact ⟨_, results_tmp rfl _ _ _, rfl, went_ok hR m0 _⟩

theorem u32_any (rb g n cap pl : Nat) (code M : Int) (bs : List Int) (er : Nat → Addr) (w : World) (hR : Rdr w rb g n cap pl code bs) (hE : Errs w er) (hp : pl ≤ n) (hn : cap ≤ 200000000000000) (hby : ∀ x ∈ bs, 0 ≤ x ∧ x ≤ 255) (hM1 : M ≤ 9223372036854775807) :
    Calls Tryz.prog 193 #[.pointer (some ⟨rb, 0, none⟩), .int .i64 M] w fun e w' => e = .returned (.int .i64 (rdNum 4 n bs pl code M).1) ∧ Went w w' rb g n cap (rdNum 4 n bs pl code M).2.1 (rdNum 4 n bs pl code M).2.2 bs := by
  unfold rdNum
  by_cases hc : code ≠ 0
  · simp only [if_pos hc]
    exact u32_held rb g n cap pl code M bs w hR (by simpa using hc)
  · have hc0 : code = 0 := by omega
    subst hc0
    simp only [if_neg hc]
    by_cases hk : n < pl + 4
    · simp only [if_pos hk]
      exact u32_short rb g n cap pl M bs er w hR hE hp hk hn
    · simp only [if_neg hk]
      by_cases hv : M < 0 ∨ M < val ((bs.drop pl).take 4)
      · simp only [if_pos hv]
        exact u32_wide rb g n cap pl M bs er w hR hE (by omega) hn hby hM1 hv
      · simp only [if_neg hv]
        exact u32_ok rb g n cap pl M bs w hR (by omega) hn hby hM1 (by omega) (by omega)

set_option maxHeartbeats 400000 in
theorem u64_held (rb g n cap : Nat) (pl code M : Int) (bs : List Int) (w : World) (hR : Rdr w rb g n cap pl code bs) (hc : (code != 0) = true) :
    Calls Tryz.prog 200 #[.pointer (some ⟨rb, 0, none⟩), .int .i64 M] w fun e w' => e = .returned (.int .i64 0) ∧ Went w w' rb g n cap pl code bs := by
  have c2 := (hR.alloc (.cells #[.pointer (some ⟨rb, 0, none⟩)] 92)).c2
  have fin := went_held hR
  clear hR
  go_enter_defers Tryz.func200, Tryz.ntmps200
  go_wp2
  exact ⟨_, results_tmp rfl _ _ _, rfl, fin⟩

set_option maxHeartbeats 400000 in
theorem u64_short (rb g n cap pl : Nat) (M : Int) (bs : List Int) (er : Nat → Addr) (w : World) (hR : Rdr w rb g n cap pl 0 bs) (hE : Errs w er) (hp : pl ≤ n) (hk : n < pl + 8) (hn : cap ≤ 200000000000000) :
    Calls Tryz.prog 200 #[.pointer (some ⟨rb, 0, none⟩), .int .i64 M] w fun e w' => e = .returned (.int .i64 0) ∧ Went w w' rb g n cap pl 11 bs := by
  have hmf : ∀ (fn : Fn) (first cap : Array Value) (w : World), (Instr.makeFunc fn first cap).run Tryz.prog w = .ok (.func fn first cap) w := fun _ _ _ _ => rfl
  have hR0 := hR.alloc (.cells #[.pointer (some ⟨rb, 0, none⟩)] 92)
  have hE0 := hE.alloc (.cells #[.pointer (some ⟨rb, 0, none⟩)] 92)
  have c2 := hR0.c2
  go_enter_defers Tryz.func200, Tryz.ntmps200
  go_wp2_with (go_at_call 195; refine (bounded_short rb g n cap pl 8 M 0 bs er _ hR0 hE0 hp hk (by omega) hn).mono ?_; rintro e w1 ⟨rfl, m0, hw1⟩; subst w1)
  refine leaves_cons (f := 201) (args := #[.pointer (some ⟨w.heap.size, 0, none⟩)]) (by simp) (by simp [go_sem]) ?_
  refine (catch42_err 4 (by omega) ⟨w.heap.size, 0, none⟩ rb g n cap pl 0 bs er [] _ ?_ (hR0.drewN m0) (hE0.drewN m0)).mono ?_
  · simp [go_sem]
  rintro e u' w'' ⟨rfl, rfl, rfl⟩
  exact ⟨_, results_tmp rfl _ _ _, rfl, went_err hR m0 11⟩

set_option maxHeartbeats 400000 in
theorem u64_wide (rb g n cap pl : Nat) (M : Int) (bs : List Int) (er : Nat → Addr) (w : World) (hR : Rdr w rb g n cap pl 0 bs) (hE : Errs w er) (hk : pl + 8 ≤ n) (hn : cap ≤ 200000000000000) (hby : ∀ x ∈ bs, 0 ≤ x ∧ x ≤ 255)
    (hM1 : M ≤ 9223372036854775807) (hw : M < 0 ∨ M < val ((bs.drop pl).take 8)) :
    Calls Tryz.prog 200 #[.pointer (some ⟨rb, 0, none⟩), .int .i64 M] w fun e w' => e = .returned (.int .i64 0) ∧ Went w w' rb g n cap pl 12 bs := by
  have hmf : ∀ (fn : Fn) (first cap : Array Value) (w : World), (Instr.makeFunc fn first cap).run Tryz.prog w = .ok (.func fn first cap) w := fun _ _ _ _ => rfl
  have hR0 := hR.alloc (.cells #[.pointer (some ⟨rb, 0, none⟩)] 92)
  have hE0 := hE.alloc (.cells #[.pointer (some ⟨rb, 0, none⟩)] 92)
  have c2 := hR0.c2
  have HW : Hid (M < 0 ∨ M < val ((bs.drop pl).take 8)) := hw
  clear hw
  go_enter_defers Tryz.func200, Tryz.ntmps200
  go_wp2_with (go_at_call 195; refine (bounded_wide rb g n cap pl 8 M 0 bs er _ hR0 hE0 hk (by omega) (by omega) hn hby hM1 HW.out).mono ?_; rintro e w1 ⟨rfl, m0, hw1⟩; subst w1)
  refine leaves_cons (f := 201) (args := #[.pointer (some ⟨w.heap.size, 0, none⟩)]) (by simp) (by simp [go_sem]) ?_
  refine (catch42_err 1 (by omega) ⟨w.heap.size, 0, none⟩ rb g n cap pl 0 bs er [] _ ?_ (hR0.drewN m0) (hE0.drewN m0)).mono ?_
  · simp [go_sem]
  rintro e u' w'' ⟨rfl, rfl, rfl⟩
  exact ⟨_, results_tmp rfl _ _ _, rfl, went_err hR m0 12⟩

set_option maxHeartbeats 400000 in
theorem u64_ok (rb g n cap pl : Nat) (M : Int) (bs : List Int) (w : World) (hR : Rdr w rb g n cap pl 0 bs) (hk : pl + 8 ≤ n) (hn : cap ≤ 200000000000000) (hby : ∀ x ∈ bs, 0 ≤ x ∧ x ≤ 255)
    (hM1 : M ≤ 9223372036854775807) (hM0 : 0 ≤ M) (hv : val ((bs.drop pl).take 8) ≤ M) :
    Calls Tryz.prog 200 #[.pointer (some ⟨rb, 0, none⟩), .int .i64 M] w fun e w' => e = .returned (.int .i64 (val ((bs.drop pl).take 8))) ∧ Went w w' rb g n cap (pl + 8 : Nat) 0 bs := by
  have hmf : ∀ (fn : Fn) (first cap : Array Value) (w : World), (Instr.makeFunc fn first cap).run Tryz.prog w = .ok (.func fn first cap) w := fun _ _ _ _ => rfl
  have hR0 := hR.alloc (.cells #[.pointer (some ⟨rb, 0, none⟩)] 92)
  have c2 := hR0.c2
  have hB := bounded_ok rb g n cap pl 8 M 0 bs _ hR0 hk (by omega) (by omega) hn hby hM1 hM0 hv
  generalize hV : val ((bs.drop pl).take 8) = V at *
  clear hV hby hv
  go_enter_defers Tryz.func200, Tryz.ntmps200
  go_wp2_with (go_at_call 195; refine hB.mono ?_; rintro e w1 ⟨rfl, m0, hw1⟩; subst w1)
  refine leaves_cons (f := 201) (args := #[.pointer (some ⟨w.heap.size, 0, none⟩)]) (by simp) (by simp [go_sem]) ?_
  refine (catch42_idle ⟨w.heap.size, 0, none⟩ rb _ ?_).mono ?_
  · have hlt := hR.lt
    exact (World.cell?_setCell_other _ _ _ _ (ne_block (Nat.ne_of_lt hlt))).trans (by simp [go_sem])
  rintro e u' w'' ⟨rfl, rfl, rfl⟩
  exact ⟨_, results_tmp rfl _ _ _, rfl, went_ok hR m0 _⟩

theorem u64_any (rb g n cap pl : Nat) (code M : Int) (bs : List Int) (er : Nat → Addr) (w : World) (hR : Rdr w rb g n cap pl code bs) (hE : Errs w er) (hp : pl ≤ n) (hn : cap ≤ 200000000000000) (hby : ∀ x ∈ bs, 0 ≤ x ∧ x ≤ 255) (hM1 : M ≤ 9223372036854775807) :
    Calls Tryz.prog 200 #[.pointer (some ⟨rb, 0, none⟩), .int .i64 M] w fun e w' => e = .returned (.int .i64 (rdNum 8 n bs pl code M).1) ∧ Went w w' rb g n cap (rdNum 8 n bs pl code M).2.1 (rdNum 8 n bs pl code M).2.2 bs := by
  unfold rdNum
  by_cases hc : code ≠ 0
  · simp only [if_pos hc]
    exact u64_held rb g n cap pl code M bs w hR (by simpa using hc)
  · have hc0 : code = 0 := by omega
    subst hc0
    simp only [if_neg hc]
    by_cases hk : n < pl + 8
    · simp only [if_pos hk]
      exact u64_short rb g n cap pl M bs er w hR hE hp hk hn
    · simp only [if_neg hk]
      by_cases hv : M < 0 ∨ M < val ((bs.drop pl).take 8)
      · simp only [if_pos hv]
        exact u64_wide rb g n cap pl M bs er w hR hE (by omega) hn hby hM1 hv
      · simp only [if_neg hv]
        exact u64_ok rb g n cap pl M bs w hR (by omega) hn hby hM1 (by omega) (by omega)
end Go.Proofs.YtdkcplndplhblaaGreatDoor

/- roomBehind and appendNumber by their contracts. -/
namespace Go.Proofs.YtdkcplndplhblaaGreatDoor
open Go.RowKit
set_option maxRecDepth 100000

set_option maxHeartbeats 400000 in
theorem room_any (ao : Option Addr) (len cap n : Nat) (bs : List Int) (w : World) (hbd : len + n ≤ 140737488355328) (hL : Lies w ao len cap bs) :
    Calls Tryz.prog 122 #[.slice ao len cap, .int .i64 n] w fun e w' => e = .returned (.slice (some ⟨w.heap.size, 0, none⟩) len (len + n)) ∧
      w'.ownsRow w.heap.size 5 1 (.slice (some ⟨w.heap.size, 0, none⟩) len (len + n)) len (bs.map (Value.int .u8)) ∧ Below w.heap.size w w' := by
  obtain ⟨i0, hi, hz0, hz1, hz2⟩ := info_parts Tryz.info5
  go_enter Tryz.func122, Tryz.ntmps122
  go_wp2_with (first
    | (at_make; refine wpList_make_own _ rfl _ _ 22 rfl w.heap.size 5 i0 (.int .u8 0) 1 Tryz.underlying22 hi hz0 hz1 _ _ _ (len + n) rfl rfl (by omega) (by rw [hz2]; omega) (by unfold maxLen; omega) (Nat.le_refl _) ?_; intro w0 hown0 hgrow0)
    | (at_builtin; refine wpList_append_fits_any _ rfl (.tmp 9) (.tmp 10) 22 rfl w.heap.size 5 i0 1 Tryz.underlying22 hi hz1 w.heap.size 0 (len + n) _ rfl hown0 _ len _ (bs.map (Value.int .u8)) rfl (by simp [hL.hlen]) hL.hnone (fun ad had t u hu => hgrow0.cell (hL.hcells ad had t u hu) (by simp)) (ints_oneCell _ _) (by omega) ?_; intro w1 hown1 hgrow1))
  go_ret
  simp only [Nat.zero_add, List.nil_append] at hown1 ⊢
  exact ⟨rfl, hown1, ((Below.refl _ _).grown hgrow0 (Nat.le_refl _) (fun k h => by cases h)).grown hgrow1 hgrow0.size (fun k hk => by cases hk; exact Nat.le_refl _)⟩

set_option maxHeartbeats 400000 in
theorem num_any (g n cap sz base : Nat) (X : Int) (bs : List Int) (w : World) (_hX0 : 0 ≤ X) (_hX1 : X ≤ 18446744073709551615) (hsz : sz ≤ 8)
    (hown : w.ownsRow base 5 1 (.slice (some ⟨g, 0, none⟩) n cap) n (bs.map (Value.int .u8))) (hfit : n + sz ≤ cap) :
    Calls Tryz.prog 121 #[.slice (some ⟨g, 0, none⟩) n cap, .int .u64 X, .int .i64 sz] w fun e w' => e = .returned (.slice (some ⟨g, 0, none⟩) (n + sz) cap) ∧
      w'.ownsRow base 5 1 (.slice (some ⟨g, 0, none⟩) (n + sz) cap) (n + sz) ((bs ++ be X sz).map (Value.int .u8)) ∧ w.grownBy w' (some g) := by
  obtain ⟨i0, hi, hz0, hz1, hz2⟩ := info_parts Tryz.info5
  go_enter Tryz.func121, Tryz.ntmps121
  go_wp2
  go_loopw [0, 7] (fun v i wr => ∃ (m : Nat) (pre : List Int), m ≤ sz ∧ i = .int .i64 ((m : Int) - 1) ∧ v = .slice (some ⟨g, 0, none⟩) (n + (sz - m)) cap ∧
      wr.ownsRow base 5 1 (.slice (some ⟨g, 0, none⟩) (n + (sz - m)) cap) (n + (sz - m)) ((bs ++ pre).map (Value.int .u8)) ∧ pre ++ be X m = be X sz ∧ w.grownBy wr (some g))
    (fun _ i _ => (intOf i + 1).toNat)
  case atStart => exact ⟨sz, [], Nat.le_refl _, by go_num, by simp, by simpa using hown, rfl, World.grownBy.refl _ _⟩
  case round =>
    obtain ⟨m, pre, hm, rfl, rfl, hownr, hpre, hgr⟩ := hrel
    by_cases hm0 : 0 < m
    · obtain ⟨m, rfl⟩ : ∃ k, m = k + 1 := ⟨m - 1, by omega⟩
      have HP : Hid (pre ++ be X (m + 1) = be X sz) := hpre
      clear hpre
      have h1 : (0 : Int) ≤ m := by omega
      have h2 : (m : Int) < 8 := by omega
      go_wp2_with (at_builtin; refine wpList_append_fits _ rfl (.tmp 14) (.tmp 20) 22 rfl base 5 i0 1 Tryz.underlying22 hi hz1 g (n + (sz - (m + 1))) cap _ rfl (hownr.alloc _) ⟨wr.heap.size, 0, none⟩ 1 1 [.int .u8 (X / 2 ^ (8 * m) % 256)] rfl rfl (cell_one_new _ _ _) (by intro u hu; simp at hu; subst hu; rfl) (by omega) ?_; intro w1 hown1 hgrow1)
      have e0 : n + (sz - (m + 1)) + 1 = n + (sz - m) := by omega
      go_roundw
      case rel =>
        refine ⟨m, pre ++ [X / 2 ^ (8 * m) % 256], by omega, by go_num, by rw [← e0], ?_, ?_, grown_trans (grown_trans hgr (World.grownBy_alloc _ _ _)) hgrow1⟩
        · rw [← e0]; simpa using hown1
        · rw [List.append_assoc]; exact HP.out
      case measure => simp [intOf]
    · have h1 : (m : Int) ≤ 0 := by omega
      have HP : Hid (pre ++ be X m = be X sz) := hpre
      clear hpre
      go_wp2
      go_ret
      obtain rfl : m = 0 := by omega
      have hpre := HP.out
      have e0 : n + (sz - 0) = n + sz := by omega
      simp only [be, List.append_nil] at hpre
      rw [← hpre]
      exact ⟨by rw [← e0]; rfl, by rw [e0] at hownr; exact hownr, hgr⟩

/-- What a Put answers: a new row of bytes, all of them from 'base' on; nothing old has turned. -/
def Made (w : World) (e : Ending) (w' : World) (n : Nat) (bs : List Int) : Prop :=
  ∃ g cap, e = .returned (.slice (some ⟨g, 0, none⟩) n cap) ∧ w'.ownsRow w.heap.size 5 1 (.slice (some ⟨g, 0, none⟩) n cap) n (bs.map (Value.int .u8)) ∧ Below w.heap.size w w'

set_option maxHeartbeats 400000 in
theorem putSum_any (ao : Option Addr) (len cap : Nat) (X : Int) (bs : List Int) (w : World) (hX0 : 0 ≤ X) (hX1 : X ≤ 18446744073709551615) (hbd : len + 8 ≤ 140737488355328) (hL : Lies w ao len cap bs) :
    Calls Tryz.prog 94 #[.slice ao len cap, .int .u64 X] w fun e w' => Made w e w' (len + 8) (bs ++ be X 8) := by
  go_enter Tryz.func94, Tryz.ntmps94
  go_wp2_with (first
    | (go_at_call 122; refine (room_any ao len cap 8 bs _ hbd hL).mono ?_; rintro e w1 ⟨rfl, hown1, hb1⟩)
    | (go_at_call 121; refine (num_any w.heap.size len (len + 8) 8 w.heap.size X bs _ hX0 hX1 (by omega) hown1 (by omega)).mono ?_; rintro e w2 ⟨rfl, hown2, hg2⟩))
  go_ret
  exact ⟨w.heap.size, len + 8, rfl, hown2, hb1.grown hg2 hb1.size (fun k hk => by cases hk; exact Nat.le_refl _)⟩
end Go.Proofs.YtdkcplndplhblaaGreatDoor

/- Put32 and Put64 by their contracts. -/
namespace Go.Proofs.YtdkcplndplhblaaGreatDoor
open Go.RowKit
set_option maxRecDepth 100000

theorem u64_wrap_bd (X : Int) : 0 ≤ IntKind.u64.wrap X ∧ IntKind.u64.wrap X ≤ 18446744073709551615 := by
  simp [IntKind.wrap, IntKind.bits, IntKind.signed]; omega

set_option maxHeartbeats 400000 in
theorem put32_any (ao : Option Addr) (len cap : Nat) (X : Int) (bs : List Int) (w : World) (hbd : len + 4 ≤ 140737488355328) (hL : Lies w ao len cap bs) :
    Calls Tryz.prog 192 #[.slice ao len cap, .int .i64 X] w fun e w' => Made w e w' (len + 4) (bs ++ be (IntKind.u64.wrap X) 4) := by
  go_enter Tryz.func192, Tryz.ntmps192
  go_wp2_with (first
    | (go_at_call 122; refine (room_any ao len cap 4 bs _ hbd hL).mono ?_; rintro e w1 ⟨rfl, hown1, hb1⟩)
    | (go_at_call 121; refine (num_any w.heap.size len (len + 4) 4 w.heap.size (IntKind.u64.wrap X) bs _ (u64_wrap_bd X).1 (u64_wrap_bd X).2 (by omega) hown1 (by omega)).mono ?_; rintro e w2 ⟨rfl, hown2, hg2⟩))
  go_ret
  exact ⟨w.heap.size, len + 4, rfl, hown2, hb1.grown hg2 hb1.size (fun k hk => by cases hk; exact Nat.le_refl _)⟩

set_option maxHeartbeats 400000 in
theorem put64_any (ao : Option Addr) (len cap : Nat) (X : Int) (bs : List Int) (w : World) (hbd : len + 8 ≤ 140737488355328) (hL : Lies w ao len cap bs) :
    Calls Tryz.prog 199 #[.slice ao len cap, .int .i64 X] w fun e w' => Made w e w' (len + 8) (bs ++ be (IntKind.u64.wrap X) 8) := by
  go_enter Tryz.func199, Tryz.ntmps199
  go_wp2_with (go_at_call 94; refine (putSum_any ao len cap (IntKind.u64.wrap X) bs _ (u64_wrap_bd X).1 (u64_wrap_bd X).2 hbd hL).mono ?_; rintro e w1 ⟨g, cap1, rfl, hown, hb⟩)
  go_ret
  exact ⟨g, cap1, rfl, hown, hb⟩
end Go.Proofs.YtdkcplndplhblaaGreatDoor

/- A law of no program: append(s, make([]T, k)...), T a one-cell type, where s is the call's own and has room for k more. -/
namespace Go.Proofs.YtdkcplndplhblaaGreatDoor
open Go.RowKit

theorem zeroCells_one (z : Value) (k : Nat) : (Builtin.zeroCells #[z] k).toList = List.replicate k z := by
  simp only [Builtin.zeroCells, Array.toList_map, Array.toList_range, List.size_toArray, List.length_cons, List.length_nil, Nat.zero_add, Nat.mul_one]
  apply List.ext_getElem <;> simp [Nat.mod_one]

theorem run_append_room_zeros {P : Program} (w : World) (t tn ty e : TypeId) (i : TypeInfo) (z : Value) (kq kn : IntKind) (ht : P.underlying t = some (.slice e)) (htn : P.underlying tn = some (.int kn)) (hi : P.info? e = some i) (hz : i.zero = some z) (hzc : z.cells = #[z]) (hone : z.oneCell' = true)
    (hs : i.size = 1) (g n cap : Nat) (cur : Array Value) (hg : w.heap[g]? = some (.cells cur e (0, 0))) (k : Nat) (hroom : n + k ≤ cap) (hfit : n + k ≤ cur.size) (hk : k ≤ 1048576) (hb : i.bytes ≤ 1048576) :
    (Builtin.append_ #[t, tn] ty #[.slice (some ⟨g, 0, none⟩) n cap, .int kq k]).run P w =
      .ok (.slice (some ⟨g, 0, none⟩) (n + k) cap) (w.setRow g (cur.toList.take n ++ List.replicate k z ++ cur.toList.drop (n + k)).toArray) := by
  have hw : IntKind.i64.wrap (k : Int) = k := by rw [IntKind.wrap_i64]; omega
  have hneg : ¬ ((k : Int) < 0) := by omega
  have hm : k * i.bytes ≤ 1048576 * 1048576 := Nat.mul_le_mul hk hb
  have h48i : ¬ (281474976710656 < (k : Int) * (i.bytes : Int)) := by
    rw [← Int.natCast_mul]
    omega
  have hst := run_storeCells_at P g n e (List.replicate k z) 0 cur w hg (by simpa using hfit) (by intro u hu; rw [List.eq_of_mem_replicate hu]; exact hone)
  simp only [Nat.add_zero, List.length_replicate] at hst
  by_cases h0 : k = 0
  · subst h0
    simp only [List.replicate_zero] at hst
    have hroom' : n ≤ cap := hroom
    simp at hst hw
    simp [Builtin.append_, run_underlying ht, run_underlying htn, sizeOf, typeInfo, hi, asInt, asIntOf, hw, hroom', Addr.add_lit, hs, hst]
  · simp [Builtin.append_, run_underlying ht, run_underlying htn, sizeOf, typeInfo, zeroValue, hi, hz, hzc, asInt, asIntOf, hw, hneg, h48i, hs, h0, hroom, Addr.add_lit, zeroCells_one, hst]

theorem wpList_append_fits_zeros {P : Program} (w : World) {ops : Array Oper} {rest : List Oper} {o : Oper} {a : Act} {Q : Exit → Act → World → Prop} (hgd : o.guard = none) (s x : Operand) (t tn : TypeId)
    (ho : o.op = .call { callee := .builtin .append, args := #[s, x], argTypes := #[t, tn] }) (base : Nat) (e : TypeId) (i : TypeInfo) (z : Value) (kq kn : IntKind) (ht : P.underlying t = some (.slice e)) (htn : P.underlying tn = some (.int kn)) (hi : P.info? e = some i) (hz : i.zero = some z) (hzc : z.cells = #[z]) (hone : z.oneCell' = true)
    (hs : i.size = 1) (hb : i.bytes ≤ 1048576) (g n cap k : Nat) (C : Int) (xs : List Value) (hsl : a.eval s = .slice (some ⟨g, 0, none⟩) n cap) (hown : w.ownsRow base e 1 (.slice (some ⟨g, 0, none⟩) n cap) n xs) (hx : a.eval x = .int kq C) (hC : C = (k : Int)) (hk : k ≤ 1048576) (hroom : n + k ≤ cap)
    (h : ∀ w', w'.ownsRow base e 1 (.slice (some ⟨g, 0, none⟩) (n + k) cap) (n + k) (xs ++ List.replicate k z) → w.grownBy w' (some g) → wpList P ops Q rest (a.put o.dst (.slice (some ⟨g, 0, none⟩) (n + k) cap)) w') : wpList P ops Q (o :: rest) a w := by
  subst hC
  have hxl : xs.length = n := by simpa using hown.1
  have hlen : (xs ++ List.replicate k z).length = (n + k) * 1 := by rw [List.length_append, hxl, List.length_replicate, Nat.mul_one]
  rcases hown.2 with ⟨hv, _⟩ | ⟨g', cap', cur, hv, hbg, hg, hnc, hcm, hcs, htake⟩
  · cases hv
  · cases hv
    have hcs' : cur.size = cap := by simpa using hcs
    have hr := run_append_room_zeros (P := P) w t tn o.type e i z kq kn ht htn hi hz hzc hone hs g n cap cur hg k hroom (by omega) hk hb
    refine Lib.wpList_append_run w hgd s x t tn ho _ _ hsl hx _ _ hr (h _ ⟨hlen, .inr ⟨g, cap, _, rfl, hbg, setRow_heap w g cur _ e _ hg, hroom, hcm, ?_, ?_⟩⟩ ⟨rfl, rfl, rfl, by simp, fun k _ hk => setRow_other w g k _ (fun e => hk (by simp [e]))⟩)
    · simp only [List.size_toArray, List.length_append, List.length_take, List.length_drop, Array.length_toList, List.length_replicate]
      omega
    · have ht' : cur.toList.take n = xs := by simpa using htake
      rw [ht', ← hlen]
      exact List.take_left
end Go.Proofs.YtdkcplndplhblaaGreatDoor

/- PutBytes and PutText by their contracts. -/
namespace Go.Proofs.YtdkcplndplhblaaGreatDoor
open Go.RowKit
set_option maxRecDepth 100000

set_option maxHeartbeats 400000 in
theorem pad_any (n : Nat) (w : World) (hn : n ≤ 140737488355328) :
    Calls Tryz.prog 209 #[.int .u64 n] w fun e w' => e = .returned (.int .u64 (padN n)) ∧ w' = w := by
  have h1 : (n : Int) ≤ 140737488355328 := by omega
  have h0 : (0 : Int) ≤ n := by omega
  go_enter Tryz.func209, Tryz.ntmps209
  go_wp2
  go_ret
  refine ⟨?_, rfl⟩
  have : ((4 - (n : Int) % 4) % 4) = (padN n : Int) := by unfold padN; omega
  rw [← this]; rfl

set_option maxHeartbeats 400000 in
theorem putBytes_any (ao : Option Addr) (len cap : Nat) (bs : List Int) (bo : Option Addr) (dl dc : Nat) (ds : List Int) (w : World) (hbd : len + dl + 8 ≤ 140737488355328) (hL : Lies w ao len cap bs) (hD : Lies w bo dl dc ds) :
    Calls Tryz.prog 206 #[.slice ao len cap, .slice bo dl dc] w fun e w' => Made w e w' (len + 4 + dl + padN dl) (bs ++ be dl 4 ++ ds ++ List.replicate (padN dl) 0) := by
  obtain ⟨i0, hi, hz0, hz1, hz2⟩ := info_parts Tryz.info5
  have hp : padN dl ≤ 3 := by unfold padN; omega
  have hpi : (padN dl : Int) ≤ 3 := by omega
  have hdi : (dl : Int) ≤ 140737488355328 := by omega
  go_enter Tryz.func206, Tryz.ntmps206
  go_wp2_with (first
    | (go_at_call 209; refine (pad_any dl _ (by omega)).mono ?_; rintro e wq ⟨rfl, hq⟩; subst wq)
    | (go_at_call 122; refine (room_any ao len cap (4 + dl + padN dl) bs _ (by omega) hL).mono ?_; rintro e w1 ⟨rfl, hown1, hb1⟩)
    | (go_at_call 121; refine (num_any w.heap.size len (len + (4 + dl + padN dl)) 4 w.heap.size dl bs _ (by omega) (by omega) (by omega) hown1 (by omega)).mono ?_; rintro e w2 ⟨rfl, hown2, hg2⟩; have hb2 := hb1.grown hg2 hb1.size (fun k hk => by cases hk; exact Nat.le_refl _); have hD2 := hD.below hb2 (Nat.le_refl _))
    | (at_builtin; refine wpList_append_fits_any _ rfl (.tmp 24) (.tmp 25) 22 rfl w.heap.size 5 i0 1 Tryz.underlying22 hi hz1 w.heap.size (len + 4) (len + (4 + dl + padN dl)) _ rfl hown2 bo dl dc (ds.map (Value.int .u8)) rfl (by simp [hD.hlen]) hD.hnone hD2.hcells (ints_oneCell _ _) (by omega) ?_; intro w3 hown3 hg3)
    | (at_builtin; refine wpList_append_fits_zeros _ rfl (.tmp 27) (.tmp 28) 22 125 rfl w.heap.size 5 i0 (.int .u8 0) .u64 .u64 Tryz.underlying22 Tryz.underlying125 hi hz0 rfl rfl hz1 (by rw [hz2]; omega) w.heap.size (len + 4 + dl) (len + (4 + dl + padN dl)) (padN dl) (padN dl) _ rfl hown3 rfl rfl (by omega) (by omega) ?_; intro w4 hown4 hg4))
  go_ret
  have hb3 := hb2.grown hg3 hb2.size (fun k hk => by cases hk; exact Nat.le_refl _)
  have hb4 := hb3.grown hg4 hb3.size (fun k hk => by cases hk; exact Nat.le_refl _)
  refine ⟨w.heap.size, _, rfl, ?_, hb4⟩
  simpa using hown4

/-- The numbers of a text's bytes. -/
def nums (s : ByteArray) : List Int := s.data.toList.map (fun b => (b.toNat : Int))
theorem nums_length (s : ByteArray) : (nums s).length = s.size := by simp [nums]

theorem bytesWorld_below (w : World) (s : ByteArray) : Below w.heap.size w (Lib.bytesWorld w 5 s) :=
  ⟨rfl, rfl, rfl, by rw [Lib.bytesWorld_size]; omega, fun k hk => Lib.bytesWorld_at_old w 5 s k hk⟩
theorem bytesWorld_lies (w : World) (s : ByteArray) : Lies (Lib.bytesWorld w 5 s) (some ⟨w.heap.size, 0, none⟩) s.size (grownCap w s.size 0 5) (nums s) := by
  refine ⟨nums_length s, grownCap_ge _ _ _ _, (fun h => by cases h), fun ad had t u hu => ?_⟩
  obtain rfl := Option.some.inj had
  have ht : t < s.size := by
    have := (List.getElem?_eq_some_iff.1 hu).1
    simpa [nums_length] using this
  rw [Addr.add_lit, Nat.zero_add, Lib.bytesWorld_cell w 5 s t ht]
  rw [← hu]
  have ht' : t < s.data.toList.length := by simpa using ht
  simp [nums, List.getD, ht]

set_option maxHeartbeats 400000 in
theorem putText_any (ao : Option Addr) (len cap : Nat) (bs : List Int) (s : ByteArray) (w : World) (hbd : len + s.size + 8 ≤ 140737488355328) (hL : Lies w ao len cap bs) :
    Calls Tryz.prog 204 #[.slice ao len cap, .string s] w fun e w' => Made w e w' (len + 4 + s.size + padN s.size) (bs ++ be s.size 4 ++ nums s ++ List.replicate (padN s.size) 0) := by
  have hcv := Lib.run_convert_string_bytes (P := Tryz.prog) w 9 22 5 s Tryz.underlying9 Tryz.underlying22 Tryz.underlying5
  have hb0 := bytesWorld_below w s
  go_enter Tryz.func204, Tryz.ntmps204
  go_wp2_with (go_at_call 206; refine (putBytes_any ao len cap bs _ _ _ (nums s) _ hbd (hL.below hb0 (Nat.le_refl _)) (bytesWorld_lies w s)).mono ?_; rintro e w1 ⟨g, cap1, rfl, hown, hb⟩)
  go_ret
  have hz : w.heap.size ≤ (Lib.bytesWorld w 5 s).heap.size := hb0.size
  exact ⟨g, cap1, rfl, ownsRow_mono hown hz, hb0.trans (hb.mono hz)⟩
end Go.Proofs.YtdkcplndplhblaaGreatDoor

/- text by its contracts. -/
namespace Go.Proofs.YtdkcplndplhblaaGreatDoor
open Go.RowKit
set_option maxRecDepth 100000

theorem padN_le (k : Nat) : padN k ≤ 3 := by unfold padN; omega

set_option maxHeartbeats 400000 in
theorem text_short (rb g n cap pl : Nat) (M code : Int) (bs : List Int) (er : Nat → Addr) (w : World) (hR : Rdr w rb g n cap pl code bs) (hE : Errs w er) (hp : pl ≤ n) (hk : n < pl + 4) (hn : cap ≤ 200000000000000) :
    Calls Tryz.prog 208 #[.pointer (some ⟨rb, 0, none⟩), .int .i64 M] w fun e w' => e = gaveUp (er 4) ∧ ∃ m, w' = w.drewN m := by
  go_enter Tryz.func208, Tryz.ntmps208
  go_wp2_with (go_at_call 146; refine (number_short rb g n cap pl 4 code bs er _ hR hE hp hk (by omega) hn).mono ?_; rintro e w1 ⟨rfl, m0, hw1⟩; subst w1)
  exact ⟨rfl, rfl, m0, rfl⟩

set_option maxHeartbeats 400000 in
theorem text_long (rb g n cap pl : Nat) (M code : Int) (bs : List Int) (er : Nat → Addr) (w : World) (hR : Rdr w rb g n cap pl code bs) (hE : Errs w er) (hk : pl + 4 ≤ n) (hn : cap ≤ 200000000000000) (hby : ∀ x ∈ bs, 0 ≤ x ∧ x ≤ 255)
    (hM1 : M ≤ 9223372036854775807) (hw : M < 0 ∨ M < val ((bs.drop pl).take 4)) :
    Calls Tryz.prog 208 #[.pointer (some ⟨rb, 0, none⟩), .int .i64 M] w fun e w' => e = gaveUp (er 2) ∧ ∃ m, w' = w.drewN m := by
  have e2 := hE.c2
  have HA : ∀ w : World, Calls Tryz.prog 196 #[.int .u64 (val ((bs.drop pl).take 4)), .int .i64 M] w fun e w' => e = .returned (.bool true) ∧ w' = w := by
    intro w
    rcases Int.lt_or_le M 0 with h | h
    · exact above_neg _ M w h
    · exact above_yes _ M w h hM1 (by omega)
  clear hw
  go_enter Tryz.func208, Tryz.ntmps208
  go_wp2_with (first
    | (go_at_call 146; refine (number_ok rb g n cap pl 4 code bs _ hR hk (by omega) (by omega) hn hby).mono ?_; rintro e w1 ⟨rfl, m0, hw1⟩; subst w1)
    | (go_at_call 196; refine (HA _).mono ?_; rintro e w2 ⟨rfl, hw2⟩; subst w2))
  exact ⟨rfl, rfl, m0, rfl⟩

set_option maxHeartbeats 400000 in
theorem text_short2 (rb g n cap pl k : Nat) (M code : Int) (bs : List Int) (er : Nat → Addr) (w : World) (hR : Rdr w rb g n cap pl code bs) (hE : Errs w er) (hk : pl + 4 ≤ n) (hn : cap ≤ 200000000000000) (hby : ∀ x ∈ bs, 0 ≤ x ∧ x ≤ 255)
    (hM1 : M ≤ 9223372036854775807) (hV : val ((bs.drop pl).take 4) = (k : Int)) (hkb : k ≤ 4294967296) (hkM : (k : Int) ≤ M) (hs : n < pl + (4 + k + padN k)) :
    Calls Tryz.prog 208 #[.pointer (some ⟨rb, 0, none⟩), .int .i64 M] w fun e w' => e = gaveUp (er 4) ∧ ∃ m, w' = w.drewN m := by
  have hp3 := padN_le k
  have hki : (k : Int) ≤ 4294967296 := by omega
  have hpi : (padN k : Int) ≤ 3 := by omega
  have hN := number_ok rb g n cap pl 4 code bs w hR hk (by omega) (by omega) hn hby
  rw [hV] at hN
  clear hV
  go_enter Tryz.func208, Tryz.ntmps208
  go_wp2_with (first
    | (go_at_call 146; refine hN.mono ?_; rintro e w1 ⟨rfl, m0, hw1⟩; subst w1)
    | (go_at_call 196; refine (above_no _ M _ (by omega) hM1 hkM).mono ?_; rintro e w2 ⟨rfl, hw2⟩; subst w2)
    | (go_at_call 209; refine (pad_any k _ (by omega)).mono ?_; rintro e w3 ⟨rfl, hw3⟩; subst w3)
    | (go_at_call 156; refine (ahead_short rb g n cap pl (4 + k + padN k) code bs er _ (hR.drewN m0) (hE.drewN m0) (by omega) hs (by omega) hn).mono ?_; rintro e w4 ⟨rfl, m4, hw4⟩; subst w4))
  exact ⟨rfl, rfl, _, rfl⟩

set_option maxHeartbeats 1000000 in
theorem text_ok (rb g n cap pl k : Nat) (M code : Int) (bs : List Int) (w : World) (hR : Rdr w rb g n cap pl code bs) (hn : cap ≤ 200000000000000) (hby : ∀ x ∈ bs, 0 ≤ x ∧ x ≤ 255)
    (hM1 : M ≤ 9223372036854775807) (hV : val ((bs.drop pl).take 4) = (k : Int)) (hkb : k ≤ 4294967296) (hkM : (k : Int) ≤ M) (hs : pl + (4 + k + padN k) ≤ n)
    (hz : ∀ t, t < padN k → bs.getD (pl + (4 + k) + t) 0 = 0) :
    Calls Tryz.prog 208 #[.pointer (some ⟨rb, 0, none⟩), .int .i64 M] w fun e w' => ∃ q, e = .returned (.slice (some ⟨g, q, none⟩) k (cap - pl - 4)) ∧ (0 < k → q = pl + 4) ∧ ∃ m, w' = (w.drewN m).setCell ⟨rb, 1, none⟩ (.int .i64 ((pl + (4 + k + padN k) : Nat) : Int)) := by
  have hp3 := padN_le k
  have hki : (k : Int) ≤ 4294967296 := by omega
  have hpi : (padN k : Int) ≤ 3 := by omega
  have hnc := hR.lies.hle
  have c1 := hR.c1
  have f1 := hR.f 1
  have hcz : ∀ t, t < padN k → w.cell? ⟨g, pl + (4 + k) + t, none⟩ = some (.int .u8 0) := fun t ht => by rw [hR.byte _ (by omega), hz t ht]
  have hN := number_ok rb g n cap pl 4 code bs w hR (by omega) (by omega) (by omega) hn hby
  rw [hV] at hN
  have hAh := fun m0 => ahead_ok rb g n cap pl (4 + k + padN k) code bs _ (hR.drewN m0) hs (by omega) hn
  obtain ⟨c, hc⟩ : ∃ c, c = cap - pl := ⟨_, rfl⟩
  rw [← hc] at hAh ⊢
  have hcb : 4 + k + padN k ≤ c := by omega
  have hcc : c ≤ 200000000000000 := by omega
  have hpl : (pl : Int) ≤ 200000000000000 := by omega
  clear hV hz hby hR hc
  by_cases hA : 4 + k < c
  · have hA1 : ¬ c = 4 + k := by omega
    have hA2 : ¬ c = 4 := by omega
    go_enter Tryz.func208, Tryz.ntmps208
    go_wp2_with (first
      | (go_at_call 146; refine hN.mono ?_; rintro e w1 ⟨rfl, m0, hw1⟩; subst w1)
      | (go_at_call 196; refine (above_no _ M _ (by omega) hM1 hkM).mono ?_; rintro e w2 ⟨rfl, hw2⟩; subst w2)
      | (go_at_call 209; refine (pad_any k _ (by omega)).mono ?_; rintro e w3 ⟨rfl, hw3⟩; subst w3)
      | (go_at_call 156; refine (hAh m0).mono ?_; rintro e w4 ⟨rfl, m4, hw4⟩; subst w4))
    go_loop [27] (fun i => ∃ t : Nat, t ≤ padN k ∧ i = .int .i64 t) (fun i => padN k - (intOf i).toNat)
    case atStart => exact ⟨0, Nat.zero_le _, rfl⟩
    case round =>
      obtain ⟨t, ht, rfl⟩ := hrel
      by_cases hlt : t < padN k
      · have hct := hcz t hlt
        clear hcz
        go_wp2
        go_round
        case rel => exact ⟨t + 1, by omega, by go_num⟩
        case measure => simp [intOf]; omega
      · clear hcz
        go_wp2
        go_ret
        exact ⟨pl + 4, rfl, fun _ => rfl, m0 + m4, by simp⟩
  · obtain rfl : c = 4 + k := by omega
    have hpz : padN k = 0 := by omega
    have hPd := fun w => pad_any k w (by omega)
    simp only [hpz, Nat.add_zero] at hAh hPd
    clear hcz hA hcb
    by_cases hk0 : k = 0
    · subst hk0
      go_enter Tryz.func208, Tryz.ntmps208
      go_wp2_with (first
        | (go_at_call 146; refine hN.mono ?_; rintro e w1 ⟨rfl, m0, hw1⟩; subst w1)
        | (go_at_call 196; refine (above_no _ M _ (by omega) hM1 hkM).mono ?_; rintro e w2 ⟨rfl, hw2⟩; subst w2)
        | (go_at_call 209; refine (hPd _).mono ?_; rintro e w3 ⟨rfl, hw3⟩; subst w3)
        | (go_at_call 156; refine (hAh m0).mono ?_; rintro e w4 ⟨rfl, m4, hw4⟩; subst w4))
      refine wp_loop_rounds 1 ?_
      rw [rounds_succ]
      go_wp2
      go_ret
      exact ⟨pl, rfl, fun h => absurd h (by omega), m0 + m4, by simp [hpz]⟩
    · go_enter Tryz.func208, Tryz.ntmps208
      go_wp2_with (first
        | (go_at_call 146; refine hN.mono ?_; rintro e w1 ⟨rfl, m0, hw1⟩; subst w1)
        | (go_at_call 196; refine (above_no _ M _ (by omega) hM1 hkM).mono ?_; rintro e w2 ⟨rfl, hw2⟩; subst w2)
        | (go_at_call 209; refine (hPd _).mono ?_; rintro e w3 ⟨rfl, hw3⟩; subst w3)
        | (go_at_call 156; refine (hAh m0).mono ?_; rintro e w4 ⟨rfl, m4, hw4⟩; subst w4))
      refine wp_loop_rounds 1 ?_
      rw [rounds_succ]
      go_wp2
      go_ret
      exact ⟨pl + 4, by rw [show 4 + k - 4 = k by omega]; rfl, fun _ => rfl, m0 + m4, by simp [hpz]⟩

set_option maxHeartbeats 1000000 in
theorem text_pad (rb g n cap pl k : Nat) (M code : Int) (bs : List Int) (er : Nat → Addr) (w : World) (hR : Rdr w rb g n cap pl code bs) (hE : Errs w er) (hn : cap ≤ 200000000000000) (hby : ∀ x ∈ bs, 0 ≤ x ∧ x ≤ 255)
    (hM1 : M ≤ 9223372036854775807) (hV : val ((bs.drop pl).take 4) = (k : Int)) (hkb : k ≤ 4294967296) (hkM : (k : Int) ≤ M) (hs : pl + (4 + k + padN k) ≤ n)
    (hz : ¬ ∀ t, t < padN k → bs.getD (pl + (4 + k) + t) 0 = 0) :
    Calls Tryz.prog 208 #[.pointer (some ⟨rb, 0, none⟩), .int .i64 M] w fun e w' => e = gaveUp (er 3) ∧ ∃ m, w' = w.drewN m := by
  have hp3 := padN_le k
  have hki : (k : Int) ≤ 4294967296 := by omega
  have hpi : (padN k : Int) ≤ 3 := by omega
  have hnc := hR.lies.hle
  have e3 := hE.c3
  have hcz : ∀ t, t < padN k → w.cell? ⟨g, pl + (4 + k) + t, none⟩ = some (.int .u8 (bs.getD (pl + (4 + k) + t) 0)) := fun t ht => hR.byte _ (by omega)
  have hN := number_ok rb g n cap pl 4 code bs w hR (by omega) (by omega) (by omega) hn hby
  rw [hV] at hN
  have hAh := fun m0 => ahead_ok rb g n cap pl (4 + k + padN k) code bs _ (hR.drewN m0) hs (by omega) hn
  obtain ⟨c, hc⟩ : ∃ c, c = cap - pl := ⟨_, rfl⟩
  rw [← hc] at hAh
  have hcb : 4 + k + padN k ≤ c := by omega
  have hcc : c ≤ 200000000000000 := by omega
  have hpl : (pl : Int) ≤ 200000000000000 := by omega
  have hp1 : 0 < padN k := by
    rcases Nat.eq_zero_or_pos (padN k) with h | h
    · exact absurd (fun t ht => by omega) hz
    · exact h
  have hA1 : ¬ c = 4 + k := by omega
  have hA2 : ¬ c = 4 := by omega
  have HZ : Hid (¬ ∀ t, t < padN k → bs.getD (pl + (4 + k) + t) 0 = 0) := hz
  clear hV hz hby hR hc hE
  go_enter Tryz.func208, Tryz.ntmps208
  go_wp2_with (first
    | (go_at_call 146; refine hN.mono ?_; rintro e w1 ⟨rfl, m0, hw1⟩; subst w1)
    | (go_at_call 196; refine (above_no _ M _ (by omega) hM1 hkM).mono ?_; rintro e w2 ⟨rfl, hw2⟩; subst w2)
    | (go_at_call 209; refine (pad_any k _ (by omega)).mono ?_; rintro e w3 ⟨rfl, hw3⟩; subst w3)
    | (go_at_call 156; refine (hAh m0).mono ?_; rintro e w4 ⟨rfl, m4, hw4⟩; subst w4))
  go_loop [27] (fun i => ∃ t : Nat, t ≤ padN k ∧ i = .int .i64 t ∧ Hid (∀ s, s < t → bs.getD (pl + (4 + k) + s) 0 = 0)) (fun i => padN k - (intOf i).toNat)
  case atStart => exact ⟨0, Nat.zero_le _, rfl, fun s hs => absurd hs (by omega)⟩
  case round =>
    obtain ⟨t, ht, rfl, hall⟩ := hrel
    by_cases hlt : t < padN k
    · have hct := hcz t hlt
      clear hcz
      by_cases hC : bs.getD (pl + (4 + k) + t) 0 = 0
      · have hall' : Hid (∀ s, s < t + 1 → bs.getD (pl + (4 + k) + s) 0 = 0) := fun s hs => by
          rcases Nat.lt_or_ge s t with h | h
          · exact hall s h
          · obtain rfl : s = t := by omega
            exact hC
        rw [hC] at hct
        clear hC
        go_wp2
        go_round
        case rel => exact ⟨t + 1, by omega, by go_num, hall'⟩
        case measure => simp [intOf]; omega
      · generalize hCC : bs.getD (pl + (4 + k) + t) 0 = C at *
        have hne : (C != 0) = true := by simpa using hC
        clear hCC hC
        go_wp2
        exact ⟨rfl, rfl, m0 + m4, rfl⟩
    · obtain rfl : t = padN k := by omega
      exact absurd hall HZ.out
end Go.Proofs.YtdkcplndplhblaaGreatDoor
