/- The faces Text, Bytes and Close by their contracts. -/
import Derived.Test.YtjpaooejkbkliabDoorFaces
namespace Go.Proofs.YtjpaooejkbkliabDoor
open Go.RowKit
set_option maxRecDepth 100000

set_option maxHeartbeats 400000 in
theorem text17_held (rb g n cap : Nat) (pl code M : Int) (bs : List Int) (w : World) (hR : Rdr w rb g n cap pl code bs) (hc : (code != 0) = true) :
    Calls Tryd.prog 24 #[.pointer (some ⟨rb, 0, none⟩), .int .i64 M] w fun e w' => e = .returned (.string (txt [])) ∧ Went w w' rb g n cap pl code bs := by
  have c2 := (hR.alloc (.cells #[.pointer (some ⟨rb, 0, none⟩)] 26)).c2
  have fin := went_held hR
  clear hR
  go_enter_defers Tryd.func24, Tryd.ntmps24
  go_wp2
  exact ⟨_, results_tmp rfl _ _ _, rfl, fin⟩

set_option maxHeartbeats 400000 in
theorem text17_gave (i : Nat) (hi : i < 5) (rb g n cap : Nat) (pl M : Int) (bs : List Int) (er : Nat → Addr) (w : World) (hR : Rdr w rb g n cap pl 0 bs) (hE : Errs w er)
    (hT : Calls Tryd.prog 46 #[.pointer (some ⟨rb, 0, none⟩), .int .i64 M] (boxed w rb) fun e w' => e = gaveUp (er i) ∧ ∃ m, w' = (boxed w rb).drewN m) :
    Calls Tryd.prog 24 #[.pointer (some ⟨rb, 0, none⟩), .int .i64 M] w fun e w' => e = .returned (.string (txt [])) ∧ Went w w' rb g n cap pl (codeNo i) bs := by
  have hmf : ∀ (fn : Fn) (first cap : Array Value) (w : World), (Instr.makeFunc fn first cap).run Tryd.prog w = .ok (.func fn first cap) w := fun _ _ _ _ => rfl
  have hR0 := hR.alloc (.cells #[.pointer (some ⟨rb, 0, none⟩)] 26)
  have hE0 := hE.alloc (.cells #[.pointer (some ⟨rb, 0, none⟩)] 26)
  have c2 := hR0.c2
  go_enter_defers Tryd.func24, Tryd.ntmps24
  go_wp2_with (go_at_call 46; refine hT.mono ?_; rintro e w1 ⟨rfl, m0, hw1⟩; subst w1)
  refine leaves_cons (f := 45) (args := #[.pointer (some ⟨w.heap.size, 0, none⟩)]) (by simp) (by simp [go_sem]) ?_
  refine (catch45_err i hi ⟨w.heap.size, 0, none⟩ rb g n cap pl 0 bs er [] _ ?_ (hR0.drewN m0) (hE0.drewN m0)).mono ?_
  · simp [go_sem]
  rintro e u' w'' ⟨rfl, rfl, rfl⟩
  exact ⟨_, results_tmp rfl _ _ _, rfl, went_err hR m0 _⟩

set_option maxHeartbeats 400000 in
theorem text17_done (rb g n cap pl k p' : Nat) (M : Int) (bs : List Int) (w : World) (hR : Rdr w rb g n cap pl 0 bs) (hk : pl + 4 + k ≤ n)
    (hT : Calls Tryd.prog 46 #[.pointer (some ⟨rb, 0, none⟩), .int .i64 M] (boxed w rb) fun e w' => ∃ q, e = .returned (.slice (some ⟨g, q, none⟩) k (cap - pl - 4)) ∧ (0 < k → q = pl + 4) ∧ ∃ m, w' = ((boxed w rb).drewN m).setCell ⟨rb, 1, none⟩ (.int .i64 (p' : Int))) :
    Calls Tryd.prog 24 #[.pointer (some ⟨rb, 0, none⟩), .int .i64 M] w fun e w' => e = .returned (.string (txt ((bs.drop (pl + 4)).take k))) ∧ Went w w' rb g n cap p' 0 bs := by
  have hmf : ∀ (fn : Fn) (first cap : Array Value) (w : World), (Instr.makeFunc fn first cap).run Tryd.prog w = .ok (.func fn first cap) w := fun _ _ _ _ => rfl
  have hR0 := hR.alloc (.cells #[.pointer (some ⟨rb, 0, none⟩)] 26)
  have c2 := hR0.c2
  have hnc := hR.lies.hle
  go_enter_defers Tryd.func24, Tryd.ntmps24
  go_wp2_with (go_at_call 46; refine hT.mono ?_; rintro e w1 ⟨q, rfl, hq, m0, hw1⟩; subst w1; have hcv := run_string_of _ ⟨g, q, none⟩ k (cap - pl - 4) _ ((((hR0.drewN m0).set1 (p' : Int)).lies).sub q (pl + 4) k (cap - pl - 4) hq hk (by omega)))
  refine leaves_cons (f := 45) (args := #[.pointer (some ⟨w.heap.size, 0, none⟩)]) (by simp) (by simp [go_sem]) ?_
  refine (catch45_idle ⟨w.heap.size, 0, none⟩ rb _ ?_).mono ?_
  · have hlt := hR.lt
    exact (World.cell?_setCell_other _ _ _ _ (ne_block (Nat.ne_of_lt hlt))).trans (by simp [go_sem])
  rintro e u' w'' ⟨rfl, rfl, rfl⟩
  exact ⟨_, results_tmp rfl _ _ _, rfl, went_ok hR m0 _⟩

theorem text17_any (rb g n cap pl : Nat) (code M : Int) (bs : List Int) (er : Nat → Addr) (w : World) (hR : Rdr w rb g n cap pl code bs) (hE : Errs w er) (hp : pl ≤ n) (hn : cap ≤ 200000000000000) (hby : ∀ x ∈ bs, 0 ≤ x ∧ x ≤ 255) (hM1 : M ≤ 9223372036854775807) :
    Calls Tryd.prog 24 #[.pointer (some ⟨rb, 0, none⟩), .int .i64 M] w fun e w' => e = .returned (.string (txt (rdText n bs pl code M).1)) ∧ Went w w' rb g n cap (rdText n bs pl code M).2.1 (rdText n bs pl code M).2.2 bs := by
  by_cases hc : code ≠ 0
  · unfold rdText
    simp only [if_pos hc]
    exact text17_held rb g n cap pl code M bs w hR (by simpa using hc)
  · obtain rfl : code = 0 := by omega
    rcases text_any rb g n cap pl M bs er (boxed w rb) (hR.alloc _) (hE.alloc _) hp hn hby hM1 with ⟨i, hi, e, hT⟩ | ⟨k, p', e, h1, h2, hT⟩
    · rw [e]
      exact text17_gave i hi rb g n cap pl M bs er w hR hE hT
    · rw [e]
      exact text17_done rb g n cap pl k p' M bs w hR h1 hT

set_option maxHeartbeats 400000 in
theorem bytes_held (rb g n cap : Nat) (pl code M : Int) (bs : List Int) (w : World) (hR : Rdr w rb g n cap pl code bs) (hc : (code != 0) = true) :
    Calls Tryd.prog 26 #[.pointer (some ⟨rb, 0, none⟩), .int .i64 M] w fun e w' => e = .returned (.slice none 0 0) ∧ Went w w' rb g n cap pl code bs := by
  have c2 := (hR.alloc (.cells #[.pointer (some ⟨rb, 0, none⟩)] 26)).c2
  have fin := went_held hR
  clear hR
  go_enter_defers Tryd.func26, Tryd.ntmps26
  go_wp2
  exact ⟨_, results_tmp rfl _ _ _, rfl, fin⟩

set_option maxHeartbeats 400000 in
theorem bytes_gave (i : Nat) (hi : i < 5) (rb g n cap : Nat) (pl M : Int) (bs : List Int) (er : Nat → Addr) (w : World) (hR : Rdr w rb g n cap pl 0 bs) (hE : Errs w er)
    (hT : Calls Tryd.prog 46 #[.pointer (some ⟨rb, 0, none⟩), .int .i64 M] (boxed w rb) fun e w' => e = gaveUp (er i) ∧ ∃ m, w' = (boxed w rb).drewN m) :
    Calls Tryd.prog 26 #[.pointer (some ⟨rb, 0, none⟩), .int .i64 M] w fun e w' => e = .returned (.slice none 0 0) ∧ Went w w' rb g n cap pl (codeNo i) bs := by
  have hmf : ∀ (fn : Fn) (first cap : Array Value) (w : World), (Instr.makeFunc fn first cap).run Tryd.prog w = .ok (.func fn first cap) w := fun _ _ _ _ => rfl
  have hR0 := hR.alloc (.cells #[.pointer (some ⟨rb, 0, none⟩)] 26)
  have hE0 := hE.alloc (.cells #[.pointer (some ⟨rb, 0, none⟩)] 26)
  have c2 := hR0.c2
  go_enter_defers Tryd.func26, Tryd.ntmps26
  go_wp2_with (go_at_call 46; refine hT.mono ?_; rintro e w1 ⟨rfl, m0, hw1⟩; subst w1)
  refine leaves_cons (f := 47) (args := #[.pointer (some ⟨w.heap.size, 0, none⟩)]) (by simp) (by simp [go_sem]) ?_
  refine (catch47_err i hi ⟨w.heap.size, 0, none⟩ rb g n cap pl 0 bs er [] _ ?_ (hR0.drewN m0) (hE0.drewN m0)).mono ?_
  · simp [go_sem]
  rintro e u' w'' ⟨rfl, rfl, rfl⟩
  exact ⟨_, results_tmp rfl _ _ _, rfl, went_err hR m0 _⟩

/-- What Bytes hands out: nil, or a row of its own. -/
def Handed (w : World) (e : Ending) (w' : World) (l : List Int) : Prop :=
  ∃ ao c, e = .returned (.slice ao l.length c) ∧ w'.ownsRow w.heap.size 5 1 (.slice ao l.length c) l.length (l.map (Value.int .u8))

set_option maxHeartbeats 400000 in
theorem bytes_done (rb g n cap pl k p' : Nat) (M : Int) (bs : List Int) (w : World) (hR : Rdr w rb g n cap pl 0 bs) (hk : pl + 4 + k ≤ n) (hn : cap ≤ 200000000000000)
    (hT : Calls Tryd.prog 46 #[.pointer (some ⟨rb, 0, none⟩), .int .i64 M] (boxed w rb) fun e w' => ∃ q, e = .returned (.slice (some ⟨g, q, none⟩) k (cap - pl - 4)) ∧ (0 < k → q = pl + 4) ∧ ∃ m, w' = ((boxed w rb).drewN m).setCell ⟨rb, 1, none⟩ (.int .i64 (p' : Int))) :
    Calls Tryd.prog 26 #[.pointer (some ⟨rb, 0, none⟩), .int .i64 M] w fun e w' => Handed w e w' ((bs.drop (pl + 4)).take k) ∧ Went w w' rb g n cap p' 0 bs := by
  obtain ⟨i0, hi, hz0, hz1, hz2⟩ := info_parts Tryd.info5
  have hmf : ∀ (fn : Fn) (first cap : Array Value) (w : World), (Instr.makeFunc fn first cap).run Tryd.prog w = .ok (.func fn first cap) w := fun _ _ _ _ => rfl
  have hR0 := hR.alloc (.cells #[.pointer (some ⟨rb, 0, none⟩)] 26)
  have c2 := hR0.c2
  have hnc := hR.lies.hle
  have hlt := hR.lt
  have hll : ((bs.drop (pl + 4)).take k).length = k := by simp [hR.lies.hlen]; omega
  obtain ⟨L, hL⟩ : ∃ L, L = (bs.drop (pl + 4)).take k := ⟨_, rfl⟩
  have HL : ∀ {W : World} {q : Nat}, Rdr W rb g n cap p' 0 bs → (0 < k → q = pl + 4) → Lies W (some ⟨g, q, none⟩) k (cap - pl - 4) L := fun h hq => by rw [hL]; exact h.lies.sub _ (pl + 4) k _ hq hk (by omega)
  rw [← hL] at hll ⊢
  clear hL
  go_enter_defers Tryd.func26, Tryd.ntmps26
  go_wp2_with fail
  refine hT.mono ?_
  rintro e w1 ⟨q, rfl, hq, m0, hw1⟩
  obtain ⟨hR1, hg1⟩ : Rdr w1 rb g n cap p' 0 bs ∧ w.grownBy w1 (some rb) := by
    subst hw1
    exact ⟨(hR0.drewN m0).set1 _, grown_trans (grown_trans (boxed_grown _ _ _) (grown_drewN _ m0 _)) (grown_setCell _ _ _ _)⟩
  have hp1 : w1.cell? ⟨w.heap.size, 0, none⟩ = some (.pointer (some ⟨rb, 0, none⟩)) := by
    subst hw1
    exact (World.cell?_setCell_other _ _ _ _ (ne_block (Nat.ne_of_lt hlt))).trans (by simp [go_sem])
  have hL1 := HL hR1 hq
  clear hw1 HL
  go_wp2_with (first
    | (at_make; refine wpList_make_own _ rfl _ _ 22 rfl w1.heap.size 5 i0 (.int .u8 0) 1 Tryd.underlying22 hi hz0 hz1 _ _ _ k rfl rfl (by omega) (by rw [hz2]; omega) (by unfold maxLen; omega) (Nat.le_refl _) ?_; intro w2 hown2 hgrow2)
    | (at_builtin; refine wpList_append_fits_any _ rfl (.tmp 17) (.tmp 18) 22 rfl w1.heap.size 5 i0 1 Tryd.underlying22 hi hz1 w1.heap.size 0 k _ rfl hown2 _ k _ (L.map (Value.int .u8)) rfl (by simp [hll]) hL1.hnone (fun ad had t u hu => hgrow2.cell (hL1.hcells ad had t u hu) (by simp)) (ints_oneCell _ _) (by omega) ?_; intro w3 hown3 hgrow3; simp only [Nat.zero_add, List.nil_append] at hown3))
  have hlt1 := hR1.lt
  have hltp := World.block_lt_of_cell? _ _ hp1
  have hg3 : w1.grownBy w3 none := ⟨hgrow3.os.trans hgrow2.os, hgrow3.tape.trans hgrow2.tape, hgrow3.output.trans hgrow2.output, Nat.le_trans hgrow2.size hgrow3.size, fun k hk _ => (hgrow3.block k (Nat.lt_of_lt_of_le hk hgrow2.size) (by simp; omega)).trans (hgrow2.block k hk (by simp))⟩
  refine leaves_cons (f := 47) (args := #[.pointer (some ⟨w.heap.size, 0, none⟩)]) (by simp) (by simp [go_sem]) ?_
  refine (catch47_idle ⟨w.heap.size, 0, none⟩ rb _ (hg3.cell hp1 (by simp))).mono ?_
  rintro e u' w'' ⟨rfl, rfl, rfl⟩
  refine ⟨_, results_tmp rfl _ _ _, ⟨some ⟨w1.heap.size, 0, none⟩, k, ?_, ?_⟩, (hR1.kept hg3 (by simp) (by simp)).drew, ?_⟩
  · rw [hll]; simp
  · rw [hll]; exact ownsRow_mono (World.ownsRow.drew hown3) hg1.size
  · exact ⟨hg3.os.trans hg1.os, hg3.tape.trans hg1.tape, hg3.output.trans hg1.output, Nat.le_trans hg1.size hg3.size, fun k hk hne => (hg3.block k (Nat.lt_of_lt_of_le hk hg1.size) (by simp)).trans (hg1.block k hk hne)⟩

theorem handed_nil (w w' : World) : Handed w (.returned (.slice none 0 0)) w' [] := ⟨none, 0, rfl, World.ownsRow_nil _ _ _ _⟩

theorem bytes_any (rb g n cap pl : Nat) (code M : Int) (bs : List Int) (er : Nat → Addr) (w : World) (hR : Rdr w rb g n cap pl code bs) (hE : Errs w er) (hp : pl ≤ n) (hn : cap ≤ 200000000000000) (hby : ∀ x ∈ bs, 0 ≤ x ∧ x ≤ 255) (hM1 : M ≤ 9223372036854775807) :
    Calls Tryd.prog 26 #[.pointer (some ⟨rb, 0, none⟩), .int .i64 M] w fun e w' => Handed w e w' (rdText n bs pl code M).1 ∧ Went w w' rb g n cap (rdText n bs pl code M).2.1 (rdText n bs pl code M).2.2 bs := by
  by_cases hc : code ≠ 0
  · unfold rdText
    simp only [if_pos hc]
    refine (bytes_held rb g n cap pl code M bs w hR (by simpa using hc)).mono ?_
    rintro e w' ⟨rfl, h⟩
    exact ⟨handed_nil _ _, h⟩
  · obtain rfl : code = 0 := by omega
    rcases text_any rb g n cap pl M bs er (boxed w rb) (hR.alloc _) (hE.alloc _) hp hn hby hM1 with ⟨i, hi, e, hT⟩ | ⟨k, p', e, h1, h2, hT⟩
    · rw [e]
      refine (bytes_gave i hi rb g n cap pl M bs er w hR hE hT).mono ?_
      rintro e w' ⟨rfl, h⟩
      exact ⟨handed_nil _ _, h⟩
    · rw [e]
      exact bytes_done rb g n cap pl k p' M bs w hR h1 hn hT

/-- What Close answers and keeps. -/
def rdClose (n pl : Nat) (code : Int) : Int := if code = 0 ∧ pl < n then 16 else code

set_option maxHeartbeats 400000 in
theorem close_any (rb g n cap pl : Nat) (code : Int) (bs : List Int) (w : World) (hR : Rdr w rb g n cap pl code bs) :
    Calls Tryd.prog 30 #[.pointer (some ⟨rb, 0, none⟩)] w fun e w' => e = .returned (.int .i64 (rdClose n pl code)) ∧ Went w w' rb g n cap pl (rdClose n pl code) bs := by
  have c0 := hR.c0
  have c1 := hR.c1
  have c2 := hR.c2
  have f2 := hR.f 2
  unfold rdClose
  by_cases hc : code = 0
  · subst hc
    by_cases hp : pl < n
    · rw [if_pos ⟨rfl, hp⟩]
      have hpi : decide ((pl : Int) < (n : Int)) = true := by simpa using hp
      go_enter Tryd.func30, Tryd.ntmps30
      go_wp2
      go_quiet (fail)
      go_wp2
      go_ret
      exact ⟨rfl, (hR.drewN _).set2 16, grown_trans (grown_drewN _ _ _) (grown_setCell _ _ _ _)⟩
    · rw [if_neg (fun h => hp h.2)]
      have hpi : decide ((pl : Int) < (n : Int)) = false := by simpa using hp
      go_enter Tryd.func30, Tryd.ntmps30
      go_wp2
      go_quiet (fail)
      go_wp2
      go_ret
      exact ⟨rfl, hR.drewN _, grown_drewN _ _ _⟩
  · rw [if_neg (fun h => hc h.1)]
    have hcb : (code == 0) = false := by simpa using hc
    go_enter Tryd.func30, Tryd.ntmps30
    go_wp2
    go_quiet (fail)
    go_wp2
    go_ret
    exact ⟨rfl, hR.drewN _, grown_drewN _ _ _⟩
end Go.Proofs.YtjpaooejkbkliabDoor
