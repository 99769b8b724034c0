/- The face Sum by its contract. -/
import Derived.Test.YtgpeefedboomoabDoorText
import Derived.Laws.IdiomStrings
namespace Go.Proofs.YtgpeefedboomoabDoor
open Go.RowKit
set_option maxRecDepth 100000

/-- The text of bytes. -/
def txt (l : List Int) : ByteArray := ⟨(l.map (fun x => UInt8.ofNat x.toNat)).toArray⟩
theorem fold_txt : ∀ (l : List Int) (r : ByteArray), l.foldl (fun r n => r.push (UInt8.ofNat n.toNat)) r = ⟨r.data ++ (l.map (fun x => UInt8.ofNat x.toNat)).toArray⟩
  | [], r => by simp
  | b :: l, r => by
    simp only [List.foldl_cons]
    rw [fold_txt l]
    simp [ByteArray.push]
theorem txt_size (l : List Int) : (txt l).size = l.length := by simp [txt, ByteArray.size]
theorem nums_txt (l : List Int) (h : ∀ x ∈ l, 0 ≤ x ∧ x ≤ 255) : nums (txt l) = l := by
  simp only [nums, txt, List.toList_toArray, List.map_map]
  conv => rhs; rw [← List.map_id l]
  apply List.map_congr_left
  intro x hx
  have := h x hx
  simp only [Function.comp, id]
  rw [UInt8.toNat_ofNat_of_lt' (by simp [UInt8.size]; omega)]
  omega

theorem run_string_of (w : World) (a : Addr) (n cap : Nat) (l : List Int) (hL : Lies w (some a) n cap l) : (convert 26 9 (.slice (some a) n cap)).run Tryd.prog w = .ok (.string (txt l)) w := by
  rw [run_convert_bytes_string w 26 9 5 (some a) n cap Tryd.underlying26 Tryd.underlying5 Tryd.underlying9]
  have hl := run_loadCells_list (P := Tryd.prog) w a (l.map (Value.int .u8)) (fun j v hj => hL.hcells a rfl j v hj)
  rw [List.length_map, hL.hlen] at hl
  rw [run_bytesToString w a n cap l hl, fold_txt]
  simp [txt]

/-- A piece of a row. -/
theorem Lies.sub {w : World} {g n cap : Nat} {bs : List Int} (h : Lies w (some ⟨g, 0, none⟩) n cap bs) (q p k c : Nat) (hq : 0 < k → q = p) (hk : p + k ≤ n) (hkc : k ≤ c) : Lies w (some ⟨g, q, none⟩) k c ((bs.drop p).take k) := by
  have hl : ((bs.drop p).take k).length = k := by simp [h.hlen]; omega
  refine ⟨hl, hkc, (fun h => by cases h), fun ad had t u hu => ?_⟩
  obtain rfl := Option.some.inj had
  have ht : t < k := by
    have := (List.getElem?_eq_some_iff.1 hu).1
    simp only [List.length_map, hl] at this
    exact this
  obtain rfl := hq (by omega)
  have := h.hcells _ rfl (q + t) u (by rw [← hu]; simp [ht])
  rw [Addr.add_lit] at this ⊢
  simpa using this

/-- What Text and Bytes read, and where they leave the reader. -/
def rdText (n : Nat) (bs : List Int) (pl : Nat) (code M : Int) : List Int × Nat × Int :=
  if code ≠ 0 then ([], pl, code) else
  if n < pl + 4 then ([], pl, 11) else
  if M < 0 ∨ M < val ((bs.drop pl).take 4) then ([], pl, 14) else
  if n < pl + (4 + (val ((bs.drop pl).take 4)).toNat + padN (val ((bs.drop pl).take 4)).toNat) then ([], pl, 11) else
  if ¬ ∀ t, t < padN (val ((bs.drop pl).take 4)).toNat → bs.getD (pl + (4 + (val ((bs.drop pl).take 4)).toNat) + t) 0 = 0 then ([], pl, 15) else
  ((bs.drop (pl + 4)).take (val ((bs.drop pl).take 4)).toNat, pl + (4 + (val ((bs.drop pl).take 4)).toNat + padN (val ((bs.drop pl).take 4)).toNat), 0)

theorem val4_lt (bs : List Int) (pl : Nat) (hby : ∀ x ∈ bs, 0 ≤ x ∧ x ≤ 255) : 0 ≤ val ((bs.drop pl).take 4) ∧ val ((bs.drop pl).take 4) < 4294967296 := by
  have h := val_bd ((bs.drop pl).take 4) (fun x hx => hby x (List.mem_of_mem_drop (List.mem_of_mem_take hx)))
  refine ⟨h.1, Int.lt_of_lt_of_le h.2 ?_⟩
  have hl : ((bs.drop pl).take 4).length ≤ 4 := List.length_take_le _ _
  have := Nat.pow_le_pow_right (show 0 < 256 by decide) hl
  have e : (256 : Int) ^ ((bs.drop pl).take 4).length = ((256 ^ ((bs.drop pl).take 4).length : Nat) : Int) := by simp
  rw [e]
  omega

/-- What Sum answers, and where it leaves the reader. -/
def rdSum (n : Nat) (bs : List Int) (pl : Nat) (code : Int) : Int × Nat × Int :=
  if code ≠ 0 then (0, pl, code) else if n < pl + 8 then (0, pl, 11) else (val ((bs.drop pl).take 8), pl + 8, 0)
/-- What Flag answers, and where it leaves the reader. -/
def rdFlag (n : Nat) (bs : List Int) (pl : Nat) (code : Int) : Bool × Nat × Int :=
  if code ≠ 0 then (false, pl, code) else if n < pl + 4 then (false, pl, 11) else if 1 < val ((bs.drop pl).take 4) then (false, pl, 13) else (val ((bs.drop pl).take 4) == 1, pl + 4, 0)

set_option maxHeartbeats 400000 in
theorem sum_held (rb g n cap : Nat) (pl code : Int) (bs : List Int) (w : World) (hR : Rdr w rb g n cap pl code bs) (hc : (code != 0) = true) :
    Calls Tryd.prog 50 #[.pointer (some ⟨rb, 0, none⟩)] w fun e w' => e = .returned (.int .u64 0) ∧ Went w w' rb g n cap pl code bs := by
  have c2 := (hR.alloc (.cells #[.pointer (some ⟨rb, 0, none⟩)] 81)).c2
  have fin := went_held hR
  clear hR
  go_enter_defers Tryd.func50, Tryd.ntmps50
  go_wp2
  exact ⟨_, results_tmp rfl _ _ _, rfl, fin⟩

set_option maxHeartbeats 400000 in
theorem sum_short (rb g n cap pl : Nat) (bs : List Int) (er : Nat → Addr) (w : World) (hR : Rdr w rb g n cap pl 0 bs) (hE : Errs w er) (hp : pl ≤ n) (hk : n < pl + 8) (hn : cap ≤ 200000000000000) :
    Calls Tryd.prog 50 #[.pointer (some ⟨rb, 0, none⟩)] w fun e w' => e = .returned (.int .u64 0) ∧ Went w w' rb g n cap pl 11 bs := by
  have hmf : ∀ (fn : Fn) (first cap : Array Value) (w : World), (Instr.makeFunc fn first cap).run Tryd.prog w = .ok (.func fn first cap) w := fun _ _ _ _ => rfl
  have hR0 := hR.alloc (.cells #[.pointer (some ⟨rb, 0, none⟩)] 81)
  have hE0 := hE.alloc (.cells #[.pointer (some ⟨rb, 0, none⟩)] 81)
  have c2 := hR0.c2
  go_enter_defers Tryd.func50, Tryd.ntmps50
  go_wp2_with (go_at_call 60; refine (number_short rb g n cap pl 8 0 bs er _ hR0 hE0 hp hk (by omega) hn).mono ?_; rintro e w1 ⟨rfl, m0, hw1⟩; subst w1)
  refine leaves_cons (f := 58) (args := #[.pointer (some ⟨w.heap.size, 0, none⟩)]) (by simp) (by simp [go_sem]) ?_
  refine (catch43_err 4 (by omega) ⟨w.heap.size, 0, none⟩ rb g n cap pl 0 bs er [] _ ?_ (hR0.drewN m0) (hE0.drewN m0)).mono ?_
  · simp [go_sem]
  rintro e u' w'' ⟨rfl, rfl, rfl⟩
  exact ⟨_, results_tmp rfl _ _ _, rfl, went_err hR m0 11⟩

set_option maxHeartbeats 400000 in
theorem sum_ok (rb g n cap pl : Nat) (bs : List Int) (w : World) (hR : Rdr w rb g n cap pl 0 bs) (hk : pl + 8 ≤ n) (hn : cap ≤ 200000000000000) (hby : ∀ x ∈ bs, 0 ≤ x ∧ x ≤ 255) :
    Calls Tryd.prog 50 #[.pointer (some ⟨rb, 0, none⟩)] w fun e w' => e = .returned (.int .u64 (val ((bs.drop pl).take 8))) ∧ Went w w' rb g n cap (pl + 8 : Nat) 0 bs := by
  have hmf : ∀ (fn : Fn) (first cap : Array Value) (w : World), (Instr.makeFunc fn first cap).run Tryd.prog w = .ok (.func fn first cap) w := fun _ _ _ _ => rfl
  have hR0 := hR.alloc (.cells #[.pointer (some ⟨rb, 0, none⟩)] 81)
  have c1 := hR0.c1
  have c2 := hR0.c2
  have f1 := hR0.f 1
  have hnc := hR.lies.hle
  have hpi : (pl : Int) ≤ 200000000000000 := by omega
  have hB := number_ok rb g n cap pl 8 0 bs _ hR0 hk (by omega) (by omega) hn hby
  generalize hV : val ((bs.drop pl).take 8) = V at *
  clear hV hby
  go_enter_defers Tryd.func50, Tryd.ntmps50
  go_wp2_with (go_at_call 60; refine hB.mono ?_; rintro e w1 ⟨rfl, m0, hw1⟩; subst w1)
  refine leaves_cons (f := 58) (args := #[.pointer (some ⟨w.heap.size, 0, none⟩)]) (by simp) (by simp [go_sem]) ?_
  refine (catch43_idle ⟨w.heap.size, 0, none⟩ rb _ ?_).mono ?_
  · have hlt := hR.lt
    exact (World.cell?_setCell_other _ _ _ _ (ne_block (Nat.ne_of_lt hlt))).trans (by simp [go_sem])
  rintro e u' w'' ⟨rfl, rfl, rfl⟩
  exact ⟨_, results_tmp rfl _ _ _, rfl, went_ok hR m0 _⟩

theorem sum_any (rb g n cap pl : Nat) (code : Int) (bs : List Int) (er : Nat → Addr) (w : World) (hR : Rdr w rb g n cap pl code bs) (hE : Errs w er) (hp : pl ≤ n) (hn : cap ≤ 200000000000000) (hby : ∀ x ∈ bs, 0 ≤ x ∧ x ≤ 255) :
    Calls Tryd.prog 50 #[.pointer (some ⟨rb, 0, none⟩)] w fun e w' => e = .returned (.int .u64 (rdSum n bs pl code).1) ∧ Went w w' rb g n cap (rdSum n bs pl code).2.1 (rdSum n bs pl code).2.2 bs := by
  unfold rdSum
  by_cases hc : code ≠ 0
  · simp only [if_pos hc]
    exact sum_held rb g n cap pl code bs w hR (by simpa using hc)
  · have hc0 : code = 0 := by omega
    subst hc0
    simp only [if_neg hc]
    by_cases hk : n < pl + 8
    · simp only [if_pos hk]
      exact sum_short rb g n cap pl bs er w hR hE hp hk hn
    · simp only [if_neg hk]
      exact sum_ok rb g n cap pl bs w hR (by omega) hn hby
end Go.Proofs.YtgpeefedboomoabDoor
