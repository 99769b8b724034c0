/- The faces Sum, Flag, Text, Bytes and Close by their contracts. -/
import Derived.Test.YtdkcplndplhblaaGreatDoorPk02
import Derived.Laws.IdiomStrings
import Derived.Deep.DeepAppendWide
import Derived.Laws.OwnMore
namespace Go.Proofs.YtdkcplndplhblaaGreatDoor
open Go.RowKit
set_option maxRecDepth 100000

/-- The text of bytes. -/
def txt (l : List Int) : ByteArray := ⟨(l.map (fun x => UInt8.ofNat x.toNat)).toArray⟩
theorem fold_txt : ∀ (l : List Int) (r : ByteArray), l.foldl (fun r n => r.push (UInt8.ofNat n.toNat)) r = ⟨r.data ++ (l.map (fun x => UInt8.ofNat x.toNat)).toArray⟩
  | [], r => by simp
  | b :: l, r => by
    simp only [List.foldl_cons]
    rw [fold_txt l]
    simp [ByteArray.push]
theorem txt_size (l : List Int) : (txt l).size = l.length := by simp [txt, ByteArray.size]
theorem nums_txt (l : List Int) (h : ∀ x ∈ l, 0 ≤ x ∧ x ≤ 255) : nums (txt l) = l := by
  simp only [nums, txt, List.toList_toArray, List.map_map]
  conv => rhs; rw [← List.map_id l]
  apply List.map_congr_left
  intro x hx
  have := h x hx
  simp only [Function.comp, id]
  rw [UInt8.toNat_ofNat_of_lt' (by simp [UInt8.size]; omega)]
  omega

theorem run_string_of (w : World) (a : Addr) (n cap : Nat) (l : List Int) (hL : Lies w (some a) n cap l) : (convert 22 9 (.slice (some a) n cap)).run Tryz.prog w = .ok (.string (txt l)) w := by
  rw [run_convert_bytes_string w 22 9 5 (some a) n cap Tryz.underlying22 Tryz.underlying5 Tryz.underlying9]
  have hl := run_loadCells_list (P := Tryz.prog) w a (l.map (Value.int .u8)) (fun j v hj => hL.hcells a rfl j v hj)
  rw [List.length_map, hL.hlen] at hl
  rw [run_bytesToString w a n cap l hl, fold_txt]
  simp [txt]

/-- A piece of a row. -/
theorem Lies.sub {w : World} {g n cap : Nat} {bs : List Int} (h : Lies w (some ⟨g, 0, none⟩) n cap bs) (q p k c : Nat) (hq : 0 < k → q = p) (hk : p + k ≤ n) (hkc : k ≤ c) : Lies w (some ⟨g, q, none⟩) k c ((bs.drop p).take k) := by
  have hl : ((bs.drop p).take k).length = k := by simp [h.hlen]; omega
  refine ⟨hl, hkc, (fun h => by cases h), fun ad had t u hu => ?_⟩
  obtain rfl := Option.some.inj had
  have ht : t < k := by
    have := (List.getElem?_eq_some_iff.1 hu).1
    simp only [List.length_map, hl] at this
    exact this
  obtain rfl := hq (by omega)
  have := h.hcells _ rfl (q + t) u (by rw [← hu]; simp [ht])
  rw [Addr.add_lit] at this ⊢
  simpa using this

/-- What Text and Bytes read, and where they leave the reader. -/
def rdText (n : Nat) (bs : List Int) (pl : Nat) (code M : Int) : List Int × Nat × Int :=
  if code ≠ 0 then ([], pl, code) else
  if n < pl + 4 then ([], pl, 11) else
  if M < 0 ∨ M < val ((bs.drop pl).take 4) then ([], pl, 14) else
  if n < pl + (4 + (val ((bs.drop pl).take 4)).toNat + padN (val ((bs.drop pl).take 4)).toNat) then ([], pl, 11) else
  if ¬ ∀ t, t < padN (val ((bs.drop pl).take 4)).toNat → bs.getD (pl + (4 + (val ((bs.drop pl).take 4)).toNat) + t) 0 = 0 then ([], pl, 15) else
  ((bs.drop (pl + 4)).take (val ((bs.drop pl).take 4)).toNat, pl + (4 + (val ((bs.drop pl).take 4)).toNat + padN (val ((bs.drop pl).take 4)).toNat), 0)

theorem val4_lt (bs : List Int) (pl : Nat) (hby : ∀ x ∈ bs, 0 ≤ x ∧ x ≤ 255) : 0 ≤ val ((bs.drop pl).take 4) ∧ val ((bs.drop pl).take 4) < 4294967296 := by
  have h := val_bd ((bs.drop pl).take 4) (fun x hx => hby x (List.mem_of_mem_drop (List.mem_of_mem_take hx)))
  refine ⟨h.1, Int.lt_of_lt_of_le h.2 ?_⟩
  have hl : ((bs.drop pl).take 4).length ≤ 4 := List.length_take_le _ _
  have := Nat.pow_le_pow_right (show 0 < 256 by decide) hl
  have e : (256 : Int) ^ ((bs.drop pl).take 4).length = ((256 ^ ((bs.drop pl).take 4).length : Nat) : Int) := by simp
  rw [e]
  omega

/-- text either gives up, with the error that the face keeps, or answers a piece of the reader's own memory. -/
theorem text_any (rb g n cap pl : Nat) (M : Int) (bs : List Int) (er : Nat → Addr) (w : World) (hR : Rdr w rb g n cap pl 0 bs) (hE : Errs w er) (hp : pl ≤ n) (hn : cap ≤ 200000000000000) (hby : ∀ x ∈ bs, 0 ≤ x ∧ x ≤ 255) (hM1 : M ≤ 9223372036854775807) :
    (∃ i, i < 5 ∧ rdText n bs pl 0 M = ([], pl, codeNo i) ∧ Calls Tryz.prog 208 #[.pointer (some ⟨rb, 0, none⟩), .int .i64 M] w fun e w' => e = gaveUp (er i) ∧ ∃ m, w' = w.drewN m) ∨
    (∃ k p', rdText n bs pl 0 M = ((bs.drop (pl + 4)).take k, p', 0) ∧ pl + 4 + k ≤ n ∧ p' ≤ n ∧ Calls Tryz.prog 208 #[.pointer (some ⟨rb, 0, none⟩), .int .i64 M] w fun e w' => ∃ q, e = .returned (.slice (some ⟨g, q, none⟩) k (cap - pl - 4)) ∧ (0 < k → q = pl + 4) ∧ ∃ m, w' = (w.drewN m).setCell ⟨rb, 1, none⟩ (.int .i64 (p' : Int))) := by
  have hv := val4_lt bs pl hby
  unfold rdText
  simp only [ne_eq, not_true_eq_false, if_false]
  by_cases h1 : n < pl + 4
  · exact .inl ⟨4, by omega, by rw [if_pos h1]; rfl, text_short rb g n cap pl M 0 bs er w hR hE hp h1 hn⟩
  · rw [if_neg h1]
    by_cases h2 : M < 0 ∨ M < val ((bs.drop pl).take 4)
    · exact .inl ⟨2, by omega, by rw [if_pos h2]; rfl, text_long rb g n cap pl M 0 bs er w hR hE (by omega) hn hby hM1 h2⟩
    · rw [if_neg h2]
      obtain ⟨k, hk⟩ := Int.eq_ofNat_of_zero_le hv.1
      rw [hk] at hv h2 ⊢
      simp only [Int.toNat_natCast]
      by_cases h3 : n < pl + (4 + k + padN k)
      · exact .inl ⟨4, by omega, by rw [if_pos h3]; rfl, text_short2 rb g n cap pl k M 0 bs er w hR hE (by omega) hn hby hM1 hk (by omega) (by omega) h3⟩
      · rw [if_neg h3]
        by_cases h4 : ∀ t, t < padN k → bs.getD (pl + (4 + k) + t) 0 = 0
        · rw [if_neg (fun h => h h4)]
          exact .inr ⟨k, _, rfl, by omega, by omega, text_ok rb g n cap pl k M 0 bs w hR hn hby hM1 hk (by omega) (by omega) (by omega) h4⟩
        · exact .inl ⟨3, by omega, by rw [if_pos h4]; rfl, text_pad rb g n cap pl k M 0 bs er w hR hE hn hby hM1 hk (by omega) (by omega) (by omega) h4⟩

/-- What Sum answers, and where it leaves the reader. -/
def rdSum (n : Nat) (bs : List Int) (pl : Nat) (code : Int) : Int × Nat × Int :=
  if code ≠ 0 then (0, pl, code) else if n < pl + 8 then (0, pl, 11) else (val ((bs.drop pl).take 8), pl + 8, 0)
/-- What Flag answers, and where it leaves the reader. -/
def rdFlag (n : Nat) (bs : List Int) (pl : Nat) (code : Int) : Bool × Nat × Int :=
  if code ≠ 0 then (false, pl, code) else if n < pl + 4 then (false, pl, 11) else if 1 < val ((bs.drop pl).take 4) then (false, pl, 13) else (val ((bs.drop pl).take 4) == 1, pl + 4, 0)

set_option maxHeartbeats 400000 in
theorem sum_held (rb g n cap : Nat) (pl code : Int) (bs : List Int) (w : World) (hR : Rdr w rb g n cap pl code bs) (hc : (code != 0) = true) :
    Calls Tryz.prog 127 #[.pointer (some ⟨rb, 0, none⟩)] w fun e w' => e = .returned (.int .u64 0) ∧ Went w w' rb g n cap pl code bs := by
  have c2 := (hR.alloc (.cells #[.pointer (some ⟨rb, 0, none⟩)] 92)).c2
  have fin := went_held hR
  clear hR
  go_enter_defers Tryz.func127, Tryz.ntmps127
  go_wp2
  exact ⟨_, results_tmp rfl _ _ _, rfl, fin⟩

set_option maxHeartbeats 400000 in
theorem sum_short (rb g n cap pl : Nat) (bs : List Int) (er : Nat → Addr) (w : World) (hR : Rdr w rb g n cap pl 0 bs) (hE : Errs w er) (hp : pl ≤ n) (hk : n < pl + 8) (hn : cap ≤ 200000000000000) :
    Calls Tryz.prog 127 #[.pointer (some ⟨rb, 0, none⟩)] w fun e w' => e = .returned (.int .u64 0) ∧ Went w w' rb g n cap pl 11 bs := by
  have hmf : ∀ (fn : Fn) (first cap : Array Value) (w : World), (Instr.makeFunc fn first cap).run Tryz.prog w = .ok (.func fn first cap) w := fun _ _ _ _ => rfl
  have hR0 := hR.alloc (.cells #[.pointer (some ⟨rb, 0, none⟩)] 92)
  have hE0 := hE.alloc (.cells #[.pointer (some ⟨rb, 0, none⟩)] 92)
  have c2 := hR0.c2
  go_enter_defers Tryz.func127, Tryz.ntmps127
  go_wp2_with (go_at_call 146; refine (number_short rb g n cap pl 8 0 bs er _ hR0 hE0 hp hk (by omega) hn).mono ?_; rintro e w1 ⟨rfl, m0, hw1⟩; subst w1)
  refine leaves_cons (f := 144) (args := #[.pointer (some ⟨w.heap.size, 0, none⟩)]) (by simp) (by simp [go_sem]) ?_
  refine (catch43_err 4 (by omega) ⟨w.heap.size, 0, none⟩ rb g n cap pl 0 bs er [] _ ?_ (hR0.drewN m0) (hE0.drewN m0)).mono ?_
  · simp [go_sem]
  rintro e u' w'' ⟨rfl, rfl, rfl⟩
  exact ⟨_, results_tmp rfl _ _ _, rfl, went_err hR m0 11⟩

set_option maxHeartbeats 400000 in
theorem sum_ok (rb g n cap pl : Nat) (bs : List Int) (w : World) (hR : Rdr w rb g n cap pl 0 bs) (hk : pl + 8 ≤ n) (hn : cap ≤ 200000000000000) (hby : ∀ x ∈ bs, 0 ≤ x ∧ x ≤ 255) :
    Calls Tryz.prog 127 #[.pointer (some ⟨rb, 0, none⟩)] w fun e w' => e = .returned (.int .u64 (val ((bs.drop pl).take 8))) ∧ Went w w' rb g n cap (pl + 8 : Nat) 0 bs := by
  have hmf : ∀ (fn : Fn) (first cap : Array Value) (w : World), (Instr.makeFunc fn first cap).run Tryz.prog w = .ok (.func fn first cap) w := fun _ _ _ _ => rfl
  have hR0 := hR.alloc (.cells #[.pointer (some ⟨rb, 0, none⟩)] 92)
  have c1 := hR0.c1
  have c2 := hR0.c2
  have f1 := hR0.f 1
  have hnc := hR.lies.hle
  have hpi : (pl : Int) ≤ 200000000000000 := by omega
  have hB := number_ok rb g n cap pl 8 0 bs _ hR0 hk (by omega) (by omega) hn hby
  generalize hV : val ((bs.drop pl).take 8) = V at *
  clear hV hby
  go_enter_defers Tryz.func127, Tryz.ntmps127
  go_wp2_with (go_at_call 146; refine hB.mono ?_; rintro e w1 ⟨rfl, m0, hw1⟩; subst w1)
  refine leaves_cons (f := 144) (args := #[.pointer (some ⟨w.heap.size, 0, none⟩)]) (by simp) (by simp [go_sem]) ?_
  refine (catch43_idle ⟨w.heap.size, 0, none⟩ rb _ ?_).mono ?_
  · have hlt := hR.lt
    exact (World.cell?_setCell_other _ _ _ _ (ne_block (Nat.ne_of_lt hlt))).trans (by simp [go_sem])
  rintro e u' w'' ⟨rfl, rfl, rfl⟩
  exact ⟨_, results_tmp rfl _ _ _, rfl, went_ok hR m0 _⟩

theorem sum_any (rb g n cap pl : Nat) (code : Int) (bs : List Int) (er : Nat → Addr) (w : World) (hR : Rdr w rb g n cap pl code bs) (hE : Errs w er) (hp : pl ≤ n) (hn : cap ≤ 200000000000000) (hby : ∀ x ∈ bs, 0 ≤ x ∧ x ≤ 255) :
    Calls Tryz.prog 127 #[.pointer (some ⟨rb, 0, none⟩)] w fun e w' => e = .returned (.int .u64 (rdSum n bs pl code).1) ∧ Went w w' rb g n cap (rdSum n bs pl code).2.1 (rdSum n bs pl code).2.2 bs := by
  unfold rdSum
  by_cases hc : code ≠ 0
  · simp only [if_pos hc]
    exact sum_held rb g n cap pl code bs w hR (by simpa using hc)
  · have hc0 : code = 0 := by omega
    subst hc0
    simp only [if_neg hc]
    by_cases hk : n < pl + 8
    · simp only [if_pos hk]
      exact sum_short rb g n cap pl bs er w hR hE hp hk hn
    · simp only [if_neg hk]
      exact sum_ok rb g n cap pl bs w hR (by omega) hn hby

set_option maxHeartbeats 400000 in
theorem flag_held (rb g n cap : Nat) (pl code : Int) (bs : List Int) (w : World) (hR : Rdr w rb g n cap pl code bs) (hc : (code != 0) = true) :
    Calls Tryz.prog 189 #[.pointer (some ⟨rb, 0, none⟩)] w fun e w' => e = .returned (.bool false) ∧ Went w w' rb g n cap pl code bs := by
  have c2 := (hR.alloc (.cells #[.pointer (some ⟨rb, 0, none⟩)] 92)).c2
  have fin := went_held hR
  clear hR
  go_enter_defers Tryz.func189, Tryz.ntmps189
  go_wp2
  exact ⟨_, results_tmp rfl _ _ _, rfl, fin⟩

set_option maxHeartbeats 400000 in
theorem flag_short (rb g n cap pl : Nat) (bs : List Int) (er : Nat → Addr) (w : World) (hR : Rdr w rb g n cap pl 0 bs) (hE : Errs w er) (hp : pl ≤ n) (hk : n < pl + 4) (hn : cap ≤ 200000000000000) :
    Calls Tryz.prog 189 #[.pointer (some ⟨rb, 0, none⟩)] w fun e w' => e = .returned (.bool false) ∧ Went w w' rb g n cap pl 11 bs := by
  have hmf : ∀ (fn : Fn) (first cap : Array Value) (w : World), (Instr.makeFunc fn first cap).run Tryz.prog w = .ok (.func fn first cap) w := fun _ _ _ _ => rfl
  have hR0 := hR.alloc (.cells #[.pointer (some ⟨rb, 0, none⟩)] 92)
  have hE0 := hE.alloc (.cells #[.pointer (some ⟨rb, 0, none⟩)] 92)
  have c2 := hR0.c2
  go_enter_defers Tryz.func189, Tryz.ntmps189
  go_wp2_with (go_at_call 146; refine (number_short rb g n cap pl 4 0 bs er _ hR0 hE0 hp hk (by omega) hn).mono ?_; rintro e w1 ⟨rfl, m0, hw1⟩; subst w1)
  refine leaves_cons (f := 222) (args := #[.pointer (some ⟨w.heap.size, 0, none⟩)]) (by simp) (by simp [go_sem]) ?_
  refine (catch48_err 4 (by omega) ⟨w.heap.size, 0, none⟩ rb g n cap pl 0 bs er [] _ ?_ (hR0.drewN m0) (hE0.drewN m0)).mono ?_
  · simp [go_sem]
  rintro e u' w'' ⟨rfl, rfl, rfl⟩
  exact ⟨_, results_tmp rfl _ _ _, rfl, went_err hR m0 11⟩

set_option maxHeartbeats 400000 in
theorem flag_bad (rb g n cap pl : Nat) (bs : List Int) (er : Nat → Addr) (w : World) (hR : Rdr w rb g n cap pl 0 bs) (hE : Errs w er) (hk : pl + 4 ≤ n) (hn : cap ≤ 200000000000000) (hby : ∀ x ∈ bs, 0 ≤ x ∧ x ≤ 255) (hv : 1 < val ((bs.drop pl).take 4)) :
    Calls Tryz.prog 189 #[.pointer (some ⟨rb, 0, none⟩)] w fun e w' => e = .returned (.bool false) ∧ Went w w' rb g n cap pl 13 bs := by
  have hmf : ∀ (fn : Fn) (first cap : Array Value) (w : World), (Instr.makeFunc fn first cap).run Tryz.prog w = .ok (.func fn first cap) w := fun _ _ _ _ => rfl
  have hR0 := hR.alloc (.cells #[.pointer (some ⟨rb, 0, none⟩)] 92)
  have hE0 := hE.alloc (.cells #[.pointer (some ⟨rb, 0, none⟩)] 92)
  have c2 := hR0.c2
  have e0 := hE0.c0
  have hB := number_ok rb g n cap pl 4 0 bs _ hR0 hk (by omega) (by omega) hn hby
  generalize hV : val ((bs.drop pl).take 4) = V at *
  clear hV hby
  go_enter_defers Tryz.func189, Tryz.ntmps189
  go_wp2_with (go_at_call 146; refine hB.mono ?_; rintro e w1 ⟨rfl, m0, hw1⟩; subst w1)
  refine leaves_cons (f := 222) (args := #[.pointer (some ⟨w.heap.size, 0, none⟩)]) (by simp) (by simp [go_sem]) ?_
  refine (catch48_err 0 (by omega) ⟨w.heap.size, 0, none⟩ rb g n cap pl 0 bs er [] _ ?_ (hR0.drewN m0) (hE0.drewN m0)).mono ?_
  · simp [go_sem]
  rintro e u' w'' ⟨rfl, rfl, rfl⟩
  exact ⟨_, results_tmp rfl _ _ _, rfl, went_err hR m0 13⟩

set_option maxHeartbeats 400000 in
theorem flag_ok (rb g n cap pl : Nat) (bs : List Int) (w : World) (hR : Rdr w rb g n cap pl 0 bs) (hk : pl + 4 ≤ n) (hn : cap ≤ 200000000000000) (hby : ∀ x ∈ bs, 0 ≤ x ∧ x ≤ 255) (hv : val ((bs.drop pl).take 4) ≤ 1) :
    Calls Tryz.prog 189 #[.pointer (some ⟨rb, 0, none⟩)] w fun e w' => e = .returned (.bool (val ((bs.drop pl).take 4) == 1)) ∧ Went w w' rb g n cap (pl + 4 : Nat) 0 bs := by
  have hmf : ∀ (fn : Fn) (first cap : Array Value) (w : World), (Instr.makeFunc fn first cap).run Tryz.prog w = .ok (.func fn first cap) w := fun _ _ _ _ => rfl
  have hR0 := hR.alloc (.cells #[.pointer (some ⟨rb, 0, none⟩)] 92)
  have c1 := hR0.c1
  have c2 := hR0.c2
  have f1 := hR0.f 1
  have hnc := hR.lies.hle
  have hpi : (pl : Int) ≤ 200000000000000 := by omega
  have hB := number_ok rb g n cap pl 4 0 bs _ hR0 hk (by omega) (by omega) hn hby
  generalize hV : val ((bs.drop pl).take 4) = V at *
  clear hV hby
  go_enter_defers Tryz.func189, Tryz.ntmps189
  go_wp2_with (go_at_call 146; refine hB.mono ?_; rintro e w1 ⟨rfl, m0, hw1⟩; subst w1)
  refine leaves_cons (f := 222) (args := #[.pointer (some ⟨w.heap.size, 0, none⟩)]) (by simp) (by simp [go_sem]) ?_
  refine (catch48_idle ⟨w.heap.size, 0, none⟩ rb _ ?_).mono ?_
  · have hlt := hR.lt
    exact (World.cell?_setCell_other _ _ _ _ (ne_block (Nat.ne_of_lt hlt))).trans (by simp [go_sem])
  rintro e u' w'' ⟨rfl, rfl, rfl⟩
  exact ⟨_, results_tmp rfl _ _ _, rfl, went_ok hR m0 _⟩

theorem flag_any (rb g n cap pl : Nat) (code : Int) (bs : List Int) (er : Nat → Addr) (w : World) (hR : Rdr w rb g n cap pl code bs) (hE : Errs w er) (hp : pl ≤ n) (hn : cap ≤ 200000000000000) (hby : ∀ x ∈ bs, 0 ≤ x ∧ x ≤ 255) :
    Calls Tryz.prog 189 #[.pointer (some ⟨rb, 0, none⟩)] w fun e w' => e = .returned (.bool (rdFlag n bs pl code).1) ∧ Went w w' rb g n cap (rdFlag n bs pl code).2.1 (rdFlag n bs pl code).2.2 bs := by
  unfold rdFlag
  by_cases hc : code ≠ 0
  · simp only [if_pos hc]
    exact flag_held rb g n cap pl code bs w hR (by simpa using hc)
  · have hc0 : code = 0 := by omega
    subst hc0
    simp only [if_neg hc]
    by_cases hk : n < pl + 4
    · simp only [if_pos hk]
      exact flag_short rb g n cap pl bs er w hR hE hp hk hn
    · simp only [if_neg hk]
      by_cases hv : 1 < val ((bs.drop pl).take 4)
      · simp only [if_pos hv]
        exact flag_bad rb g n cap pl bs er w hR hE (by omega) hn hby hv
      · simp only [if_neg hv]
        exact flag_ok rb g n cap pl bs w hR (by omega) hn hby (by omega)
end Go.Proofs.YtdkcplndplhblaaGreatDoor

/- The faces Text, Bytes and Close by their contracts. -/
namespace Go.Proofs.YtdkcplndplhblaaGreatDoor
open Go.RowKit
set_option maxRecDepth 100000

set_option maxHeartbeats 400000 in
theorem text17_held (rb g n cap : Nat) (pl code M : Int) (bs : List Int) (w : World) (hR : Rdr w rb g n cap pl code bs) (hc : (code != 0) = true) :
    Calls Tryz.prog 205 #[.pointer (some ⟨rb, 0, none⟩), .int .i64 M] w fun e w' => e = .returned (.string (txt [])) ∧ Went w w' rb g n cap pl code bs := by
  have c2 := (hR.alloc (.cells #[.pointer (some ⟨rb, 0, none⟩)] 92)).c2
  have fin := went_held hR
  clear hR
  go_enter_defers Tryz.func205, Tryz.ntmps205
  go_wp2
  exact ⟨_, results_tmp rfl _ _ _, rfl, fin⟩

set_option maxHeartbeats 400000 in
theorem text17_gave (i : Nat) (hi : i < 5) (rb g n cap : Nat) (pl M : Int) (bs : List Int) (er : Nat → Addr) (w : World) (hR : Rdr w rb g n cap pl 0 bs) (hE : Errs w er)
    (hT : Calls Tryz.prog 208 #[.pointer (some ⟨rb, 0, none⟩), .int .i64 M] (boxed w rb) fun e w' => e = gaveUp (er i) ∧ ∃ m, w' = (boxed w rb).drewN m) :
    Calls Tryz.prog 205 #[.pointer (some ⟨rb, 0, none⟩), .int .i64 M] w fun e w' => e = .returned (.string (txt [])) ∧ Went w w' rb g n cap pl (codeNo i) bs := by
  have hmf : ∀ (fn : Fn) (first cap : Array Value) (w : World), (Instr.makeFunc fn first cap).run Tryz.prog w = .ok (.func fn first cap) w := fun _ _ _ _ => rfl
  have hR0 := hR.alloc (.cells #[.pointer (some ⟨rb, 0, none⟩)] 92)
  have hE0 := hE.alloc (.cells #[.pointer (some ⟨rb, 0, none⟩)] 92)
  have c2 := hR0.c2
  go_enter_defers Tryz.func205, Tryz.ntmps205
  go_wp2_with (go_at_call 208; refine hT.mono ?_; rintro e w1 ⟨rfl, m0, hw1⟩; subst w1)
  refine leaves_cons (f := 207) (args := #[.pointer (some ⟨w.heap.size, 0, none⟩)]) (by simp) (by simp [go_sem]) ?_
  refine (catch45_err i hi ⟨w.heap.size, 0, none⟩ rb g n cap pl 0 bs er [] _ ?_ (hR0.drewN m0) (hE0.drewN m0)).mono ?_
  · simp [go_sem]
  rintro e u' w'' ⟨rfl, rfl, rfl⟩
  exact ⟨_, results_tmp rfl _ _ _, rfl, went_err hR m0 _⟩

set_option maxHeartbeats 400000 in
theorem text17_done (rb g n cap pl k p' : Nat) (M : Int) (bs : List Int) (w : World) (hR : Rdr w rb g n cap pl 0 bs) (hk : pl + 4 + k ≤ n)
    (hT : Calls Tryz.prog 208 #[.pointer (some ⟨rb, 0, none⟩), .int .i64 M] (boxed w rb) fun e w' => ∃ q, e = .returned (.slice (some ⟨g, q, none⟩) k (cap - pl - 4)) ∧ (0 < k → q = pl + 4) ∧ ∃ m, w' = ((boxed w rb).drewN m).setCell ⟨rb, 1, none⟩ (.int .i64 (p' : Int))) :
    Calls Tryz.prog 205 #[.pointer (some ⟨rb, 0, none⟩), .int .i64 M] w fun e w' => e = .returned (.string (txt ((bs.drop (pl + 4)).take k))) ∧ Went w w' rb g n cap p' 0 bs := by
  have hmf : ∀ (fn : Fn) (first cap : Array Value) (w : World), (Instr.makeFunc fn first cap).run Tryz.prog w = .ok (.func fn first cap) w := fun _ _ _ _ => rfl
  have hR0 := hR.alloc (.cells #[.pointer (some ⟨rb, 0, none⟩)] 92)
  have c2 := hR0.c2
  have hnc := hR.lies.hle
  go_enter_defers Tryz.func205, Tryz.ntmps205
  go_wp2_with (go_at_call 208; refine hT.mono ?_; rintro e w1 ⟨q, rfl, hq, m0, hw1⟩; subst w1; have hcv := run_string_of _ ⟨g, q, none⟩ k (cap - pl - 4) _ ((((hR0.drewN m0).set1 (p' : Int)).lies).sub q (pl + 4) k (cap - pl - 4) hq hk (by omega)))
  refine leaves_cons (f := 207) (args := #[.pointer (some ⟨w.heap.size, 0, none⟩)]) (by simp) (by simp [go_sem]) ?_
  refine (catch45_idle ⟨w.heap.size, 0, none⟩ rb _ ?_).mono ?_
  · have hlt := hR.lt
    exact (World.cell?_setCell_other _ _ _ _ (ne_block (Nat.ne_of_lt hlt))).trans (by simp [go_sem])
  rintro e u' w'' ⟨rfl, rfl, rfl⟩
  exact ⟨_, results_tmp rfl _ _ _, rfl, went_ok hR m0 _⟩

theorem text17_any (rb g n cap pl : Nat) (code M : Int) (bs : List Int) (er : Nat → Addr) (w : World) (hR : Rdr w rb g n cap pl code bs) (hE : Errs w er) (hp : pl ≤ n) (hn : cap ≤ 200000000000000) (hby : ∀ x ∈ bs, 0 ≤ x ∧ x ≤ 255) (hM1 : M ≤ 9223372036854775807) :
    Calls Tryz.prog 205 #[.pointer (some ⟨rb, 0, none⟩), .int .i64 M] w fun e w' => e = .returned (.string (txt (rdText n bs pl code M).1)) ∧ Went w w' rb g n cap (rdText n bs pl code M).2.1 (rdText n bs pl code M).2.2 bs := by
  by_cases hc : code ≠ 0
  · unfold rdText
    simp only [if_pos hc]
    exact text17_held rb g n cap pl code M bs w hR (by simpa using hc)
  · obtain rfl : code = 0 := by omega
    rcases text_any rb g n cap pl M bs er (boxed w rb) (hR.alloc _) (hE.alloc _) hp hn hby hM1 with ⟨i, hi, e, hT⟩ | ⟨k, p', e, h1, h2, hT⟩
    · rw [e]
      exact text17_gave i hi rb g n cap pl M bs er w hR hE hT
    · rw [e]
      exact text17_done rb g n cap pl k p' M bs w hR h1 hT

set_option maxHeartbeats 400000 in
theorem bytes_held (rb g n cap : Nat) (pl code M : Int) (bs : List Int) (w : World) (hR : Rdr w rb g n cap pl code bs) (hc : (code != 0) = true) :
    Calls Tryz.prog 214 #[.pointer (some ⟨rb, 0, none⟩), .int .i64 M] w fun e w' => e = .returned (.slice none 0 0) ∧ Went w w' rb g n cap pl code bs := by
  have c2 := (hR.alloc (.cells #[.pointer (some ⟨rb, 0, none⟩)] 92)).c2
  have fin := went_held hR
  clear hR
  go_enter_defers Tryz.func214, Tryz.ntmps214
  go_wp2
  exact ⟨_, results_tmp rfl _ _ _, rfl, fin⟩

set_option maxHeartbeats 400000 in
theorem bytes_gave (i : Nat) (hi : i < 5) (rb g n cap : Nat) (pl M : Int) (bs : List Int) (er : Nat → Addr) (w : World) (hR : Rdr w rb g n cap pl 0 bs) (hE : Errs w er)
    (hT : Calls Tryz.prog 208 #[.pointer (some ⟨rb, 0, none⟩), .int .i64 M] (boxed w rb) fun e w' => e = gaveUp (er i) ∧ ∃ m, w' = (boxed w rb).drewN m) :
    Calls Tryz.prog 214 #[.pointer (some ⟨rb, 0, none⟩), .int .i64 M] w fun e w' => e = .returned (.slice none 0 0) ∧ Went w w' rb g n cap pl (codeNo i) bs := by
  have hmf : ∀ (fn : Fn) (first cap : Array Value) (w : World), (Instr.makeFunc fn first cap).run Tryz.prog w = .ok (.func fn first cap) w := fun _ _ _ _ => rfl
  have hR0 := hR.alloc (.cells #[.pointer (some ⟨rb, 0, none⟩)] 92)
  have hE0 := hE.alloc (.cells #[.pointer (some ⟨rb, 0, none⟩)] 92)
  have c2 := hR0.c2
  go_enter_defers Tryz.func214, Tryz.ntmps214
  go_wp2_with (go_at_call 208; refine hT.mono ?_; rintro e w1 ⟨rfl, m0, hw1⟩; subst w1)
  refine leaves_cons (f := 215) (args := #[.pointer (some ⟨w.heap.size, 0, none⟩)]) (by simp) (by simp [go_sem]) ?_
  refine (catch47_err i hi ⟨w.heap.size, 0, none⟩ rb g n cap pl 0 bs er [] _ ?_ (hR0.drewN m0) (hE0.drewN m0)).mono ?_
  · simp [go_sem]
  rintro e u' w'' ⟨rfl, rfl, rfl⟩
  exact ⟨_, results_tmp rfl _ _ _, rfl, went_err hR m0 _⟩

/-- What Bytes hands out: nil, or a row of its own. -/
def Handed (w : World) (e : Ending) (w' : World) (l : List Int) : Prop :=
  ∃ ao c, e = .returned (.slice ao l.length c) ∧ w'.ownsRow w.heap.size 5 1 (.slice ao l.length c) l.length (l.map (Value.int .u8))

set_option maxHeartbeats 400000 in
theorem bytes_done (rb g n cap pl k p' : Nat) (M : Int) (bs : List Int) (w : World) (hR : Rdr w rb g n cap pl 0 bs) (hk : pl + 4 + k ≤ n) (hn : cap ≤ 200000000000000)
    (hT : Calls Tryz.prog 208 #[.pointer (some ⟨rb, 0, none⟩), .int .i64 M] (boxed w rb) fun e w' => ∃ q, e = .returned (.slice (some ⟨g, q, none⟩) k (cap - pl - 4)) ∧ (0 < k → q = pl + 4) ∧ ∃ m, w' = ((boxed w rb).drewN m).setCell ⟨rb, 1, none⟩ (.int .i64 (p' : Int))) :
    Calls Tryz.prog 214 #[.pointer (some ⟨rb, 0, none⟩), .int .i64 M] w fun e w' => Handed w e w' ((bs.drop (pl + 4)).take k) ∧ Went w w' rb g n cap p' 0 bs := by
  obtain ⟨i0, hi, hz0, hz1, hz2⟩ := info_parts Tryz.info5
  have hmf : ∀ (fn : Fn) (first cap : Array Value) (w : World), (Instr.makeFunc fn first cap).run Tryz.prog w = .ok (.func fn first cap) w := fun _ _ _ _ => rfl
  have hR0 := hR.alloc (.cells #[.pointer (some ⟨rb, 0, none⟩)] 92)
  have c2 := hR0.c2
  have hnc := hR.lies.hle
  have hlt := hR.lt
  have hll : ((bs.drop (pl + 4)).take k).length = k := by simp [hR.lies.hlen]; omega
  obtain ⟨L, hL⟩ : ∃ L, L = (bs.drop (pl + 4)).take k := ⟨_, rfl⟩
  have HL : ∀ {W : World} {q : Nat}, Rdr W rb g n cap p' 0 bs → (0 < k → q = pl + 4) → Lies W (some ⟨g, q, none⟩) k (cap - pl - 4) L := fun h hq => by rw [hL]; exact h.lies.sub _ (pl + 4) k _ hq hk (by omega)
  rw [← hL] at hll ⊢
  clear hL
  go_enter_defers Tryz.func214, Tryz.ntmps214
  go_wp2_with fail
  refine hT.mono ?_
  rintro e w1 ⟨q, rfl, hq, m0, hw1⟩
  obtain ⟨hR1, hg1⟩ : Rdr w1 rb g n cap p' 0 bs ∧ w.grownBy w1 (some rb) := by
    subst hw1
    exact ⟨(hR0.drewN m0).set1 _, grown_trans (grown_trans (boxed_grown _ _ _) (grown_drewN _ m0 _)) (grown_setCell _ _ _ _)⟩
  have hp1 : w1.cell? ⟨w.heap.size, 0, none⟩ = some (.pointer (some ⟨rb, 0, none⟩)) := by
    subst hw1
    exact (World.cell?_setCell_other _ _ _ _ (ne_block (Nat.ne_of_lt hlt))).trans (by simp [go_sem])
  have hL1 := HL hR1 hq
  clear hw1 HL
  go_wp2_with (first
    | (at_make; refine wpList_make_own _ rfl _ _ 22 rfl w1.heap.size 5 i0 (.int .u8 0) 1 Tryz.underlying22 hi hz0 hz1 _ _ _ k rfl rfl (by omega) (by rw [hz2]; omega) (by unfold maxLen; omega) (Nat.le_refl _) ?_; intro w2 hown2 hgrow2)
    | (at_builtin; refine wpList_append_fits_any _ rfl (.tmp 17) (.tmp 18) 22 rfl w1.heap.size 5 i0 1 Tryz.underlying22 hi hz1 w1.heap.size 0 k _ rfl hown2 _ k _ (L.map (Value.int .u8)) rfl (by simp [hll]) hL1.hnone (fun ad had t u hu => hgrow2.cell (hL1.hcells ad had t u hu) (by simp)) (ints_oneCell _ _) (by omega) ?_; intro w3 hown3 hgrow3; simp only [Nat.zero_add, List.nil_append] at hown3))
  have hlt1 := hR1.lt
  have hltp := World.block_lt_of_cell? _ _ hp1
  have hg3 : w1.grownBy w3 none := ⟨hgrow3.os.trans hgrow2.os, hgrow3.tape.trans hgrow2.tape, hgrow3.output.trans hgrow2.output, Nat.le_trans hgrow2.size hgrow3.size, fun k hk _ => (hgrow3.block k (Nat.lt_of_lt_of_le hk hgrow2.size) (by simp; omega)).trans (hgrow2.block k hk (by simp))⟩
  refine leaves_cons (f := 215) (args := #[.pointer (some ⟨w.heap.size, 0, none⟩)]) (by simp) (by simp [go_sem]) ?_
  refine (catch47_idle ⟨w.heap.size, 0, none⟩ rb _ (hg3.cell hp1 (by simp))).mono ?_
  rintro e u' w'' ⟨rfl, rfl, rfl⟩
  refine ⟨_, results_tmp rfl _ _ _, ⟨some ⟨w1.heap.size, 0, none⟩, k, ?_, ?_⟩, (hR1.kept hg3 (by simp) (by simp)).drew, ?_⟩
  · rw [hll]; simp
  · rw [hll]; exact ownsRow_mono (World.ownsRow.drew hown3) hg1.size
  · exact ⟨hg3.os.trans hg1.os, hg3.tape.trans hg1.tape, hg3.output.trans hg1.output, Nat.le_trans hg1.size hg3.size, fun k hk hne => (hg3.block k (Nat.lt_of_lt_of_le hk hg1.size) (by simp)).trans (hg1.block k hk hne)⟩

theorem handed_nil (w w' : World) : Handed w (.returned (.slice none 0 0)) w' [] := ⟨none, 0, rfl, World.ownsRow_nil _ _ _ _⟩

theorem bytes_any (rb g n cap pl : Nat) (code M : Int) (bs : List Int) (er : Nat → Addr) (w : World) (hR : Rdr w rb g n cap pl code bs) (hE : Errs w er) (hp : pl ≤ n) (hn : cap ≤ 200000000000000) (hby : ∀ x ∈ bs, 0 ≤ x ∧ x ≤ 255) (hM1 : M ≤ 9223372036854775807) :
    Calls Tryz.prog 214 #[.pointer (some ⟨rb, 0, none⟩), .int .i64 M] w fun e w' => Handed w e w' (rdText n bs pl code M).1 ∧ Went w w' rb g n cap (rdText n bs pl code M).2.1 (rdText n bs pl code M).2.2 bs := by
  by_cases hc : code ≠ 0
  · unfold rdText
    simp only [if_pos hc]
    refine (bytes_held rb g n cap pl code M bs w hR (by simpa using hc)).mono ?_
    rintro e w' ⟨rfl, h⟩
    exact ⟨handed_nil _ _, h⟩
  · obtain rfl : code = 0 := by omega
    rcases text_any rb g n cap pl M bs er (boxed w rb) (hR.alloc _) (hE.alloc _) hp hn hby hM1 with ⟨i, hi, e, hT⟩ | ⟨k, p', e, h1, h2, hT⟩
    · rw [e]
      refine (bytes_gave i hi rb g n cap pl M bs er w hR hE hT).mono ?_
      rintro e w' ⟨rfl, h⟩
      exact ⟨handed_nil _ _, h⟩
    · rw [e]
      exact bytes_done rb g n cap pl k p' M bs w hR h1 hn hT

/-- What Close answers and keeps. -/
def rdClose (n pl : Nat) (code : Int) : Int := if code = 0 ∧ pl < n then 16 else code

set_option maxHeartbeats 400000 in
theorem close_any (rb g n cap pl : Nat) (code : Int) (bs : List Int) (w : World) (hR : Rdr w rb g n cap pl code bs) :
    Calls Tryz.prog 131 #[.pointer (some ⟨rb, 0, none⟩)] w fun e w' => e = .returned (.int .i64 (rdClose n pl code)) ∧ Went w w' rb g n cap pl (rdClose n pl code) bs := by
  have c0 := hR.c0
  have c1 := hR.c1
  have c2 := hR.c2
  have f2 := hR.f 2
  unfold rdClose
  by_cases hc : code = 0
  · subst hc
    by_cases hp : pl < n
    · rw [if_pos ⟨rfl, hp⟩]
      have hpi : decide ((pl : Int) < (n : Int)) = true := by simpa using hp
      go_enter Tryz.func131, Tryz.ntmps131
      go_wp2
      go_quiet (fail)
      go_wp2
      go_ret
      exact ⟨rfl, (hR.drewN _).set2 16, grown_trans (grown_drewN _ _ _) (grown_setCell _ _ _ _)⟩
    · rw [if_neg (fun h => hp h.2)]
      have hpi : decide ((pl : Int) < (n : Int)) = false := by simpa using hp
      go_enter Tryz.func131, Tryz.ntmps131
      go_wp2
      go_quiet (fail)
      go_wp2
      go_ret
      exact ⟨rfl, hR.drewN _, grown_drewN _ _ _⟩
  · rw [if_neg (fun h => hc h.1)]
    have hcb : (code == 0) = false := by simpa using hc
    go_enter Tryz.func131, Tryz.ntmps131
    go_wp2
    go_quiet (fail)
    go_wp2
    go_ret
    exact ⟨rfl, hR.drewN _, grown_drewN _ _ _⟩
end Go.Proofs.YtdkcplndplhblaaGreatDoor

/- annexref.Bytes and annexlaw1.put by their contracts. -/
namespace Go.Proofs.YtdkcplndplhblaaGreatDoor
open Go.RowKit
set_option maxRecDepth 100000

/-- A new list of bytes: nil, or a row of its own; nothing old has turned. -/
def Fresh (w : World) (e : Ending) (w' : World) (n : Nat) (bs : List Int) : Prop :=
  ∃ ao c, e = .returned (.slice ao n c) ∧ w'.ownsRow w.heap.size 5 1 (.slice ao n c) n (bs.map (Value.int .u8)) ∧ Below w.heap.size w w'
theorem Made.fresh {w w' : World} {e : Ending} {n : Nat} {bs : List Int} (h : Made w e w' n bs) : Fresh w e w' n bs := by
  obtain ⟨g, c, h1, h2, h3⟩ := h
  exact ⟨_, c, h1, h2, h3⟩
theorem Lies.owned {w : World} {base n cap : Nat} {ao : Option Addr} {bs : List Int} (h : w.ownsRow base 5 1 (.slice ao n cap) n (bs.map (Value.int .u8))) : Lies w ao n cap bs := by
  rcases h.2 with ⟨hv, hn⟩ | ⟨g', cap', cur, hv, _⟩
  · cases hv
    have hl : bs.length = 0 := by simpa using h.1
    obtain rfl := List.eq_nil_of_length_eq_zero hl
    exact Lies.nil w
  · cases hv
    exact Lies.own h
theorem own_len {w : World} {base n : Nat} {v : Value} {bs : List Int} (h : w.ownsRow base 5 1 v n (bs.map (Value.int .u8))) : ∃ ao c, v = .slice ao n c := by
  rcases h.2 with ⟨hv, rfl⟩ | ⟨g', cap', cur, hv, _⟩
  · exact ⟨none, 0, hv⟩
  · exact ⟨_, _, hv⟩

set_option maxHeartbeats 400000 in
theorem bytes29_pos (b o cap n : Nat) (bs : List Int) (w : World) (hn : n ≤ 140737488355328) (hl : bs.length = n)
    (hc : ∀ t, t < n → w.cell? ⟨b, o + t, none⟩ = some (.int .u8 (bs.getD t 0))) :
    Calls Tryz.prog 35 #[.slice (some ⟨b, o, none⟩) n cap] w fun e w' => ∃ v, e = .returned v ∧ w'.ownsRow w.heap.size 5 1 v n (bs.map (Value.int .u8)) ∧ Below w.heap.size w w' := by
  obtain ⟨i0, hi, hz0, hz1, hz2⟩ := info_parts Tryz.info5
  have hni : (n : Int) ≤ 140737488355328 := by omega
  go_enter Tryz.func35, Tryz.ntmps35
  go_wp2
  go_loopw [3, 4] (fun v i wr => ∃ k : Nat, k ≤ n ∧ i = .int .i64 k ∧ wr.ownsRow w.heap.size 5 1 v k ((bs.take k).map (Value.int .u8)) ∧ Below w.heap.size w wr) (fun _ i _ => n - (intOf i).toNat)
  case atStart => exact ⟨0, Nat.zero_le _, rfl, World.ownsRow_nil _ _ _ _, Below.refl _ _⟩
  case round =>
    obtain ⟨k, hk, rfl, hown, hb⟩ := hrel
    by_cases hlt : k < n
    · have hck := cell_later hb (hc k hlt)
      have hst : bs.take (k + 1) = bs.take k ++ [bs.getD k 0] := by
        rw [List.take_succ_eq_append_getElem (by omega)]
        simp [List.getD, show k < bs.length by omega]
      have HS : Hid (bs.take (k + 1) = bs.take k ++ [bs.getD k 0]) := hst
      clear hst hc
      generalize bs.getD k 0 = C at *
      go_wp2_with (at_builtin; refine wpList_append_own _ rfl (.tmp 11) (.tmp 16) 22 rfl w.heap.size 5 i0 (.int .u8 0) 1 1 Tryz.underlying22 hi hz0 hz1 hz2 rfl (by decide) _ _ _ rfl (hown.alloc _) ⟨wr.heap.size, 0, none⟩ 1 1 [.int .u8 C] rfl rfl (cell_one_new _ _ _) (by intro u hu; simp at hu; subst hu; rfl) (by unfold maxLen; omega) (by omega) (by have := hb.size; simp; omega) ?_; intro v' w1 hown1 hgrow1 hnil1)
      go_roundw
      case rel =>
        refine ⟨k + 1, by omega, by go_num, ?_, ?_⟩
        · rw [HS.out]; simpa using hown1
        · exact (hb.alloc hb.size _).grown hgrow1 (by simp; have := hb.size; omega) (fun k hk => (hown.lt k hk).1)
      case measure => simp [intOf]; omega
    · clear hc
      go_wp2
      go_ret
      obtain rfl : k = n := by omega
      refine ⟨_, rfl, ?_, hb⟩
      rw [List.take_of_length_le (by omega)] at hown
      exact hown

set_option maxHeartbeats 400000 in
theorem bytes29_zero (ao : Option Addr) (cap : Nat) (w : World) :
    Calls Tryz.prog 35 #[.slice ao 0 cap] w fun e w' => e = .returned (.slice none 0 0) ∧ w' = w := by
  go_enter Tryz.func35, Tryz.ntmps35
  go_wp2
  refine wp_loop_rounds 1 ?_
  rw [rounds_succ]
  go_wp2
  go_ret
  exact ⟨rfl, rfl⟩

theorem bytes29_any (ao : Option Addr) (n cap : Nat) (bs : List Int) (w : World) (hn : n ≤ 140737488355328) (hL : Lies w ao n cap bs) :
    Calls Tryz.prog 35 #[.slice ao n cap] w fun e w' => Fresh w e w' n bs := by
  by_cases h0 : 0 < n
  · obtain ⟨b, o, rfl, hc⟩ := hL.at h0
    refine (bytes29_pos b o cap n bs w hn hL.hlen hc).mono ?_
    rintro e w' ⟨v, rfl, hown, hb⟩
    obtain ⟨ao, c, rfl⟩ := own_len hown
    exact ⟨ao, c, rfl, hown, hb⟩
  · obtain rfl : n = 0 := by omega
    obtain rfl := List.eq_nil_of_length_eq_zero hL.hlen
    refine (bytes29_zero ao cap w).mono ?_
    rintro e w' ⟨rfl, rfl⟩
    exact ⟨none, 0, rfl, World.ownsRow_nil _ _ _ _, Below.refl _ _⟩

/-- A field, as the statements have it: kind, number, sum, bytes. -/
abbrev itemV (K X S : Int) (bo : Option Addr) (dl dc : Nat) : Value := .agg #[.int .i64 K, .int .i64 X, .int .u64 S, .slice bo dl dc]

/-- How many bytes a field takes. -/
def putN (K : Int) (dl : Nat) : Nat := if K = 1 then 4 else if K = 2 then 8 else if K = 3 then 8 else if K = 4 then 4 + dl + padN dl else if K = 5 then 4 + dl + padN dl else 0
/-- The bytes of a field. -/
def putL (K X S : Int) (ds : List Int) : List Int :=
  if K = 1 then be (IntKind.u64.wrap X) 4 else if K = 2 then be (IntKind.u64.wrap X) 8 else if K = 3 then be S 8 else if K = 4 then be ds.length 4 ++ ds ++ List.replicate (padN ds.length) 0 else if K = 5 then be ds.length 4 ++ ds ++ List.replicate (padN ds.length) 0 else []

theorem Made.of_box {w w' : World} {e : Ending} {n : Nat} {bs : List Int} (C : Array Value) (t : TypeId) (h : Made (w.alloc (.cells C t)) e w' n bs) : Made w e w' n bs := by
  obtain ⟨g, c, h1, h2, h3⟩ := h
  exact ⟨g, c, h1, ownsRow_mono h2 (by simp), ((Below.refl _ _).alloc (Nat.le_refl _) _).trans (h3.mono (by simp))⟩
theorem Lies.boxed {w : World} {ao : Option Addr} {len cap : Nat} {bs : List Int} (h : Lies w ao len cap bs) (o : Obj) : Lies (w.alloc o) ao len cap bs := h.grown (World.grownBy_alloc w o none) (fun _ _ => by simp)

theorem run_string_any (w : World) (ao : Option Addr) (n cap : Nat) (l : List Int) (hL : Lies w ao n cap l) : (convert 22 9 (.slice ao n cap)).run Tryz.prog w = .ok (.string (txt l)) w := by
  cases ao with
  | some a => exact run_string_of w a n cap l hL
  | none =>
    obtain ⟨rfl, rfl⟩ := hL.hnone rfl
    obtain rfl := List.eq_nil_of_length_eq_zero hL.hlen
    rw [run_convert_bytes_string w 22 9 5 none 0 0 Tryz.underlying22 Tryz.underlying5 Tryz.underlying9]
    simp [Conv.bytesToString, txt]
    rfl
end Go.Proofs.YtdkcplndplhblaaGreatDoor

/- annexref.Join by its contract: the bytes of both, one behind the other. -/
namespace Go.Proofs.YtdkcplndplhblaaGreatDoor
open Go.RowKit
set_option maxRecDepth 100000

set_option maxHeartbeats 400000 in
theorem join_pos (ao : Option Addr) (n cap : Nat) (xs : List Int) (b o tc m : Nat) (ys : List Int) (w : World) (hn : n ≤ 268435456) (hm : m ≤ 140737488351232) (hA : Lies w ao n cap xs) (hly : ys.length = m)
    (hc : ∀ t, t < m → w.cell? ⟨b, o + t, none⟩ = some (.int .u8 (ys.getD t 0))) :
    Calls Tryz.prog 124 #[.slice ao n cap, .slice (some ⟨b, o, none⟩) m tc] w fun e w' => ∃ v, e = .returned v ∧ w'.ownsRow w.heap.size 5 1 v (n + m) ((xs ++ ys).map (Value.int .u8)) ∧ Below w.heap.size w w' := by
  obtain ⟨i0, hi, hz0, hz1, hz2⟩ := info_parts Tryz.info5
  have hmi : (m : Int) ≤ 140737488351232 := by omega
  go_enter Tryz.func124, Tryz.ntmps124
  go_wp2_with fail
  refine (bytes29_any ao n cap xs w (by omega) hA).mono ?_
  rintro e w1 ⟨a1, c1, rfl, ho1, hb1⟩
  go_wp2_with fail
  go_loopw [5, 6] (fun v i wr => ∃ k : Nat, k ≤ m ∧ i = .int .i64 k ∧ wr.ownsRow w.heap.size 5 1 v (n + k) ((xs ++ ys.take k).map (Value.int .u8)) ∧ Below w.heap.size w wr) (fun _ i _ => m - (intOf i).toNat)
  case atStart => exact ⟨0, Nat.zero_le _, rfl, by simpa using ho1, hb1⟩
  case round =>
    obtain ⟨k, hk, rfl, hown, hb⟩ := hrel
    clear ho1 hb1
    by_cases hlt : k < m
    · have hck := cell_later hb (hc k hlt)
      have hst : ys.take (k + 1) = ys.take k ++ [ys.getD k 0] := by
        rw [List.take_succ_eq_append_getElem (by omega)]
        simp [List.getD, show k < ys.length by omega]
      have HS : Hid (ys.take (k + 1) = ys.take k ++ [ys.getD k 0]) := hst
      clear hst hc
      generalize ys.getD k 0 = C at *
      go_wp2_with (at_builtin; refine wpList_append_own_wide _ rfl (.tmp 15) (.tmp 20) 22 rfl w.heap.size 5 i0 (.int .u8 0) 1 1 Tryz.underlying22 hi hz0 hz1 hz2 rfl (by decide) _ _ _ rfl (hown.alloc _) ⟨wr.heap.size, 0, none⟩ 1 1 [.int .u8 C] rfl rfl (cell_one_new _ _ _) (by intro u hu; simp at hu; subst hu; rfl) (by unfold maxLen; omega) (by omega) (by have := hb.size; simp; omega) ?_; intro v' w1 hown1 hgrow1 hnil1)
      go_roundw
      case rel =>
        refine ⟨k + 1, by omega, by go_num, ?_, ?_⟩
        · rw [HS.out, ← List.append_assoc, List.map_append, ← Nat.add_assoc]; simpa using hown1
        · exact (hb.alloc hb.size _).grown hgrow1 (by simp; have := hb.size; omega) (fun k hk => (hown.lt k hk).1)
      case measure => simp [intOf]; omega
    · clear hc
      go_wp2
      go_ret
      obtain rfl : k = m := by omega
      refine ⟨_, rfl, ?_, hb⟩
      rw [List.take_of_length_le (by omega)] at hown
      exact hown

set_option maxHeartbeats 400000 in
theorem join_zero (ao bo : Option Addr) (n cap tc : Nat) (xs : List Int) (w : World) (hn : n ≤ 268435456) (hA : Lies w ao n cap xs) :
    Calls Tryz.prog 124 #[.slice ao n cap, .slice bo 0 tc] w fun e w' => Fresh w e w' n xs := by
  go_enter Tryz.func124, Tryz.ntmps124
  go_wp2_with fail
  refine (bytes29_any ao n cap xs w (by omega) hA).mono ?_
  rintro e w1 ⟨a1, c1, rfl, ho1, hb1⟩
  go_wp2_with fail
  refine wp_loop_rounds 1 ?_
  rw [rounds_succ]
  go_wp2
  go_ret
  exact ⟨a1, c1, rfl, ho1, hb1⟩

theorem join_any (ao bo : Option Addr) (n cap m tc : Nat) (xs ys : List Int) (w : World) (hn : n ≤ 268435456) (hm : m ≤ 140737488351232) (hA : Lies w ao n cap xs) (hB : Lies w bo m tc ys) :
    Calls Tryz.prog 124 #[.slice ao n cap, .slice bo m tc] w fun e w' => Fresh w e w' (n + m) (xs ++ ys) := by
  by_cases h0 : 0 < m
  · obtain ⟨b, o, rfl, hc⟩ := hB.at h0
    refine (join_pos ao n cap xs b o tc m ys w hn hm hA hB.hlen hc).mono ?_
    rintro e w' ⟨v, rfl, hown, hb⟩
    obtain ⟨a2, c, rfl⟩ := own_len hown
    exact ⟨a2, c, rfl, hown, hb⟩
  · obtain rfl : m = 0 := by omega
    obtain rfl := List.eq_nil_of_length_eq_zero hB.hlen
    rw [List.append_nil]
    exact join_zero ao bo n cap tc xs w hn hA
end Go.Proofs.YtdkcplndplhblaaGreatDoor

/- The document's own Puts (annexref1) by their contracts; annexlaw1.room. -/
namespace Go.Proofs.YtdkcplndplhblaaGreatDoor
open Go.RowKit
set_option maxRecDepth 100000

set_option maxHeartbeats 400000 in
theorem zeros63 (n : Nat) (w : World) (h0 : 0 < n) (hn : n ≤ 8) :
    Calls Tryz.prog 142 #[.int .i64 n] w fun e w' => Made w e w' n (List.replicate n 0) := by
  obtain ⟨i0, hi, hz0, hz1, hz2⟩ := info_parts Tryz.info5
  have hni : (n : Int) ≤ 8 := by omega
  go_enter Tryz.func142, Tryz.ntmps142
  go_wp2
  go_loopw [3, 4] (fun v i wr => ∃ k : Nat, k ≤ n ∧ i = .int .i64 k ∧ wr.ownsRow w.heap.size 5 1 v k ((List.replicate k (0 : Int)).map (Value.int .u8)) ∧ Below w.heap.size w wr) (fun _ i _ => n - (intOf i).toNat)
  case atStart => exact ⟨0, Nat.zero_le _, rfl, World.ownsRow_nil _ _ _ _, Below.refl _ _⟩
  case round =>
    obtain ⟨k, hk, rfl, hown, hb⟩ := hrel
    by_cases hlt : k < n
    · go_wp2_with (at_builtin; refine wpList_append_own _ rfl (.tmp 10) (.tmp 11) 22 rfl w.heap.size 5 i0 (.int .u8 0) 1 1 Tryz.underlying22 hi hz0 hz1 hz2 rfl (by decide) _ _ _ rfl (hown.alloc _) ⟨wr.heap.size, 0, none⟩ 1 1 [.int .u8 0] rfl rfl (cell_one_new _ _ _) (by intro u hu; simp at hu; subst hu; rfl) (by unfold maxLen; omega) (by omega) (by have := hb.size; simp; omega) ?_; intro v' w1 hown1 hgrow1 hnil1)
      go_roundw
      case rel =>
        refine ⟨k + 1, by omega, by go_num, ?_, ?_⟩
        · rw [List.replicate_succ', List.map_append]; simpa using hown1
        · exact (hb.alloc hb.size _).grown hgrow1 (by simp; have := hb.size; omega) (fun k hk => (hown.lt k hk).1)
      case measure => simp [intOf]; omega
    · go_wp2
      go_ret
      obtain rfl : k = n := by omega
      rcases hown.2 with ⟨hv, hn0⟩ | ⟨g, cap, cur, hv, r⟩
      · omega
      · subst hv
        exact ⟨g, cap, rfl, hown, hb⟩

theorem set_digit (X : Int) (m n : Nat) (d : Int) : ((List.replicate (m + 1) (0 : Int) ++ be X n).map (Value.int .u8)).set m (.int .u8 d) = ((List.replicate m (0 : Int) ++ d :: be X n).map (Value.int .u8)) := by
  rw [List.replicate_succ', List.append_assoc, List.map_append, List.map_append, List.set_append_right _ _ (by simp)]
  simp

set_option maxHeartbeats 400000 in
theorem digits61 (X : Int) (n : Nat) (w : World) (h0 : 0 < n) (hn : n ≤ 8) (hX0 : 0 ≤ X) (hX1 : X ≤ 18446744073709551615) :
    Calls Tryz.prog 125 #[.int .u64 X, .int .i64 n] w fun e w' => Made w e w' n (be X n) := by
  have hni : (n : Int) ≤ 8 := by omega
  have hni0 : (0 : Int) < n := by omega
  go_enter Tryz.func125, Tryz.ntmps125
  go_wp2_with (go_at_call 142; refine (zeros63 n _ h0 hn).mono ?_; rintro e w1 ⟨g, c, rfl, ho1, hb1⟩)
  go_loopw [0, 6] (fun x i wr => ∃ (m : Nat) (Y : Int), m ≤ n ∧ i = .int .i64 ((m : Int) - 1) ∧ x = .int .u64 Y ∧ 0 ≤ Y ∧ Y ≤ 18446744073709551615 ∧ Y = X / 2 ^ (8 * (n - m)) ∧ wr.ownsRow w.heap.size 5 1 (.slice (some ⟨g, 0, none⟩) n c) n ((List.replicate m (0 : Int) ++ be X (n - m)).map (Value.int .u8)) ∧ Below w.heap.size w wr) (fun _ i _ => (intOf i + 1).toNat)
  case atStart => exact ⟨n, X, Nat.le_refl _, by go_num, rfl, hX0, hX1, by simp, by simpa [be] using ho1, hb1⟩
  case round =>
    obtain ⟨m, Y, hm, rfl, rfl, hY0, hY1, hY, hown, hb⟩ := hrel
    clear ho1 hb1
    by_cases hm0 : 0 < m
    · obtain ⟨m, rfl⟩ : ∃ k, m = k + 1 := ⟨m - 1, by omega⟩
      have hmi : (0 : Int) ≤ m := by omega
      have hmn : (m : Int) < n := by omega
      have hnat : m < n := by omega
      have hcell := hown.cellAt m (by omega)
      have hcell' : wr.cell? ⟨g, m, none⟩ = some (.int .u8 0) := by
        rw [hcell, List.getElem?_map, List.getElem?_append_left (by simp)]
        simp
      have hfz := hown.frozenAt m
      have hst := hown.stored m (.int .u8 (Y % 256))
      rw [set_digit] at hst
      have hq : Y / 256 = X / 2 ^ (8 * (n - m)) := by
        have e1 : 8 * (n - m) = 8 * (n - (m + 1)) + 8 := by omega
        rw [hY, e1, Int.pow_add, ← Int.ediv_ediv_of_nonneg (Int.pow_nonneg (by decide))]
        rfl
      have hd : Y % 256 :: be X (n - (m + 1)) = be X (n - m) := by
        have e1 : n - m = (n - (m + 1)) + 1 := by omega
        rw [e1, be, hY]
      have HQ : Hid (Y / 256 = X / 2 ^ (8 * (n - m)) ∧ Y % 256 :: be X (n - (m + 1)) = be X (n - m)) := ⟨hq, hd⟩
      have HST : Hid _ := hst
      clear hq hd hY hst hcell
      go_wp2
      go_roundw
      case rel =>
        refine ⟨m, Y / 256, by omega, by go_num, ?_, by omega, by omega, HQ.out.1, ?_, ?_⟩
        · go_num
        · rw [← HQ.out.2]; exact HST.out.1
        · exact hb.grown HST.out.2 hb.size (fun k hk => by cases hk; exact (hown.lt g rfl).1)
      case measure => simp [intOf]
    · have hm1 : (m : Int) ≤ 0 := by omega
      clear hY
      go_wp2
      go_ret
      obtain rfl : m = 0 := by omega
      exact ⟨g, c, rfl, by simpa using hown, hb⟩
end Go.Proofs.YtdkcplndplhblaaGreatDoor

/- annexref1's Puts, annexlaw1.want and annexlaw1.room by their contracts. -/
namespace Go.Proofs.YtdkcplndplhblaaGreatDoor
open Go.RowKit
set_option maxRecDepth 100000

theorem Fresh.later {w w1 w' : World} {e : Ending} {n : Nat} {bs : List Int} (hb : Below w.heap.size w w1) (h : Fresh w1 e w' n bs) : Fresh w e w' n bs := by
  obtain ⟨ao, c, h1, h2, h3⟩ := h
  exact ⟨ao, c, h1, ownsRow_mono h2 hb.size, hb.trans (h3.mono hb.size)⟩

set_option maxHeartbeats 400000 in
theorem refSum (ao : Option Addr) (n cap : Nat) (xs : List Int) (S : Int) (w : World) (hs0 : 0 ≤ S) (hs1 : S ≤ 18446744073709551615) (hn : n ≤ 268435456) (hA : Lies w ao n cap xs) :
    Calls Tryz.prog 97 #[.slice ao n cap, .int .u64 S] w fun e w' => Fresh w e w' (n + 8) (xs ++ be S 8) := by
  go_enter Tryz.func97, Tryz.ntmps97
  go_wp2_with fail
  refine (digits61 S 8 _ (by omega) (by omega) hs0 hs1).mono ?_
  rintro e w1 ⟨g, c, rfl, ho1, hb1⟩
  go_wp2_with fail
  refine (join_any ao _ n cap 8 c xs _ w1 hn (by omega) (hA.below hb1 (Nat.le_refl _)) (Lies.own ho1)).mono ?_
  rintro e w2 ⟨a2, c2, rfl, ho2, hb2⟩
  go_wp2
  go_ret
  exact Fresh.later hb1 ⟨a2, c2, rfl, ho2, hb2⟩

set_option maxHeartbeats 400000 in
theorem ref32 (ao : Option Addr) (n cap : Nat) (xs : List Int) (X : Int) (w : World) (hn : n ≤ 268435456) (hA : Lies w ao n cap xs) :
    Calls Tryz.prog 99 #[.slice ao n cap, .int .i64 X] w fun e w' => Fresh w e w' (n + 4) (xs ++ be (IntKind.u64.wrap X) 4) := by
  go_enter Tryz.func99, Tryz.ntmps99
  go_wp2_with fail
  refine (digits61 (IntKind.u64.wrap X) 4 _ (by omega) (by omega) (u64_wrap_bd X).1 (u64_wrap_bd X).2).mono ?_
  rintro e w1 ⟨g, c, rfl, ho1, hb1⟩
  go_wp2_with fail
  refine (join_any ao _ n cap 4 c xs _ w1 hn (by omega) (hA.below hb1 (Nat.le_refl _)) (Lies.own ho1)).mono ?_
  rintro e w2 ⟨a2, c2, rfl, ho2, hb2⟩
  go_wp2
  go_ret
  exact Fresh.later hb1 ⟨a2, c2, rfl, ho2, hb2⟩

set_option maxHeartbeats 400000 in
theorem ref64 (ao : Option Addr) (n cap : Nat) (xs : List Int) (X : Int) (w : World) (hn : n ≤ 268435456) (hA : Lies w ao n cap xs) :
    Calls Tryz.prog 100 #[.slice ao n cap, .int .i64 X] w fun e w' => Fresh w e w' (n + 8) (xs ++ be (IntKind.u64.wrap X) 8) := by
  go_enter Tryz.func100, Tryz.ntmps100
  go_wp2_with fail
  refine (digits61 (IntKind.u64.wrap X) 8 _ (by omega) (by omega) (u64_wrap_bd X).1 (u64_wrap_bd X).2).mono ?_
  rintro e w1 ⟨g, c, rfl, ho1, hb1⟩
  go_wp2_with fail
  refine (join_any ao _ n cap 8 c xs _ w1 hn (by omega) (hA.below hb1 (Nat.le_refl _)) (Lies.own ho1)).mono ?_
  rintro e w2 ⟨a2, c2, rfl, ho2, hb2⟩
  go_wp2
  go_ret
  exact Fresh.later hb1 ⟨a2, c2, rfl, ho2, hb2⟩

theorem wrap_nat (n : Nat) (h : n ≤ 268435456) : IntKind.u64.wrap (n : Int) = n := by
  simp [IntKind.wrap_u64]; omega
theorem rem_zero (n j : Nat) (hj : j ≤ padN n) : ((n + j) % 4 = 0 ↔ j = padN n) := by
  unfold padN at *; omega

set_option maxHeartbeats 400000 in
theorem refBytes (ao : Option Addr) (n cap : Nat) (xs : List Int) (bo : Option Addr) (dl dc : Nat) (ds : List Int) (w : World) (hn : n + 4 ≤ 268435456) (hd : n + dl + 4 ≤ 268435456) (hA : Lies w ao n cap xs) (hD : Lies w bo dl dc ds) :
    Calls Tryz.prog 102 #[.slice ao n cap, .slice bo dl dc] w fun e w' => Fresh w e w' (n + (4 + dl + padN dl)) (xs ++ (be dl 4 ++ ds ++ List.replicate (padN dl) 0)) := by
  obtain ⟨i0, hi, hz0, hz1, hz2⟩ := info_parts Tryz.info5
  have hdi : (dl : Int) ≤ 268435456 := by omega
  have hpl := padN_le dl
  go_enter Tryz.func102, Tryz.ntmps102
  go_wp2_with fail
  refine (ref32 ao n cap xs dl _ (by omega) hA).mono ?_
  rintro e w1 ⟨a1, c1, rfl, ho1, hb1⟩
  go_wp2_with fail
  refine (join_any a1 bo (n + 4) c1 dl dc _ ds w1 hn (by omega) (Lies.owned ho1) (hD.below hb1 (Nat.le_refl _))).mono ?_
  rintro e w2 ⟨a2, c2, rfl, ho2, hb2⟩
  rw [wrap_nat dl (by omega)] at ho2
  have hb12 : Below w.heap.size w w2 := hb1.trans (hb2.mono hb1.size)
  have ho12 := ownsRow_mono ho2 hb1.size
  clear ho1 ho2 hb1 hb2
  go_wp2
  go_loopw [5, 6] (fun v i wr => ∃ j : Nat, j ≤ padN dl ∧ i = .int .i64 ((dl + j : Nat) : Int) ∧ wr.ownsRow w.heap.size 5 1 v (n + 4 + dl + j) ((xs ++ be dl 4 ++ ds ++ List.replicate j (0 : Int)).map (Value.int .u8)) ∧ Below w.heap.size w wr) (fun _ i _ => dl + padN dl - (intOf i).toNat)
  case atStart => exact ⟨0, Nat.zero_le _, rfl, by simpa using ho12, hb12⟩
  case round =>
    obtain ⟨j, hj, rfl, hown, hb⟩ := hrel
    clear ho12 hb12
    have hr := rem_zero dl j hj
    by_cases hlt : j < padN dl
    · have hne : ¬ ((dl + j : Nat) : Int) % 4 = 0 := by omega
      have hneb : (((dl + j : Nat) : Int) % 4 != 0) = true := by simpa using hne
      have hji : ((dl + j : Nat) : Int) ≤ 268435460 := by omega
      clear hr hne
      generalize hz : dl + j = z at *
      go_wp2_with (at_builtin; refine wpList_append_own _ rfl (.tmp 21) (.tmp 22) 22 rfl w.heap.size 5 i0 (.int .u8 0) 1 1 Tryz.underlying22 hi hz0 hz1 hz2 rfl (by decide) _ _ _ rfl (hown.alloc _) ⟨wr.heap.size, 0, none⟩ 1 1 [.int .u8 0] rfl rfl (cell_one_new _ _ _) (by intro u hu; simp at hu; subst hu; rfl) (by unfold maxLen; omega) (by omega) (by have := hb.size; simp; omega) ?_; intro v' w1 hown1 hgrow1 hnil1)
      go_roundw
      case rel =>
        refine ⟨j + 1, by omega, by subst hz; go_num, ?_, ?_⟩
        · rw [List.replicate_succ', ← List.append_assoc, List.map_append, ← Nat.add_assoc]; simpa using hown1
        · exact (hb.alloc hb.size _).grown hgrow1 (by simp; have := hb.size; omega) (fun k hk => (hown.lt k hk).1)
      case measure => simp [intOf]; omega
    · have hne : ((dl + j : Nat) : Int) % 4 = 0 := by omega
      clear hr
      go_wp2
      go_ret
      obtain rfl : j = padN dl := by omega
      obtain ⟨a3, c3, rfl⟩ := own_len hown
      refine ⟨a3, c3, ?_, ?_, hb⟩
      · rw [← Nat.add_assoc, ← Nat.add_assoc]; rfl
      · rw [← Nat.add_assoc, ← Nat.add_assoc, ← List.append_assoc, ← List.append_assoc]; exact hown

set_option maxHeartbeats 400000 in
theorem refText (ao : Option Addr) (n cap : Nat) (xs : List Int) (s : ByteArray) (w : World) (hd : n + s.size + 4 ≤ 268435456) (hA : Lies w ao n cap xs) :
    Calls Tryz.prog 101 #[.slice ao n cap, .string s] w fun e w' => Fresh w e w' (n + (4 + s.size + padN s.size)) (xs ++ (be s.size 4 ++ nums s ++ List.replicate (padN s.size) 0)) := by
  have hcv := Lib.run_convert_string_bytes (P := Tryz.prog) w 9 22 5 s Tryz.underlying9 Tryz.underlying22 Tryz.underlying5
  have hb0 := bytesWorld_below w s
  go_enter Tryz.func101, Tryz.ntmps101
  go_wp2_with (go_at_call 102; refine (refBytes ao n cap xs _ _ _ (nums s) _ (by omega) hd (hA.below hb0 (Nat.le_refl _)) (bytesWorld_lies w s)).mono ?_; rintro e w1 ⟨a1, c1, rfl, hown, hb⟩)
  go_ret
  have hz : w.heap.size ≤ (Lib.bytesWorld w 5 s).heap.size := hb0.size
  exact ⟨a1, c1, rfl, ownsRow_mono hown hz, hb0.trans (hb.mono hz)⟩

theorem Fresh.of_box {w w' : World} {e : Ending} {n : Nat} {bs : List Int} (C : Array Value) (t : TypeId) (h : Fresh (w.alloc (.cells C t)) e w' n bs) : Fresh w e w' n bs :=
  Fresh.later ((Below.refl _ _).alloc (Nat.le_refl _) _) h

/-- The three bytes behind a list. -/
def three : List Int := [161, 162, 163]
end Go.Proofs.YtdkcplndplhblaaGreatDoor
