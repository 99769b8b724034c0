/- SameRequest and SameReply of what is the same. -/
import Derived.Test.YtdkcplndplhblaaGreatDoorPk13
import Derived.Test.YtdkcplndplhblaaGreatDoorPk03
namespace Go.Proofs.YtdkcplndplhblaaGreatDoor
open Go.RowKit
set_option maxRecDepth 100000

theorem same_true (ao bo : Option Addr) (n m c1 c2 : Nat) (xs : List Int) (w : World) (hn : n ≤ 200000000000000) (hA : Lies w ao n c1 xs) (hB : Lies w bo m c2 xs) :
    Calls Tryz.prog 11 #[.slice ao n c1, .slice bo m c2] w fun e w' => e = .returned (.bool true) ∧ Below w.heap.size w w' := by
  have h1 := hA.hlen
  have h2 := hB.hlen
  obtain rfl : n = m := by omega
  refine (same_any ao bo n n c1 c2 xs xs w hn hA hB).mono ?_
  rintro e w' ⟨rfl, m, rfl⟩
  exact ⟨by simp, below_drewN (Below.refl _ _) m⟩

set_option maxHeartbeats 1000000 in
theorem sameEntries_refl (l : List Ent) (ao : Option Addr) (n c : Nat) (bo : Option Addr) (bc : Nat) (w : World) (hA : CLies w ao n c 3 (entCells l)) (hB : CLies w bo n bc 3 (entCells l)) (hl : l.length = n) (hn : n ≤ 200000000000000) :
    Calls Tryz.prog 47 #[.slice ao n c, .slice bo n bc] w fun e w' => e = .returned (.bool true) ∧ Below w.heap.size w w' := by
  have hni : (n : Int) ≤ 200000000000000 := by omega
  go_enter Tryz.func47, Tryz.ntmps47
  go_wp2
  go_loopw [5] (fun i wr => ∃ k : Nat, k ≤ n ∧ i = .int .i64 k ∧ Below w.heap.size w wr) (fun i _ => n - (intOf i).toNat)
  case atStart => exact ⟨0, Nat.zero_le _, rfl, Below.refl _ _⟩
  case round =>
    obtain ⟨k, hk, rfl, hb⟩ := hrel
    by_cases hlt : k < n
    · have hki : decide ((k : Int) < (n : Int)) = true := by simpa using hlt
      obtain ⟨b1, o1, rfl, _, p0, p1, p2⟩ := ents_at hA (show k < l.length by omega)
      obtain ⟨b2, o2, rfl, _, q0, q1, q2⟩ := ents_at hB (show k < l.length by omega)
      have p0 := cell_later hb p0 (Nat.le_refl _)
      have p1 := cell_later hb p1 (Nat.le_refl _)
      have p2 := cell_later hb p2 (Nat.le_refl _)
      have q0 := cell_later hb q0 (Nat.le_refl _)
      have q1 := cell_later hb q1 (Nat.le_refl _)
      have q2 := cell_later hb q2 (Nat.le_refl _)
      clear hA hB
      generalize l[k] = x at *
      obtain ⟨nm, id, kd⟩ := x
      simp only at p0 p1 p2 q0 q1 q2
      go_wp2
      go_quiet (fail)
      go_wp2
      go_roundw
      case rel => exact ⟨k + 1, by omega, by go_num, below_drewN hb _⟩
      case measure => simp [intOf]; omega
    · clear hA hB
      have hki : decide ((k : Int) < (n : Int)) = false := by simp; omega
      go_wp2
      go_ret
      exact ⟨rfl, hb⟩

set_option maxHeartbeats 2000000 in
theorem sameRequest_refl (r : Req) (ao : Option Addr) (n c : Nat) (bo : Option Addr) (m d : Nat) (w : World) (hn : n ≤ 200000000000000) (hA : Lies w ao n c r.data) (hB : Lies w bo m d r.data) :
    Calls Tryz.prog 29 #[rqV r ao n c, rqV r bo m d] w fun e w' => e = .returned (.bool true) ∧ Below w.heap.size w w' := by
  have hA0 := RqBox.new w r ao n c
  go_enter Tryz.func29, Tryz.ntmps29
  go_wp2_with fail
  refine (same_true ao bo n m c d r.data _ hn ((hA.boxed _).boxed _) ((hB.boxed _).boxed _)).mono ?_
  rintro e w1 ⟨rfl, hb1⟩
  have hA1 := RqBox.later (RqBox.later hA0 (newBox _ _) (Nat.le_refl _)) hb1 (Nat.le_refl _)
  have hB0 : RqBox w1 (w.heap.size + 1) r bo m d := by
    have q := RqBox.later (RqBox.new (w.alloc (.cells #[.int .i64 r.client, .int .i64 r.seq, .int .i64 r.ack, .int .i64 r.epoch, .int .i64 r.op, .int .i64 r.id, .int .i64 r.id2, .int .i64 r.off, .int .i64 r.len, .string r.path, .string r.name, .string r.name2, .slice ao n c] 24)) r bo m d) hb1 (Nat.le_refl _)
    rw [show (w.alloc (.cells #[.int .i64 r.client, .int .i64 r.seq, .int .i64 r.ack, .int .i64 r.epoch, .int .i64 r.op, .int .i64 r.id, .int .i64 r.id2, .int .i64 r.off, .int .i64 r.len, .string r.path, .string r.name, .string r.name2, .slice ao n c] 24)).heap.size = w.heap.size + 1 by simp] at q
    exact q
  have hq1 : Below w.heap.size w w1 := (box2 w _ _).trans (hb1.mono (by simp; omega))
  obtain ⟨a0, a1, a2, a3, a4, a5, a6, a7, a8, a9, a10, a11, a12⟩ := hA1
  obtain ⟨b0, b1, b2, b3, b4, b5, b6, b7, b8, b9, b10, b11, b12⟩ := hB0
  clear hA0 hb1 hA hB
  go_wp2
  go_ret
  exact ⟨rfl, hq1⟩

set_option maxHeartbeats 2000000 in
theorem sameReply_refl (r : Rep) (ao : Option Addr) (n c : Nat) (lo : Option Addr) (ln lc : Nat) (bo : Option Addr) (m d : Nat) (mo : Option Addr) (mc : Nat) (w : World) (hn : n ≤ 200000000000000) (hln : ln ≤ 200000000000000) (hA : Lies w ao n c r.data) (hB : Lies w bo m d r.data) (hC : CLies w lo ln lc 3 (entCells r.list)) (hD : CLies w mo ln mc 3 (entCells r.list)) (hl : r.list.length = ln) :
    Calls Tryz.prog 32 #[rpV r ao n c lo ln lc, rpV r bo m d mo ln mc] w fun e w' => e = .returned (.bool true) ∧ Below w.heap.size w w' := by
  have HL : Hid (r.list.length = ln) := hl
  clear hl
  have hA0 := RpBox.new w r ao n c lo ln lc
  go_enter Tryz.func32, Tryz.ntmps32
  go_wp2_with fail
  refine (same_true ao bo n m c d r.data _ hn ((hA.boxed _).boxed _) ((hB.boxed _).boxed _)).mono ?_
  rintro e w1 ⟨rfl, hb1⟩
  have hA1 := RpBox.later (RpBox.later hA0 (newBox _ _) (Nat.le_refl _)) hb1 (Nat.le_refl _)
  have hB1 : RpBox w1 (w.heap.size + 1) r bo m d mo ln mc := by
    have q := RpBox.later (RpBox.new (w.alloc (.cells #[.int .i64 r.client, .int .i64 r.seq, .int .i64 r.epoch, .int .i64 r.op, .int .i64 r.status, .int .i64 r.ai, .int .i64 r.ak, .int .i64 r.az, .int .i64 r.ac, .slice ao n c, .slice lo ln lc, .bool r.more] 30)) r bo m d mo ln mc) hb1 (Nat.le_refl _)
    rw [show (w.alloc (.cells #[.int .i64 r.client, .int .i64 r.seq, .int .i64 r.epoch, .int .i64 r.op, .int .i64 r.status, .int .i64 r.ai, .int .i64 r.ak, .int .i64 r.az, .int .i64 r.ac, .slice ao n c, .slice lo ln lc, .bool r.more] 30)).heap.size = w.heap.size + 1 by simp] at q
    exact q
  have hq1 : Below w.heap.size w w1 := (box2 w _ _).trans (hb1.mono (by simp; omega))
  have hC1 := hC.below hq1 (Nat.le_refl _)
  have hD1 := hD.below hq1 (Nat.le_refl _)
  have hA1' := hA1
  have hB1' := hB1
  obtain ⟨a0, a1, a2, a3, a4, a5, a6, a7, a8, a9, a10, a11⟩ := hA1
  obtain ⟨b0, b1, b2, b3, b4, b5, b6, b7, b8, b9, b10, b11⟩ := hB1
  clear hA0 hb1 hA hB hC hD
  go_wp2_with fail
  clear a0 a1 a2 a3 a4 a5 a6 a7 a8 a9 a10 a11 b0 b1 b2 b3 b4 b5 b6 b7 b8 b9 b10 b11
  refine (sameEntries_refl r.list lo ln lc mo mc _ hC1 hD1 HL.out hln).mono ?_
  rintro e w2 ⟨rfl, hb2⟩
  have hA2 := RpBox.later hA1' hb2 (Nat.le_refl _)
  have hB2 := RpBox.later hB1' hb2 (Nat.le_refl _)
  have hq2 := hq1.trans (hb2.mono hq1.size)
  have hA2' := hA2
  have hB2' := hB2
  obtain ⟨a0, a1, a2, a3, a4, a5, a6, a7, a8, a9, a10, a11⟩ := hA2
  obtain ⟨b0, b1, b2, b3, b4, b5, b6, b7, b8, b9, b10, b11⟩ := hB2
  clear hA1' hB1' hC1 hD1 hb2
  go_wp2_with fail
  clear a0 a1 a2 a3 a4 a5 a6 a7 a8 a9 a10 a11 b0 b1 b2 b3 b4 b5 b6 b7 b8 b9 b10 b11
  refine (sameAttr_any r.ai r.ak r.az r.ac r.ai r.ak r.az r.ac _).mono ?_
  rintro e w3 ⟨rfl, hb3⟩
  rw [show decide (r.ai = r.ai ∧ r.ak = r.ak ∧ r.az = r.az ∧ r.ac = r.ac) = true from by simp]
  have hA3 := RpBox.later hA2' hb3 (Nat.le_refl _)
  have hB3 := RpBox.later hB2' hb3 (Nat.le_refl _)
  have hq3 := hq2.trans (hb3.mono hq2.size)
  obtain ⟨a0, a1, a2, a3, a4, a5, a6, a7, a8, a9, a10, a11⟩ := hA3
  obtain ⟨b0, b1, b2, b3, b4, b5, b6, b7, b8, b9, b10, b11⟩ := hB3
  clear hA2' hB2' hb3
  go_wp2_with fail
  go_quiet (first | (go_at_call 76; refine (rnum_id _ _).mono ?_; rintro e w4 ⟨rfl, rfl⟩; exact ⟨rfl, _, rfl⟩))
  go_wp2
  go_ret
  exact ⟨by simp, below_drewN hq3 _⟩
end Go.Proofs.YtdkcplndplhblaaGreatDoor

/- Plain mathematics: what is read, written again, is what was read. -/
namespace Go.Proofs.YtdkcplndplhblaaGreatDoor
open Go.RowKit

theorem fold_val : ∀ (l : List Int) (a : Int), l.foldl (fun x c => x * 256 + c) a = a * 256 ^ l.length + val l
  | [], a => by simp [val]
  | c :: l, a => by
    have h1 := fold_val l (a * 256 + c)
    have h2 := fold_val l (0 * 256 + c)
    simp only [List.foldl_cons, val, List.length_cons] at *
    rw [h1, h2, Int.pow_succ]
    have : (a * 256 + c) * 256 ^ l.length = a * (256 ^ l.length * 256) + (0 * 256 + c) * 256 ^ l.length := by
      rw [Int.add_mul, Int.mul_assoc, Int.mul_comm 256 (256 ^ l.length)]; simp
    omega
theorem val_cons (c : Int) (l : List Int) : val (c :: l) = c * 256 ^ l.length + val l := by
  have := fold_val l (0 * 256 + c)
  simp only [val, List.foldl_cons] at *
  rw [this]; simp

theorem p256 (k : Nat) : (256 : Int) ^ k = 2 ^ (8 * k) := by
  rw [Int.pow_mul]; rfl

theorem be_add (c : Int) (m : Nat) (X : Int) : ∀ k, k ≤ m → be (X + c * 2 ^ (8 * m)) k = be X k
  | 0, _ => rfl
  | k + 1, h => by
    simp only [be]
    rw [be_add c m X k (by omega)]
    congr 1
    have hp : (2 : Int) ^ (8 * k) ≠ 0 := Int.ne_of_gt (Int.pow_pos (by decide))
    have e : c * 2 ^ (8 * m) = (c * 2 ^ (8 * (m - k - 1)) * 256) * 2 ^ (8 * k) := by
      rw [Int.mul_assoc, Int.mul_assoc]
      congr 1
      rw [show (256 : Int) = 2 ^ 8 by rfl, ← Int.pow_add, ← Int.pow_add]
      congr 1
      omega
    rw [e, Int.add_mul_ediv_right _ _ hp, Int.add_mul_emod_self_right]

theorem be_val : ∀ (l : List Int), (∀ x ∈ l, 0 ≤ x ∧ x ≤ 255) → be (val l) l.length = l
  | [], _ => rfl
  | c :: l, h => by
    have hc := h c (by simp)
    have hl : ∀ x ∈ l, 0 ≤ x ∧ x ≤ 255 := fun x hx => h x (by simp [hx])
    have hb := val_bd l hl
    rw [val_cons, p256, List.length_cons, be]
    rw [p256] at hb
    have hp : (2 : Int) ^ (8 * l.length) ≠ 0 := Int.ne_of_gt (Int.pow_pos (by decide))
    congr 1
    · rw [Int.add_comm, Int.add_mul_ediv_right _ _ hp, Int.ediv_eq_zero_of_lt hb.1 hb.2]
      omega
    · rw [Int.add_comm, be_add c l.length (val l) l.length (Nat.le_refl _)]
      exact be_val l hl

theorem take_piece (bs : List Int) (pl k : Nat) : bs.take pl ++ (bs.drop pl).take k = bs.take (pl + k) := by
  rw [List.take_add]

theorem piece_len (bs : List Int) (n pl k : Nat) (hl : bs.length = n) (h : pl + k ≤ n) : ((bs.drop pl).take k).length = k := by simp; omega
theorem piece_by {bs : List Int} (pl k : Nat) (hby : ∀ x ∈ bs, 0 ≤ x ∧ x ≤ 255) : ∀ x ∈ (bs.drop pl).take k, 0 ≤ x ∧ x ≤ 255 := fun x hx => hby x (List.mem_of_mem_drop (List.mem_of_mem_take hx))

theorem be_piece (bs : List Int) (n pl k : Nat) (hl : bs.length = n) (h : pl + k ≤ n) (hby : ∀ x ∈ bs, 0 ≤ x ∧ x ≤ 255) : be (val ((bs.drop pl).take k)) k = (bs.drop pl).take k := by
  have := be_val _ (piece_by pl k hby)
  rwa [piece_len bs n pl k hl h] at this

theorem wrap_small (X : Int) (h0 : 0 ≤ X) (h1 : X ≤ 18446744073709551615) : IntKind.u64.wrap X = X := Go.IntWalk.u64_in X ⟨h0, h1⟩

/-- U32 and U64 with the greatest bound: they fail and answer 0, or what they answer is the next bytes. -/
theorem num_cases (k n : Nat) (bs : List Int) (pl : Nat) (code : Int) (hl : bs.length = n) (_hk : k ≤ 8) (hby : ∀ x ∈ bs, 0 ≤ x ∧ x ≤ 255) (_hp : pl ≤ n) :
    (∃ c, rdNum k n bs pl code 9223372036854775807 = (0, pl, c) ∧ (c == 0) = false) ∨
    (∃ x, rdNum k n bs pl code 9223372036854775807 = (x, pl + k, 0) ∧ pl + k ≤ n ∧ bs.take pl ++ be (IntKind.u64.wrap x) k = bs.take (pl + k)) := by
  unfold rdNum
  by_cases hc : code ≠ 0
  · exact .inl ⟨code, by rw [if_pos hc], by simpa using hc⟩
  · rw [if_neg hc]
    by_cases hn : n < pl + k
    · exact .inl ⟨11, by rw [if_pos hn], by decide⟩
    · rw [if_neg hn]
      split
      · exact .inl ⟨12, rfl, by decide⟩
      · rename_i hv
        have hb := val_bd _ (piece_by pl k hby)
        refine .inr ⟨_, rfl, by omega, ?_⟩
        rw [wrap_small _ hb.1 (by omega), be_piece bs n pl k hl (by omega) hby, take_piece]

theorem sum_cases (n : Nat) (bs : List Int) (pl : Nat) (code : Int) (hl : bs.length = n) (hby : ∀ x ∈ bs, 0 ≤ x ∧ x ≤ 255) (_hp : pl ≤ n) :
    (∃ c, rdSum n bs pl code = (0, pl, c) ∧ (c == 0) = false) ∨
    (∃ x, rdSum n bs pl code = (x, pl + 8, 0) ∧ pl + 8 ≤ n ∧ 0 ≤ x ∧ x ≤ 18446744073709551615 ∧ bs.take pl ++ be x 8 = bs.take (pl + 8)) := by
  unfold rdSum
  by_cases hc : code ≠ 0
  · exact .inl ⟨code, by rw [if_pos hc], by simpa using hc⟩
  · rw [if_neg hc]
    by_cases hn : n < pl + 8
    · exact .inl ⟨11, by rw [if_pos hn], by decide⟩
    · rw [if_neg hn]
      have hb := val_bd _ (piece_by pl 8 hby)
      rw [piece_len bs n pl 8 hl (by omega)] at hb
      have e : (256 : Int) ^ 8 = 18446744073709551616 := by decide
      refine .inr ⟨_, rfl, by omega, hb.1, by omega, ?_⟩
      rw [be_piece bs n pl 8 hl (by omega) hby, take_piece]

theorem flag_cases (n : Nat) (bs : List Int) (pl : Nat) (code : Int) (hl : bs.length = n) (hby : ∀ x ∈ bs, 0 ≤ x ∧ x ≤ 255) (_hp : pl ≤ n) :
    (∃ c, rdFlag n bs pl code = (false, pl, c) ∧ (c == 0) = false) ∨
    (∃ x : Bool, rdFlag n bs pl code = (x, pl + 4, 0) ∧ pl + 4 ≤ n ∧ bs.take pl ++ be (IntKind.u64.wrap (if x then 1 else 0)) 4 = bs.take (pl + 4)) := by
  unfold rdFlag
  by_cases hc : code ≠ 0
  · exact .inl ⟨code, by rw [if_pos hc], by simpa using hc⟩
  · rw [if_neg hc]
    by_cases hn : n < pl + 4
    · exact .inl ⟨11, by rw [if_pos hn], by decide⟩
    · rw [if_neg hn]
      by_cases hv : 1 < val ((bs.drop pl).take 4)
      · rw [if_pos hv]; exact .inl ⟨13, rfl, by decide⟩
      · rw [if_neg hv]
        have hb := val_bd _ (piece_by pl 4 hby)
        refine .inr ⟨_, rfl, by omega, ?_⟩
        have e : (if (val ((bs.drop pl).take 4) == 1) = true then (1 : Int) else 0) = val ((bs.drop pl).take 4) := by
          by_cases h1 : val ((bs.drop pl).take 4) = 1
          · simp [h1]
          · simp [h1]; omega
        rw [e, wrap_small _ hb.1 (by omega), be_piece bs n pl 4 hl (by omega) hby, take_piece]

theorem zeros_of (l : List Int) (k : Nat) (hl : l.length = k) (h : ∀ t, t < k → l.getD t 0 = 0) : l = List.replicate k 0 := by
  apply List.ext_getElem
  · simp [hl]
  · intro i h1 h2
    have := h i (by omega)
    simp [List.getD, h1] at this
    simpa using this

theorem text_cases (n : Nat) (bs : List Int) (pl : Nat) (code : Int) (hl : bs.length = n) (hby : ∀ x ∈ bs, 0 ≤ x ∧ x ≤ 255) (_hp : pl ≤ n) :
    (∃ c, rdText n bs pl code 9223372036854775807 = ([], pl, c) ∧ (c == 0) = false) ∨
    (∃ L, rdText n bs pl code 9223372036854775807 = (L, pl + (4 + L.length + padN L.length), 0) ∧ pl + (4 + L.length + padN L.length) ≤ n ∧ (∀ x ∈ L, 0 ≤ x ∧ x ≤ 255) ∧
      bs.take pl ++ (be L.length 4 ++ L ++ List.replicate (padN L.length) 0) = bs.take (pl + (4 + L.length + padN L.length))) := by
  have hv := val4_lt bs pl hby
  unfold rdText
  by_cases hc : code ≠ 0
  · exact .inl ⟨code, by rw [if_pos hc], by simpa using hc⟩
  · rw [if_neg hc]
    by_cases hn : n < pl + 4
    · exact .inl ⟨11, by rw [if_pos hn], by decide⟩
    · rw [if_neg hn]
      by_cases hw : (9223372036854775807 : Int) < 0 ∨ 9223372036854775807 < val ((bs.drop pl).take 4)
      · rw [if_pos hw]; exact .inl ⟨14, rfl, by decide⟩
      · rw [if_neg hw]
        have e4 := be_piece bs n pl 4 hl (by omega) hby
        obtain ⟨k, hk⟩ := Int.eq_ofNat_of_zero_le hv.1
        rw [hk] at e4 ⊢
        simp only [Int.toNat_natCast]
        by_cases h3 : n < pl + (4 + k + padN k)
        · rw [if_pos h3]; exact .inl ⟨11, rfl, by decide⟩
        · rw [if_neg h3]
          by_cases h4 : ∀ t, t < padN k → bs.getD (pl + (4 + k) + t) 0 = 0
          · rw [if_neg (fun h => h h4)]
            have hL := piece_len bs n (pl + 4) k hl (by omega)
            refine .inr ⟨(bs.drop (pl + 4)).take k, ?_, ?_, piece_by _ _ hby, ?_⟩
            · rw [hL]
            · rw [hL]; omega
            · rw [hL, e4]
              have hz : (bs.drop (pl + (4 + k))).take (padN k) = List.replicate (padN k) 0 :=
                zeros_of _ _ (piece_len bs n (pl + (4 + k)) (padN k) hl (by omega)) (fun t ht => by
                  have := h4 t ht
                  simpa [List.getD, List.getElem?_take, ht] using this)
              rw [← hz, ← List.append_assoc, ← List.append_assoc, take_piece, take_piece, show pl + 4 + k = pl + (4 + k) by omega, take_piece]
              congr 1; omega
          · rw [if_pos h4]; exact .inl ⟨15, rfl, by decide⟩
end Go.Proofs.YtdkcplndplhblaaGreatDoor

/- Plain mathematics: what was written is read back; what is cut off is too short. -/
namespace Go.Proofs.YtdkcplndplhblaaGreatDoor
open Go.RowKit

theorem be_mod (X : Int) (k : Nat) : be X k = be (X % 2 ^ (8 * k)) k := by
  have h := be_add (X / 2 ^ (8 * k)) k (X % 2 ^ (8 * k)) k (Nat.le_refl _)
  rw [Int.mul_comm, Int.emod_add_mul_ediv] at h
  exact h
theorem val_be : ∀ (k : Nat) (X : Int), 0 ≤ X → X < 2 ^ (8 * k) → val (be X k) = X
  | 0, X, h0, h1 => by simp at h1; simp [be, val]; omega
  | k + 1, X, h0, h1 => by
    have hp : (0 : Int) < 2 ^ (8 * k) := Int.pow_pos (by decide)
    rw [be, val_cons, be_length, p256, be_mod X k, val_be k _ (Int.emod_nonneg _ (Int.ne_of_gt hp)) (Int.emod_lt_of_pos _ hp)]
    have hq0 : 0 ≤ X / 2 ^ (8 * k) := Int.ediv_nonneg h0 (Int.le_of_lt hp)
    have hq1 : X / 2 ^ (8 * k) < 256 := by
      rw [Int.ediv_lt_iff_lt_mul hp]
      rw [show 8 * (k + 1) = 8 * k + 8 by omega, Int.pow_add] at h1
      rw [Int.mul_comm]; exact h1
    rw [Int.emod_eq_of_lt hq0 hq1]
    have := Int.emod_add_mul_ediv X (2 ^ (8 * k))
    rw [Int.mul_comm] at this
    omega

theorem back_num (k n : Nat) (bs : List Int) (pl : Nat) (X : Int) (h0 : 0 ≤ X) (h1 : X < 2 ^ (8 * k)) (hfit : pl + k ≤ n) (hpre : (bs.drop pl).take k = be X k) : rdNum k n bs pl 0 X = (X, pl + k, 0) := by
  unfold rdNum
  rw [if_neg (by simp), if_neg (by omega), hpre, val_be k X h0 h1, if_neg (by omega)]
theorem cut_num (k n : Nat) (bs : List Int) (pl : Nat) (X : Int) (h : n < pl + k) : rdNum k n bs pl 0 X = (0, pl, 11) := by
  unfold rdNum
  rw [if_neg (by simp), if_pos h]
theorem back_sum (n : Nat) (bs : List Int) (pl : Nat) (S : Int) (h0 : 0 ≤ S) (h1 : S ≤ 18446744073709551615) (hfit : pl + 8 ≤ n) (hpre : (bs.drop pl).take 8 = be S 8) : rdSum n bs pl 0 = (S, pl + 8, 0) := by
  have h2 : S < 2 ^ (8 * 8) := Int.lt_of_le_of_lt h1 (by decide)
  unfold rdSum
  rw [if_neg (by simp), if_neg (by omega), hpre, val_be 8 S h0 h2]
theorem cut_sum (n : Nat) (bs : List Int) (pl : Nat) (h : n < pl + 8) : rdSum n bs pl 0 = (0, pl, 11) := by
  unfold rdSum
  rw [if_neg (by simp), if_pos h]

theorem val_len (dl : Nat) (h : dl ≤ 1048576) : val (be (dl : Int) 4) = dl :=
  val_be 4 dl (by omega) (Int.lt_of_le_of_lt (show (dl : Int) ≤ 1048576 by omega) (by decide))
theorem back_text (n : Nat) (bs : List Int) (pl dl : Nat) (ds : List Int) (hl : ds.length = dl) (hd : dl ≤ 1048576) (hfit : pl + (4 + dl + padN dl) ≤ n) (hpre : (bs.drop pl).take (4 + dl + padN dl) = be dl 4 ++ ds ++ List.replicate (padN dl) 0) :
    rdText n bs pl 0 dl = (ds, pl + (4 + dl + padN dl), 0) := by
  have e4 : (be (dl : Int) 4).length = 4 := be_length _ _
  have h4 : (bs.drop pl).take 4 = be (dl : Int) 4 := by
    have h := congrArg (List.take 4) hpre
    have e : (be (dl : Int) 4 ++ ds ++ List.replicate (padN dl) 0).take 4 = be (dl : Int) 4 := by
      rw [List.append_assoc, List.take_append_of_le_length (by omega)]
      exact List.take_of_length_le (by omega)
    rw [e, List.take_take, Nat.min_eq_left (by omega)] at h
    exact h
  have hD : (bs.drop (pl + 4)).take dl = ds := by
    have h := congrArg (fun l => (l.drop 4).take dl) hpre
    have e : ((be (dl : Int) 4 ++ ds ++ List.replicate (padN dl) 0).drop 4).take dl = ds := by
      rw [List.append_assoc, List.drop_append_of_le_length (by omega)]
      rw [show (be (dl : Int) 4).drop 4 = [] from List.drop_of_length_le (by omega), List.nil_append, List.take_append_of_le_length (by omega)]
      exact List.take_of_length_le (by omega)
    have e2 : (((bs.drop pl).take (4 + dl + padN dl)).drop 4).take dl = (bs.drop (pl + 4)).take dl := by
      rw [List.drop_take, List.take_take, List.drop_drop, Nat.min_eq_left (by omega)]
    exact e2.symm.trans (h.trans e)
  have hZ : ∀ t, t < padN dl → bs.getD (pl + (4 + dl) + t) 0 = 0 := by
    intro t ht
    have h := congrArg (fun l => l[4 + dl + t]?) hpre
    have e : (be (dl : Int) 4 ++ ds ++ List.replicate (padN dl) 0)[4 + dl + t]? = some 0 := by
      rw [List.getElem?_append_right (by simp [e4, hl])]
      simp [e4, hl, ht]
    have e2 : ((bs.drop pl).take (4 + dl + padN dl))[4 + dl + t]? = bs[pl + (4 + dl) + t]? := by
      rw [List.getElem?_take, if_pos (by omega), List.getElem?_drop]
      congr 1; omega
    have := e2.symm.trans (h.trans e)
    simp [List.getD, this]
  unfold rdText
  rw [if_neg (by simp), if_neg (by omega), h4, val_len dl hd, if_neg (by omega)]
  simp only [Int.toNat_natCast]
  rw [if_neg (by omega), if_neg (fun h => h hZ), hD]
theorem cut_text (n : Nat) (bs : List Int) (pl dl : Nat) (hd : dl ≤ 1048576) (hcut : n < pl + (4 + dl + padN dl)) (hpre : pl + 4 ≤ n → (bs.drop pl).take 4 = be (dl : Int) 4) :
    rdText n bs pl 0 dl = ([], pl, 11) := by
  unfold rdText
  rw [if_neg (by simp)]
  by_cases h : n < pl + 4
  · rw [if_pos h]
  · rw [if_neg h, hpre (by omega), val_len dl hd, if_neg (by omega)]
    simp only [Int.toNat_natCast]
    rw [if_pos hcut]
end Go.Proofs.YtdkcplndplhblaaGreatDoor

/- What was put is taken again (numbers); the two messages' datagrams, read. -/
namespace Go.Proofs.YtdkcplndplhblaaGreatDoor
open Go.RowKit
set_option maxRecDepth 100000

/-- A number that its field can hold. -/
def Fit : Val → Prop
  | .small x => 0 ≤ x ∧ x < 4294967296
  | .great x => 0 ≤ x ∧ x < 9223372036854775808
  | _ => False
/-- Of one kind. -/
def Like : Val → Val → Prop
  | .small _, .small _ => True
  | .great _, .great _ => True
  | _, _ => False
theorem back_numM (k n : Nat) (bs : List Int) (pl : Nat) (X M : Int) (h0 : 0 ≤ X) (h1 : X < 2 ^ (8 * k)) (hM : X ≤ M) (hfit : pl + k ≤ n) (hpre : (bs.drop pl).take k = be X k) : rdNum k n bs pl 0 M = (X, pl + k, 0) := by
  unfold rdNum
  rw [if_neg (by simp), if_neg (by omega), hpre, val_be k X h0 h1, if_neg (by omega)]
theorem take_back {x k : Val} (hf : Fit x) (hl : Like k x) (n : Nat) (bs : List Int) (pl : Nat) (hfit : pl + (putV x).length ≤ n) (hpre : (bs.drop pl).take (putV x).length = putV x) :
    takeV n bs (pl, 0) k = (x, (pl + (putV x).length, 0)) ∧ takeE n bs (pl, 0) k = 0 := by
  cases x with
  | small x =>
    cases k with
    | small y =>
      obtain ⟨h0, h1⟩ := hf
      simp only [putV, be_length, wrap_small x h0 (by omega)] at hfit hpre ⊢
      have q := back_numM 4 n bs pl x 4294967295 h0 (by omega) (by omega) hfit hpre
      simp [takeV, takeE, q]
    | _ => exact hl.elim
  | great x =>
    cases k with
    | great y =>
      obtain ⟨h0, h1⟩ := hf
      simp only [putV, be_length, wrap_small x h0 (by omega)] at hfit hpre ⊢
      have q := back_numM 8 n bs pl x 9223372036854775807 h0 (Int.lt_of_lt_of_le h1 (by decide)) (by omega) hfit hpre
      simp [takeV, takeE, q]
    | _ => exact hl.elim
  | _ => exact hf.elim
/-- Lists of fields of the same numbers and kinds. -/
def Likes : List (Int × Val) → List (Int × Val) → Prop
  | [], [] => True
  | k :: ks, g :: gs => k.1 = g.1 ∧ Like k.2 g.2 ∧ Likes ks gs
  | _, _ => False
theorem cut_front {α : Type} {bs a b : List α} {pl : Nat} (h : (bs.drop pl).take (a ++ b).length = a ++ b) : (bs.drop pl).take a.length = a ∧ (bs.drop (pl + a.length)).take b.length = b := by
  constructor
  · have := congrArg (List.take a.length) h
    rw [List.take_take, Nat.min_eq_left (by simp), List.take_append_of_le_length (Nat.le_refl _), List.take_length] at this
    exact this
  · have := congrArg (List.drop a.length) h
    rw [List.drop_append_of_le_length (Nat.le_refl _), List.drop_length, List.nil_append, List.drop_take, List.drop_drop, List.length_append, Nat.add_sub_cancel_left] at this
    exact this
theorem takeL_back : ∀ (gs ks : List (Int × Val)) (n : Nat) (bs : List Int) (pl : Nat), Likes ks gs → (∀ g ∈ gs, Fit g.2) → pl + (putAll gs).length ≤ n → (bs.drop pl).take (putAll gs).length = putAll gs →
    takeL n bs ks (pl, 0) = (gs, (pl + (putAll gs).length, 0)) ∧ takeLE n bs ks (pl, 0) = 0
  | [], [], n, bs, pl, _, _, _, _ => ⟨rfl, rfl⟩
  | g :: gs, k :: ks, n, bs, pl, hk, hf, hn, hp => by
    have e : putAll (g :: gs) = putV g.2 ++ putAll gs := rfl
    rw [e] at hn hp ⊢
    obtain ⟨p1, p2⟩ := cut_front hp
    rw [List.length_append] at hn
    obtain ⟨q1, q2⟩ := take_back (hf g (by simp)) hk.2.1 n bs pl (by omega) p1
    obtain ⟨r1, r2⟩ := takeL_back gs ks n bs (pl + (putV g.2).length) hk.2.2 (fun x hx => hf x (by simp [hx])) (by omega) p2
    constructor
    · simp only [takeL, q1, r1]
      rw [List.length_append, Nat.add_assoc]
      simp [hk.1]
    · simp only [takeLE, q1, q2, r2, if_true]
  | [], _ :: _, _, _, _, h, _, _, _ => h.elim
  | _ :: _, [], _, _, _, h, _, _, _ => h.elim

/-- A datagram opens. -/
theorem openE_close {mg B : List Int} (h4 : mg.length = 4) (hB : B.length ≤ 1388) : openE mg (closeB (mg ++ B)).length (closeB (mg ++ B)) = 0 := by
  have hl : (closeB (mg ++ B)).length = 4 + B.length + 8 := by simp [closeB, be_length, h4]; omega
  have e1 : (closeB (mg ++ B)).take 4 = mg := by
    unfold closeB
    rw [List.append_assoc, List.take_append_of_le_length (by omega)]
    exact List.take_of_length_le (by omega)
  have hm : (mg ++ B).length = 4 + B.length := by simp [h4]
  have e2 : (closeB (mg ++ B)).drop (4 + B.length) = be (sumOf (mg ++ B)) 8 := by
    unfold closeB
    rw [← hm, List.drop_append_of_le_length (Nat.le_refl _), List.drop_length, List.nil_append]
  have e3 : (closeB (mg ++ B)).take (4 + B.length) = mg ++ B := by
    unfold closeB
    rw [← hm, List.take_append_of_le_length (Nat.le_refl _), List.take_length]
  have hs := sumOf_bd (mg ++ B)
  unfold openE
  rw [hl, if_neg (by omega), if_neg (by simpa using e1), if_neg (by omega), show 4 + B.length + 8 - 8 = 4 + B.length by omega, e2, e3, val_be 8 _ hs.1 (Int.lt_of_le_of_lt hs.2 (by decide)), if_neg (by simp)]
theorem close_mid {mg B : List Int} (h4 : mg.length = 4) : ((closeB (mg ++ B)).drop 4).take ((closeB (mg ++ B)).length - 12) = B ∧ (closeB (mg ++ B)).length - 12 = B.length := by
  have hl : (closeB (mg ++ B)).length = 4 + B.length + 8 := by simp [closeB, be_length, h4]; omega
  refine ⟨?_, by omega⟩
  rw [hl, show 4 + B.length + 8 - 12 = B.length by omega]
  unfold closeB
  rw [List.append_assoc, List.drop_append_of_le_length (by omega), show mg.drop 4 = [] from List.drop_of_length_le (by omega), List.nil_append, List.take_append_of_le_length (Nat.le_refl _), List.take_length]

theorem pl_enc : rqE plR = 0 ∧ rqB plR = closeB plB := ⟨by decide, rfl⟩
theorem rf_enc : rpE rfR = 0 ∧ rpB rfR = closeB rfB := ⟨by decide, rfl⟩
theorem pl_dec : rqDE (closeB plB) = 0 ∧ rqD (closeB plB) = plR := by
  obtain ⟨B, hB, hBl⟩ : ∃ B, plB = [65, 78, 81, 49] ++ B ∧ B = putAll (rqHead plR) ++ putAll [(6, Val.great 256)] := ⟨_, rfl, rfl⟩
  have hlen : B.length = 40 := by rw [hBl]; decide
  have hopen : openE [65, 78, 81, 49] (closeB plB).length (closeB plB) = 0 := by rw [hB]; exact openE_close rfl (by omega)
  obtain ⟨m1, m2⟩ := close_mid (mg := [65, 78, 81, 49]) (B := B) rfl
  rw [← hB] at m1 m2
  have hH : takeL 40 B (rqHead rq0) (0, 0) = (rqHead plR, (32, 0)) := by
    have := (takeL_back (rqHead plR) (rqHead rq0) 40 B 0 ⟨rfl, trivial, rfl, trivial, rfl, trivial, rfl, trivial, rfl, trivial, trivial⟩ (by intro g hg; simp only [rqHead, List.mem_cons, List.not_mem_nil, or_false] at hg; rcases hg with rfl | rfl | rfl | rfl | rfl <;> exact ⟨by decide, by decide⟩) (by decide) (by rw [hBl]; decide)).1
    exact this
  have hG : takeL 40 B [(6, Val.great 0)] (32, 0) = ([(6, .great 256)], (40, 0)) ∧ takeLE 40 B [(6, Val.great 0)] (32, 0) = 0 := by
    have := takeL_back [(6, Val.great 256)] [(6, Val.great 0)] 40 B 32 ⟨rfl, trivial, trivial⟩ (by intro g hg; simp at hg; subst hg; exact ⟨by decide, by decide⟩) (by decide) (by rw [hBl]; decide)
    exact this
  have t1 : rqH 40 B = (rqHead plR, (32, 0)) := hH
  have t2 : rq1 40 B = { plR with id := 0 } := by unfold rq1; rw [t1]; rfl
  have t3 : rqG (rq1 40 B) = [(6, Val.great 0)] := by rw [t2]; rfl
  have t4 : lastE 40 B (rqG (rq1 40 B)) (rqH 40 B).2 = 0 := by
    rw [t3, t1]; unfold lastE; simp only [hG.1, hG.2]; decide
  have t5 : rq2 40 B = plR := by unfold rq2; rw [t3, t1, t2]; simp only [hG.1]; rfl
  have t6 : rqTE 40 B = 0 := by
    unfold rqTE
    rw [t4, t5, t2, t1]; decide
  have t7 : rqDE (closeB plB) = 0 := by
    unfold rqDE
    rw [m1, m2, hopen, hlen, t6]; rfl
  refine ⟨t7, ?_⟩
  unfold rqD
  rw [if_pos t7, m1, m2, hlen, t5]
theorem rf_dec : rpDE (closeB rfB) = 0 ∧ rpD (closeB rfB) = rfR := by
  obtain ⟨B, hB, hBl⟩ : ∃ B, rfB = [65, 78, 82, 49] ++ B ∧ B = putAll (rpHead rfR) := ⟨_, rfl, rfl⟩
  have hlen : B.length = 28 := by rw [hBl]; decide
  have hopen : openE [65, 78, 82, 49] (closeB rfB).length (closeB rfB) = 0 := by rw [hB]; exact openE_close rfl (by omega)
  obtain ⟨m1, m2⟩ := close_mid (mg := [65, 78, 82, 49]) (B := B) rfl
  rw [← hB] at m1 m2
  have hH : takeL 28 B (rpHead rp0) (0, 0) = (rpHead rfR, (28, 0)) := by
    have := (takeL_back (rpHead rfR) (rpHead rp0) 28 B 0 ⟨rfl, trivial, rfl, trivial, rfl, trivial, rfl, trivial, rfl, trivial, trivial⟩ (by intro g hg; simp only [rpHead, List.mem_cons, List.not_mem_nil, or_false] at hg; rcases hg with rfl | rfl | rfl | rfl | rfl <;> exact ⟨by decide, by decide⟩) (by decide) (by rw [hBl]; decide)).1
    exact this
  have t1 : rpH 28 B = (rpHead rfR, (28, 0)) := hH
  have t2 : rp1 28 B = rfR := by unfold rp1; rw [t1]; rfl
  have t3 : rpG (rp1 28 B) = [] := by rw [t2]; rfl
  have t4 : lastE 28 B (rpG (rp1 28 B)) (rpH 28 B).2 = 0 := by
    rw [t3, t1]; unfold lastE; simp only [takeL, takeLE]; rfl
  have t5 : rp2 28 B = rfR := by unfold rp2; rw [t3, t1, t2]; rfl
  have t6 : rpTE 28 B = 0 := by
    unfold rpTE
    rw [t4, t5, t2, t1]; decide
  have t7 : rpDE (closeB rfB) = 0 := by
    unfold rpDE
    rw [m1, m2, hopen, hlen, t6]; rfl
  refine ⟨t7, ?_⟩
  unfold rpD
  rw [if_pos t7, m1, m2, hlen, t5]
end Go.Proofs.YtdkcplndplhblaaGreatDoor

/- head answers true. -/
namespace Go.Proofs.YtdkcplndplhblaaGreatDoor
open Go.RowKit
set_option maxRecDepth 100000

theorem pl_bys : Bys (closeB plB) := plB_bys.app (be_bys _ _)
theorem rf_bys : Bys (closeB rfB) := rfB_bys.app (be_bys _ _)
theorem pl_len : (closeB plB).length = 52 := by have h : plB.length = 44 := by decide
                                                simp [closeB, be_length, h]
theorem rf_len : (closeB rfB).length = 40 := by have h : rfB.length = 32 := by decide
                                                simp [closeB, be_length, h]
theorem encRequest_plain (w : World) : Calls Tryz.prog 18 #[rqV plR none 0 0] w fun e w' => ∃ a k, e = .returned (.tuple #[.slice a 52 k, .int .i64 0]) ∧ Lies w' a 52 k (closeB plB) ∧ Below w.heap.size w w' := by
  refine (EncodeRequest_any plR none 0 0 w (Lies.nil _) (by decide) (fun x hx => by cases hx)).mono ?_
  rintro e w' (⟨h, _⟩ | ⟨_, g, n, k, rfl, ho, hb⟩)
  · exact absurd pl_enc.1 h
  · have hL := Lies.owned ho
    rw [pl_enc.2] at hL
    have h1 := hL.hlen
    rw [pl_len] at h1
    subst h1
    exact ⟨_, k, rfl, hL, hb⟩
theorem encReply_ref (w : World) : Calls Tryz.prog 20 #[rpV rfR none 0 0 none 0 0] w fun e w' => ∃ a k, e = .returned (.tuple #[.slice a 40 k, .int .i64 0]) ∧ Lies w' a 40 k (closeB rfB) ∧ Below w.heap.size w w' := by
  refine (EncodeReply_any rfR none 0 0 none 0 0 w (Lies.nil _) (CLies.nil _ _) rfl (fun x hx => by cases hx)).mono ?_
  rintro e w' (⟨h, _⟩ | ⟨_, g, n, k, rfl, ho, hb⟩)
  · exact absurd rf_enc.1 h
  · have hL := Lies.owned ho
    rw [rf_enc.2] at hL
    have h1 := hL.hlen
    rw [rf_len] at h1
    subst h1
    exact ⟨_, k, rfl, hL, hb⟩
theorem rencRequest_plain2 (w : World) : Calls Tryz.prog 19 #[rqV plR none 0 0] w fun e w' => ∃ a k, e = .returned (.tuple #[.slice a 52 k, .int .i64 0]) ∧ Lies w' a 52 k (closeB plB) ∧ Below w.heap.size w w' := by
  refine (rencRequest_plain w).mono ?_
  rintro e w' ⟨a, m, k, rfl, hL, hb⟩
  have h1 := hL.hlen
  rw [pl_len] at h1
  subst h1
  exact ⟨a, k, rfl, hL, hb⟩
theorem rencReply_ref2 (w : World) : Calls Tryz.prog 21 #[rpV rfR none 0 0 none 0 0] w fun e w' => ∃ a k, e = .returned (.tuple #[.slice a 40 k, .int .i64 0]) ∧ Lies w' a 40 k (closeB rfB) ∧ Below w.heap.size w w' := by
  refine (rencReply_ref w).mono ?_
  rintro e w' ⟨a, m, k, rfl, hL, hb⟩
  have h1 := hL.hlen
  rw [rf_len] at h1
  subst h1
  exact ⟨a, k, rfl, hL, hb⟩
theorem decRequest_plain (a : Option Addr) (k : Nat) (er : Nat → Addr) (w : World) (hL : Lies w a 52 k (closeB plB)) (hE : Errs w er) : Calls Tryz.prog 27 #[.slice a 52 k] w fun e w' => ∃ ao n c, e = .returned (.tuple #[rqV plR ao n c, .int .i64 0]) ∧ Lies w' ao n c [] ∧ Below w.heap.size w w' := by
  refine (decodeRequest_any a 52 k _ er w hL (by omega) pl_bys hE).mono ?_
  rintro e w' ⟨r, ao, n, c, rfl, hr, ho, hb⟩
  have h1 := pl_dec
  rw [h1.2] at hr
  subst hr
  exact ⟨ao, n, c, by rw [h1.1], Lies.owned ho, hb⟩
theorem decReply_ref (a : Option Addr) (k : Nat) (er : Nat → Addr) (w : World) (hL : Lies w a 40 k (closeB rfB)) (hE : Errs w er) : Calls Tryz.prog 30 #[.slice a 40 k] w fun e w' => ∃ ao n c lo lc, e = .returned (.tuple #[rpV rfR ao n c lo 0 lc, .int .i64 0]) ∧ Lies w' ao n c [] ∧ CLies w' lo 0 lc 3 [] ∧ Below w.heap.size w w' := by
  refine (decodeReply_any a 40 k _ er w hL (by omega) rf_bys hE).mono ?_
  rintro e w' ⟨r, ao, n, c, lo, ln, lc, rfl, hr, ho, hp, hl, hb⟩
  have h1 := rf_dec
  rw [h1.2] at hr
  subst hr
  have hl0 : ln = 0 := hl.symm
  subst hl0
  exact ⟨ao, n, c, lo, lc, by rw [h1.1], Lies.owned ho, CLies.owned hp, hb⟩

set_option maxHeartbeats 4000000 in
theorem head_any (er : Nat → Addr) (w : World) (hE : Errs w er) :
    Calls Tryz.prog 7 #[] w fun e w' => e = .returned (.bool true) ∧ Below w.heap.size w w' := by
  go_enter Tryz.func7, Tryz.ntmps7
  go_wp2_with fail
  refine (plain_any _).mono ?_
  rintro e w1 ⟨rfl, hb1⟩
  have hq1 : Below w.heap.size w w1 := hb1
  clear hb1
  go_wp2_with fail
  refine (encRequest_plain _).mono ?_
  rintro e w2 ⟨a2, k2, rfl, hL2, hb2⟩
  have hq2 := hq1.trans (hb2.mono hq1.size)
  clear hb2 hq1
  go_wp2_with fail
  refine (plain_any _).mono ?_
  rintro e w3 ⟨rfl, hb3⟩
  have hq3 := hq2.trans (hb3.mono hq2.size)
  have hL3 := hL2.below hb3 (Nat.le_refl _)
  clear hb3 hq2 hL2
  go_wp2_with fail
  refine (rencRequest_plain2 _).mono ?_
  rintro e w4 ⟨a4, k4, rfl, hM4, hb4⟩
  have hq4 := hq3.trans (hb4.mono hq3.size)
  have hL4 := hL3.below hb4 (Nat.le_refl _)
  clear hb4 hq3 hL3
  go_wp2_with fail
  refine (decRequest_plain _ _ er _ hM4 (hE.below hq4 (Nat.le_refl _))).mono ?_
  rintro e w5 ⟨ao5, n5, c5, rfl, hD5, hb5⟩
  have hq5 := hq4.trans (hb5.mono hq4.size)
  have hL5 := hL4.below hb5 (Nat.le_refl _)
  have hM5 := hM4.below hb5 (Nat.le_refl _)
  clear hb5 hq4 hL4 hM4
  go_wp2_with fail
  have hbx := newBox w5 (.cells #[.int .i64 plR.client, .int .i64 plR.seq, .int .i64 plR.ack, .int .i64 plR.epoch, .int .i64 plR.op, .int .i64 plR.id, .int .i64 plR.id2, .int .i64 plR.off, .int .i64 plR.len, .string plR.path, .string plR.name, .string plR.name2, .slice ao5 n5 c5] 24)
  have hB6 : RqBox (w5.alloc (.cells #[.int .i64 plR.client, .int .i64 plR.seq, .int .i64 plR.ack, .int .i64 plR.epoch, .int .i64 plR.op, .int .i64 plR.id, .int .i64 plR.id2, .int .i64 plR.off, .int .i64 plR.len, .string plR.path, .string plR.name, .string plR.name2, .slice ao5 n5 c5] 24)).drew w5.heap.size plR ao5 n5 c5 := RqBox.new w5 plR ao5 n5 c5
  have hq6 : Below w.heap.size w (w5.alloc (.cells #[.int .i64 plR.client, .int .i64 plR.seq, .int .i64 plR.ack, .int .i64 plR.epoch, .int .i64 plR.op, .int .i64 plR.id, .int .i64 plR.id2, .int .i64 plR.off, .int .i64 plR.len, .string plR.path, .string plR.name, .string plR.name2, .slice ao5 n5 c5] 24)).drew := drw (hq5.trans (hbx.mono hq5.size))
  have hL6 : Lies (w5.alloc (.cells #[.int .i64 plR.client, .int .i64 plR.seq, .int .i64 plR.ack, .int .i64 plR.epoch, .int .i64 plR.op, .int .i64 plR.id, .int .i64 plR.id2, .int .i64 plR.off, .int .i64 plR.len, .string plR.path, .string plR.name, .string plR.name2, .slice ao5 n5 c5] 24)).drew a2 52 k2 (closeB plB) := hL5.below (drw hbx) (Nat.le_refl _)
  have hM6 : Lies (w5.alloc (.cells #[.int .i64 plR.client, .int .i64 plR.seq, .int .i64 plR.ack, .int .i64 plR.epoch, .int .i64 plR.op, .int .i64 plR.id, .int .i64 plR.id2, .int .i64 plR.off, .int .i64 plR.len, .string plR.path, .string plR.name, .string plR.name2, .slice ao5 n5 c5] 24)).drew a4 52 k4 (closeB plB) := hM5.below (drw hbx) (Nat.le_refl _)
  have hD6 : Lies (w5.alloc (.cells #[.int .i64 plR.client, .int .i64 plR.seq, .int .i64 plR.ack, .int .i64 plR.epoch, .int .i64 plR.op, .int .i64 plR.id, .int .i64 plR.id2, .int .i64 plR.off, .int .i64 plR.len, .string plR.path, .string plR.name, .string plR.name2, .slice ao5 n5 c5] 24)).drew ao5 n5 c5 [] := hD5.below (drw hbx) (Nat.le_refl _)
  have hn5 : n5 ≤ 200000000000000 := by have := hD5.hlen; simp at this; omega
  clear hL5 hM5 hD5 hq5 hbx
  generalize w5.alloc (.cells #[.int .i64 plR.client, .int .i64 plR.seq, .int .i64 plR.ack, .int .i64 plR.epoch, .int .i64 plR.op, .int .i64 plR.id, .int .i64 plR.id2, .int .i64 plR.off, .int .i64 plR.len, .string plR.path, .string plR.name, .string plR.name2, .slice ao5 n5 c5] 24) = w6 at *
  go_region_held3 (fun w' => w'.cell? ⟨w5.heap.size, 0, none⟩ = some (.int .i64 plR.client) ∧ w'.cell? ⟨w5.heap.size, 1, none⟩ = some (.int .i64 plR.seq) ∧ w'.cell? ⟨w5.heap.size, 2, none⟩ = some (.int .i64 plR.ack) ∧ w'.cell? ⟨w5.heap.size, 3, none⟩ = some (.int .i64 plR.epoch) ∧ w'.cell? ⟨w5.heap.size, 4, none⟩ = some (.int .i64 plR.op) ∧ w'.cell? ⟨w5.heap.size, 5, none⟩ = some (.int .i64 plR.id) ∧ w'.cell? ⟨w5.heap.size, 6, none⟩ = some (.int .i64 plR.id2) ∧ w'.cell? ⟨w5.heap.size, 7, none⟩ = some (.int .i64 plR.off) ∧ w'.cell? ⟨w5.heap.size, 8, none⟩ = some (.int .i64 plR.len) ∧ w'.cell? ⟨w5.heap.size, 9, none⟩ = some (.string plR.path) ∧ w'.cell? ⟨w5.heap.size, 10, none⟩ = some (.string plR.name) ∧ w'.cell? ⟨w5.heap.size, 11, none⟩ = some (.string plR.name2) ∧ w'.cell? ⟨w5.heap.size, 12, none⟩ = some (.slice ao5 n5 c5))
    (first | with_reducible exact hB6 | with_reducible exact hB7 | with_reducible exact hB8 | with_reducible exact hB9)
    (first
      | (go_at_call 11; refine (same_true a2 a4 52 52 k2 k4 _ _ (by omega) hL6 hM6).mono ?_; rintro e w7 ⟨rfl, hb7⟩; have hB7 := RqBox.later hB6 hb7 (Nat.le_refl _); have hq7 := hq6.trans (hb7.mono hq6.size))
      | (go_at_call 36; refine (plain_any _).mono ?_; rintro e w8 ⟨rfl, hb8⟩; have hB8 := RqBox.later hB7 hb8 (Nat.le_refl _); have hq8 := hq7.trans (hb8.mono hq7.size))
      | (go_at_call 29; refine (sameRequest_refl plR ao5 n5 c5 none 0 0 _ hn5 ((hD6.below hb7 (Nat.le_refl _)).below hb8 (Nat.le_refl _)) (Lies.nil _)).mono ?_; rintro e w9 ⟨rfl, hb9⟩; have hB9 := RqBox.later hB8 hb9 (Nat.le_refl _); have hq9 := hq8.trans (hb9.mono hq8.size)))
  clear hB6 hB7 hB8 hB9 hb7 hb8 hb9 hq6 hq7 hq8 hL6 hM6 hD6
  go_wp2_with (first | (go_at_call 13; refine (num_id _ _).mono ?_; rintro e wn ⟨rfl, hwn⟩; subst wn))
  refine (refusal_any _).mono ?_
  rintro e x1 ⟨rfl, hb1⟩
  have hr1 := hq9.trans (hb1.mono hq9.size)
  clear hb1 hq9
  go_wp2_with fail
  refine (encReply_ref _).mono ?_
  rintro e x2 ⟨d2, l2, rfl, hL2, hb2⟩
  have hr2 := hr1.trans (hb2.mono hr1.size)
  clear hb2 hr1
  go_wp2_with fail
  refine (refusal_any _).mono ?_
  rintro e x3 ⟨rfl, hb3⟩
  have hr3 := hr2.trans (hb3.mono hr2.size)
  have hL3 := hL2.below hb3 (Nat.le_refl _)
  clear hb3 hr2 hL2
  go_wp2_with fail
  refine (rencReply_ref2 _).mono ?_
  rintro e x4 ⟨d4, l4, rfl, hM4, hb4⟩
  have hr4 := hr3.trans (hb4.mono hr3.size)
  have hL4 := hL3.below hb4 (Nat.le_refl _)
  clear hb4 hr3 hL3
  go_wp2_with fail
  refine (decReply_ref _ _ er _ hM4 (hE.below hr4 (Nat.le_refl _))).mono ?_
  rintro e x5 ⟨ao9, n9, c9, lo9, lc9, rfl, hD5, hN5, hb5⟩
  have hr5 := hr4.trans (hb5.mono hr4.size)
  have hL5 := hL4.below hb5 (Nat.le_refl _)
  have hM5 := hM4.below hb5 (Nat.le_refl _)
  clear hb5 hr4 hL4 hM4
  go_wp2_with fail
  have hbx := newBox x5 (.cells #[.int .i64 rfR.client, .int .i64 rfR.seq, .int .i64 rfR.epoch, .int .i64 rfR.op, .int .i64 rfR.status, .int .i64 rfR.ai, .int .i64 rfR.ak, .int .i64 rfR.az, .int .i64 rfR.ac, .slice ao9 n9 c9, .slice lo9 0 lc9, .bool rfR.more] 30)
  have hB6 : RpBox (x5.alloc (.cells #[.int .i64 rfR.client, .int .i64 rfR.seq, .int .i64 rfR.epoch, .int .i64 rfR.op, .int .i64 rfR.status, .int .i64 rfR.ai, .int .i64 rfR.ak, .int .i64 rfR.az, .int .i64 rfR.ac, .slice ao9 n9 c9, .slice lo9 0 lc9, .bool rfR.more] 30)).drew x5.heap.size rfR ao9 n9 c9 lo9 0 lc9 := RpBox.new x5 rfR ao9 n9 c9 lo9 0 lc9
  have hr6 : Below w.heap.size w (x5.alloc (.cells #[.int .i64 rfR.client, .int .i64 rfR.seq, .int .i64 rfR.epoch, .int .i64 rfR.op, .int .i64 rfR.status, .int .i64 rfR.ai, .int .i64 rfR.ak, .int .i64 rfR.az, .int .i64 rfR.ac, .slice ao9 n9 c9, .slice lo9 0 lc9, .bool rfR.more] 30)).drew := drw (hr5.trans (hbx.mono hr5.size))
  have hL6 : Lies (x5.alloc (.cells #[.int .i64 rfR.client, .int .i64 rfR.seq, .int .i64 rfR.epoch, .int .i64 rfR.op, .int .i64 rfR.status, .int .i64 rfR.ai, .int .i64 rfR.ak, .int .i64 rfR.az, .int .i64 rfR.ac, .slice ao9 n9 c9, .slice lo9 0 lc9, .bool rfR.more] 30)).drew d2 40 l2 (closeB rfB) := hL5.below (drw hbx) (Nat.le_refl _)
  have hM6 : Lies (x5.alloc (.cells #[.int .i64 rfR.client, .int .i64 rfR.seq, .int .i64 rfR.epoch, .int .i64 rfR.op, .int .i64 rfR.status, .int .i64 rfR.ai, .int .i64 rfR.ak, .int .i64 rfR.az, .int .i64 rfR.ac, .slice ao9 n9 c9, .slice lo9 0 lc9, .bool rfR.more] 30)).drew d4 40 l4 (closeB rfB) := hM5.below (drw hbx) (Nat.le_refl _)
  have hD6 : Lies (x5.alloc (.cells #[.int .i64 rfR.client, .int .i64 rfR.seq, .int .i64 rfR.epoch, .int .i64 rfR.op, .int .i64 rfR.status, .int .i64 rfR.ai, .int .i64 rfR.ak, .int .i64 rfR.az, .int .i64 rfR.ac, .slice ao9 n9 c9, .slice lo9 0 lc9, .bool rfR.more] 30)).drew ao9 n9 c9 [] := hD5.below (drw hbx) (Nat.le_refl _)
  have hN6 : CLies (x5.alloc (.cells #[.int .i64 rfR.client, .int .i64 rfR.seq, .int .i64 rfR.epoch, .int .i64 rfR.op, .int .i64 rfR.status, .int .i64 rfR.ai, .int .i64 rfR.ak, .int .i64 rfR.az, .int .i64 rfR.ac, .slice ao9 n9 c9, .slice lo9 0 lc9, .bool rfR.more] 30)).drew lo9 0 lc9 3 [] := hN5.below (drw hbx) (Nat.le_refl _)
  have hn9 : n9 ≤ 200000000000000 := by have := hD5.hlen; simp at this; omega
  clear hL5 hM5 hD5 hN5 hr5 hbx
  generalize x5.alloc (.cells #[.int .i64 rfR.client, .int .i64 rfR.seq, .int .i64 rfR.epoch, .int .i64 rfR.op, .int .i64 rfR.status, .int .i64 rfR.ai, .int .i64 rfR.ak, .int .i64 rfR.az, .int .i64 rfR.ac, .slice ao9 n9 c9, .slice lo9 0 lc9, .bool rfR.more] 30) = x6 at *
  go_region_held3 (fun w' => w'.cell? ⟨x5.heap.size, 0, none⟩ = some (.int .i64 rfR.client) ∧ w'.cell? ⟨x5.heap.size, 1, none⟩ = some (.int .i64 rfR.seq) ∧ w'.cell? ⟨x5.heap.size, 2, none⟩ = some (.int .i64 rfR.epoch) ∧ w'.cell? ⟨x5.heap.size, 3, none⟩ = some (.int .i64 rfR.op) ∧ w'.cell? ⟨x5.heap.size, 4, none⟩ = some (.int .i64 rfR.status) ∧ w'.cell? ⟨x5.heap.size, 5, none⟩ = some (.int .i64 rfR.ai) ∧ w'.cell? ⟨x5.heap.size, 6, none⟩ = some (.int .i64 rfR.ak) ∧ w'.cell? ⟨x5.heap.size, 7, none⟩ = some (.int .i64 rfR.az) ∧ w'.cell? ⟨x5.heap.size, 8, none⟩ = some (.int .i64 rfR.ac) ∧ w'.cell? ⟨x5.heap.size, 9, none⟩ = some (.slice ao9 n9 c9) ∧ w'.cell? ⟨x5.heap.size, 10, none⟩ = some (.slice lo9 0 lc9) ∧ w'.cell? ⟨x5.heap.size, 11, none⟩ = some (.bool rfR.more))
    (first | with_reducible exact hB6 | with_reducible exact hB7 | with_reducible exact hB8 | with_reducible exact hB9)
    (first
      | (go_at_call 11; refine (same_true d2 d4 40 40 l2 l4 _ _ (by omega) hL6 hM6).mono ?_; rintro e x7 ⟨rfl, hb7⟩; have hB7 := RpBox.later hB6 hb7 (Nat.le_refl _); have hr7 := hr6.trans (hb7.mono hr6.size))
      | (go_at_call 37; refine (refusal_any _).mono ?_; rintro e x8 ⟨rfl, hb8⟩; have hB8 := RpBox.later hB7 hb8 (Nat.le_refl _); have hr8 := hr7.trans (hb8.mono hr7.size))
      | (go_at_call 32; refine (sameReply_refl rfR ao9 n9 c9 lo9 0 lc9 none 0 0 none 0 _ hn9 (by omega) ((hD6.below hb7 (Nat.le_refl _)).below hb8 (Nat.le_refl _)) (Lies.nil _) ((hN6.below hb7 (Nat.le_refl _)).below hb8 (Nat.le_refl _)) (CLies.nil _ _) rfl).mono ?_; rintro e x9 ⟨rfl, hb9⟩; have hB9 := RpBox.later hB8 hb9 (Nat.le_refl _); have hr9 := hr8.trans (hb9.mono hr8.size)))
  clear hB6 hB7 hB8 hB9 hb7 hb8 hb9 hr6 hr7 hr8 hL6 hM6 hD6 hN6
  go_wp2_with (first | (go_at_call 13; refine (num_id _ _).mono ?_; rintro e wn ⟨rfl, hwn⟩; subst wn))
  go_ret
  exact ⟨rfl, hr9⟩
end Go.Proofs.YtdkcplndplhblaaGreatDoor

/- ended, and MsgSums. -/
namespace Go.Proofs.YtdkcplndplhblaaGreatDoor
open Go.RowKit
set_option maxRecDepth 100000

theorem be_get (S : Int) : ∀ (k i : Nat), i < k → (be S k).getD i 0 = S / 2 ^ (8 * (k - 1 - i)) % 256
  | 0, i, h => by omega
  | k + 1, 0, _ => by simp [be]
  | k + 1, i + 1, h => by
    have := be_get S k i (by omega)
    simp only [be, List.getD_cons_succ, this]
    congr 3; omega
theorem close_get (X : List Int) (i : Nat) (hi : i < 8) : (closeB X).getD (X.length + i) 0 = sumOf X / 2 ^ (8 * (7 - i)) % 256 := by
  have h1 := be_get (sumOf X) 8 i hi
  unfold closeB
  rw [List.getD_eq_getElem?_getD, List.getElem?_append_right (by omega), Nat.add_sub_cancel_left, ← List.getD_eq_getElem?_getD]
  exact h1
theorem div_step (S : Int) (k : Nat) (_h : 0 ≤ S) : S / 2 ^ (8 * k) / 256 = S / 2 ^ (8 * (k + 1)) := by
  rw [Int.ediv_ediv_of_nonneg (Int.le_of_lt (Int.pow_pos (by decide))), show 8 * (k + 1) = 8 * k + 8 by omega, Int.pow_add]
  rfl

theorem rqB_is {r : Req} (h : rqE r = 0) (hby : Bys r.data) : ∃ X, rqB r = closeB X ∧ 4 ≤ X.length ∧ X.length ≤ 100000 ∧ Bys X := by
  obtain ⟨h1, h2, h3⟩ := requestHead_bys r
  have hsm := judge_small (rqE_zero h)
  have hvb : ∀ g ∈ pick (hasRq r.op) (rqAny r), VBy g.2 := fun g hg => requestBody_bys r hby g (pick_mem hg).1
  have hl := putAll_len hsm
  refine ⟨nums ⟨#[65, 78, 81, 49]⟩ ++ putAll (rqHead r) ++ putAll (pick (hasRq r.op) (rqAny r)), rfl, ?_, ?_, ((nums_bys _).app (putAll_bys h1)).app (putAll_bys hvb)⟩
  · have : (nums ⟨#[65, 78, 81, 49]⟩).length = 4 := by decide
    simp [this]
  · have h5 : (nums ⟨#[65, 78, 81, 49]⟩).length = 4 := by decide
    have h6 : (pick (hasRq r.op) (rqAny r)).length ≤ 4 := by
      unfold hasRq pick rqAny
      repeat (first | (split; · simp [List.filter]) | simp [List.filter])
    simp only [List.length_append]
    omega

theorem rpB_is {r : Rep} (h : rpE r = 0) (hby : Bys r.data) : ∃ X, rpB r = closeB X ∧ 4 ≤ X.length ∧ X.length ≤ 100000 ∧ Bys X := by
  obtain ⟨h1, h2, h3⟩ := replyHead_bys r
  have hsm := judge_small (rpE_zero h)
  have hvb : ∀ g ∈ pick (hasRp r.op r.status) (rpAny r), VBy g.2 := fun g hg => replyBody_bys r hby g (pick_mem hg).1
  have hl := putAll_len hsm
  refine ⟨nums ⟨#[65, 78, 82, 49]⟩ ++ putAll (rpHead r) ++ putAll (pick (hasRp r.op r.status) (rpAny r)), rfl, ?_, ?_, ((nums_bys _).app (putAll_bys h1)).app (putAll_bys hvb)⟩
  · have : (nums ⟨#[65, 78, 82, 49]⟩).length = 4 := by decide
    simp [this]
  · have h5 : (nums ⟨#[65, 78, 82, 49]⟩).length = 4 := by decide
    have h6 : (pick (hasRp r.op r.status) (rpAny r)).length ≤ 4 := pick_len _ _
    simp only [List.length_append]
    omega
end Go.Proofs.YtdkcplndplhblaaGreatDoor
