/- Book.keep by its contract. -/
import Derived.Test.YtdkcplndplhblaaGreatDoorPk05
import Derived.Deep.QuietTactic
import Derived.BigQuiet
namespace Go.Proofs.YtdkcplndplhblaaGreatDoor
open Go.RowKit
set_option maxRecDepth 100000

/-- The marks, as cells. -/
def mv (i n : Nat) : List Value := (marks i n).map (Value.int .u8)
theorem mv_length (i n : Nat) : (mv i n).length = n := by simp [mv, marks_length]
theorem mv_snoc (i n : Nat) : mv i (n + 1) = mv i n ++ [.int .u8 (markI i n)] := by simp [mv, marks_snoc]
theorem mv_take (i m k : Nat) (h : m ≤ k) : (mv i k).take m = mv i m := by
  unfold mv marks
  rw [← List.map_take, ← List.map_take, List.take_range, Nat.min_eq_left h]

/-- Another list of the same marks stays one, where a list is appended to. -/
theorem own_beside {w w' : World} {base n k m i : Nat} {v v' u : Value} (hv : w.ownsRow base 5 1 v n (mv i n)) (hl : Laid w w' v v' n k) (hv' : w'.ownsRow base 5 1 v' k (mv i k)) (hu : w.ownsRow base 5 1 u m (mv i m)) (hmk : m ≤ k) : w'.ownsRow base 5 1 u m (mv i m) := by
  refine ⟨hu.1, ?_⟩
  rcases hu.2 with h0 | ⟨b, c, cur, rfl, hb, hh, hmc, hcm, hcs, ht⟩
  · exact Or.inl h0
  right
  rcases hl with ⟨g, cap, rfl, rfl, hg⟩ | ⟨cap', rfl, hg⟩
  · by_cases hbg : b = g
    · subst hbg
      rcases hv.2 with ⟨h, _⟩ | ⟨g1, c1, cur1, h, _, hh1, _, _, hcs1, _⟩
      · cases h
      cases h
      rcases hv'.2 with ⟨h, _⟩ | ⟨g2, c2, cur2, h, _, hh2, _, _, hcs2, ht2⟩
      · cases h
      cases h
      rw [hh] at hh1
      cases hh1
      refine ⟨b, c, cur2, rfl, hb, hh2, hmc, hcm, by omega, ?_⟩
      have h3 : cur2.toList.take (m * 1) = (cur2.toList.take (k * 1)).take (m * 1) := by rw [List.take_take, Nat.min_eq_left (by omega)]
      rw [h3, ht2, Nat.mul_one, mv_take i m k hmk]
    · exact ⟨b, c, cur, rfl, hb, (hg.block b (lt_of_block hh) (by simpa using hbg)).trans hh, hmc, hcm, hcs, ht⟩
  · exact ⟨b, c, cur, rfl, hb, (hg.block b (lt_of_block hh) (by simp)).trans hh, hmc, hcm, hcs, ht⟩
theorem grown_on {w0 w w' : World} {ob row : Option Nat} (h : w0.grownBy w ob) (hg : w.grownBy w' row) (hr : ∀ b, row = some b → ob = some b ∨ w0.heap.size ≤ b) : w0.grownBy w' ob :=
  ⟨hg.os.trans h.os, hg.tape.trans h.tape, hg.output.trans h.output, Nat.le_trans h.size hg.size, fun k hk hne => by
    refine (hg.block k (Nat.lt_of_lt_of_le hk h.size) ?_).trans (h.block k hk hne)
    intro e
    rcases hr k e.symm with h1 | h1
    · exact hne h1.symm
    · omega⟩
/-- The new list lies where the old one lay, or in a new block. -/
theorem laid_grown {w0 w w' : World} {ob : Option Nat} {v v' : Value} {n k : Nat} (h : w0.grownBy w ob) (hv : ∀ b, v.ownBlock = some b → ob = some b ∨ w0.heap.size ≤ b) (hl : Laid w w' v v' n k) :
    w0.grownBy w' ob ∧ ∀ b, v'.ownBlock = some b → ob = some b ∨ w0.heap.size ≤ b := by
  rcases hl with ⟨g, cap, rfl, rfl, hg⟩ | ⟨cap', rfl, hg⟩
  · exact ⟨grown_on h hg (fun b hb => hv b hb), fun b hb => hv b hb⟩
  · refine ⟨grown_on h hg (fun b hb => by cases hb), fun b hb => ?_⟩
    cases hb
    exact .inr h.size
theorem set_mark (i k : Nat) (xs : List Int) (h : k < xs.length) : ((marks i k ++ xs.drop k).map (Value.int .u8)).set k (.int .u8 (markI i k)) = (marks i (k + 1) ++ xs.drop (k + 1)).map (Value.int .u8) := by
  rw [List.drop_eq_getElem_cons h, marks_snoc, List.map_append, List.set_append_right _ _ (by simp [marks_length]), List.map_cons, List.length_map, marks_length, Nat.sub_self, List.set_cons_zero, List.map_append, List.map_append, List.append_assoc]
  rfl

theorem own_val {w : World} {base e s n : Nat} {v : Value} {xs : List Value} (h : w.ownsRow base e s v n xs) : ∃ ao c, v = .slice ao n c := by
  rcases h.2 with ⟨rfl, rfl⟩ | ⟨g, cap, cur, rfl, _⟩
  · exact ⟨_, _, rfl⟩
  · exact ⟨_, _, rfl⟩
/-- Blocks whose elements are of the type e are as they were. -/
def Ty (e : Nat) (w w' : World) : Prop := ∀ (b : Nat) (cs : Array Value), w.heap[b]? = some (Obj.cells cs e) → w'.heap[b]? = some (Obj.cells cs e)
theorem Ty.trans {e : Nat} {a b c : World} (h : Ty e a b) (k : Ty e b c) : Ty e a c := fun i cs hi => k i cs (h i cs hi)
theorem Ty.alloc (e : Nat) (w : World) (o : Obj) : Ty e w (w.alloc o) := fun b _ hb => (Below.heap_alloc w o b (lt_of_block hb)).trans hb
theorem Ty.laid {w w' : World} {base e e' n k : Nat} {v v' : Value} {xs : List Value} (hl : Laid w w' v v' n k) (ho : w.ownsRow base e' 1 v n xs) (hne : e ≠ e') : Ty e w w' := by
  intro b cs hb
  rcases hl with ⟨g, cap, rfl, _, hg⟩ | ⟨_, _, hg⟩
  · rcases ho.2 with ⟨h, _⟩ | ⟨g1, c1, cur, h, _, hh, _⟩
    · cases h
    · cases h
      refine (hg.block b (lt_of_block hb) ?_).trans hb
      intro h2
      cases h2
      rw [hb] at hh
      simp at hh
      exact hne hh.2
  · exact (hg.block b (lt_of_block hb) (by simp)).trans hb
theorem Ty.set {w : World} {e bk j : Nat} {cs0 : Array Value} (hb : w.heap[bk]? = some (.cells cs0 59)) (hne : e ≠ 59) (u : Value) : Ty e w (w.setCell ⟨bk, j, none⟩ u) := by
  intro b cs h
  rw [heap_setCell_other _ _ _ _ (by
    rintro rfl
    rw [h] at hb
    simp at hb
    exact hne hb.2)]
  exact h
theorem own_ty {w w' : World} {base e n : Nat} {v : Value} {xs : List Value} (h : w.ownsRow base e 1 v n xs) (t : Ty e w w') : w'.ownsRow base e 1 v n xs := by
  obtain ⟨h1, h2⟩ := h
  refine ⟨h1, ?_⟩
  rcases h2 with h2 | ⟨g, cap, cur, hv, hg, hh, r⟩
  · exact Or.inl h2
  · exact Or.inr ⟨g, cap, cur, hv, hg, t g cur hh, r⟩
theorem lies_ty {w w' : World} {ao : Option Addr} {n c : Nat} {bs : List Int} (h : Lies w ao n c bs) (hm : ∀ ad, ao = some ad → ∃ cs, w.heap[ad.block]? = some (.cells cs 5)) (t : Ty 5 w w') : Lies w' ao n c bs :=
  ⟨h.hlen, h.hle, h.hnone, fun ad had j u hu => by
    obtain ⟨cs, hcs⟩ := hm ad had
    rw [← h.hcells ad had j u hu]
    exact World.cell?_of_block (w := w) (by rw [add_block]; exact (t _ cs hcs).trans hcs.symm)⟩
/-- Old blocks that are not B's are as they were. -/
structure Fr (B : Nat → Prop) (w w' : World) : Prop where
  os : w'.os = w.os
  tape : w'.tape = w.tape
  output : w'.output = w.output
  size : w.heap.size ≤ w'.heap.size
  block : ∀ k, k < w.heap.size → ¬ B k → w'.heap[k]? = w.heap[k]?
theorem Fr.trans {B : Nat → Prop} {a b c : World} (h : Fr B a b) (k : Fr B b c) : Fr B a c :=
  ⟨k.os.trans h.os, k.tape.trans h.tape, k.output.trans h.output, Nat.le_trans h.size k.size, fun j hj hB => (k.block j (Nat.lt_of_lt_of_le hj h.size) hB).trans (h.block j hj hB)⟩
theorem Fr.alloc (B : Nat → Prop) (w : World) (o : Obj) : Fr B w (w.alloc o) := ⟨rfl, rfl, rfl, by simp, fun k hk _ => Below.heap_alloc w o k hk⟩
theorem Fr.laid {B : Nat → Prop} {w w' : World} {n k : Nat} {v v' : Value} (hl : Laid w w' v v' n k) (hB : ∀ b, v.ownBlock = some b → B b) : Fr B w w' := by
  rcases hl with ⟨g, cap, rfl, _, hg⟩ | ⟨_, _, hg⟩
  · exact ⟨hg.os, hg.tape, hg.output, hg.size, fun j hj hnb => hg.block j hj (fun h => hnb (by cases h; exact hB _ rfl))⟩
  · exact ⟨hg.os, hg.tape, hg.output, hg.size, fun j hj _ => hg.block j hj (by simp)⟩
theorem Fr.set {B : Nat → Prop} {w : World} {bk : Nat} (hB : B bk) (j : Nat) (u : Value) : Fr B w (w.setCell ⟨bk, j, none⟩ u) :=
  ⟨rfl, rfl, rfl, by simp, fun k _ hk => heap_setCell_other _ _ _ _ (by rintro rfl; exact hk hB)⟩
theorem laid_at {w w' : World} {n k : Nat} {v v' : Value} (hl : Laid w w' v v' n k) : ∀ b, v'.ownBlock = some b → v.ownBlock = some b ∨ w.heap.size ≤ b := by
  rcases hl with ⟨g, cap, rfl, rfl, _⟩ | ⟨cap', rfl, _⟩
  · exact fun b hb => .inl hb
  · intro b hb
    cases hb
    exact .inr (Nat.le_refl _)
theorem bk_at {w : World} {base n c : Nat} {ao : Option Addr} {xs : List Value} (h : w.ownsRow base 5 1 (.slice ao n c) n xs) (ad : Addr) (had : ao = some ad) : (Value.slice ao n c).ownBlock = some ad.block ∧ base ≤ ad.block ∧ ∃ cs, w.heap[ad.block]? = some (.cells cs 5) := by
  subst had
  rcases h.2 with ⟨h, _⟩ | ⟨g, cap, cur, h, hb, hh, _⟩
  · cases h
  · cases h
    exact ⟨rfl, hb, cur, hh⟩

/-- The book with three lists more. -/
theorem Bk.more {w wd : World} {vE : Value} {base bk i : Nat} {B B' : Nat → Prop} {es : List Bl} {vL vN : Value} {e0 e1 e2 : Bl} (hB : Bk w base bk vE B es) (hes : es.length = 3 * i) (hbb : ∀ k, B k → B' k) (ht : Ty 5 w wd) (hbox : wd.heap[bk]? = some (.cells #[vL, vN, vE] 59))
    (hL : wd.ownsRow base 22 1 vL (3 * i + 3) (es.map Bl.val ++ [e0.val, e1.val, e2.val])) (hN : wd.ownsRow base 3 1 vN (3 * i + 3) ((es.map fun e => Value.int .i64 (e.len : Int)) ++ [.int .i64 (e0.len : Int), .int .i64 (e1.len : Int), .int .i64 (e2.len : Int)]))
    (hBL : ∀ k, vL.ownBlock = some k → B' k) (hBN : ∀ k, vN.ownBlock = some k → B' k)
    (h0 : wd.ownsRow base 5 1 e0.val e0.len (mv i e0.len)) (h1 : wd.ownsRow base 5 1 e1.val e1.len (mv i e1.len)) (h2 : wd.ownsRow base 5 1 e2.val e2.len (mv i e2.len))
    (b0 : ∀ b, e0.val.ownBlock = some b → B' b) (b1 : ∀ b, e1.val.ownBlock = some b → B' b) (b2 : ∀ b, e2.val.ownBlock = some b → B' b) : Bk wd base bk vE B' (es ++ [e0, e1, e2]) := by
  have hlen : (es ++ [e0, e1, e2]).length = 3 * i + 3 := by simp [hes]
  refine ⟨⟨vL, vN, hbox, ?_, ?_, hBL, hBN⟩, ⟨hB.hbk.1, hbb _ hB.hbk.2⟩, fun j hj => ?_, fun e he ad had => ?_⟩
  · rw [hlen, List.map_append]; exact hL
  · rw [hlen, List.map_append]; exact hN
  · by_cases hjl : j < es.length
    · rw [List.getElem_append_left hjl]
      exact lies_ty (hB.lies j hjl) (fun ad had => (hB.mine _ (List.getElem_mem hjl) ad had).2.2) ht
    · rw [List.getElem_append_right (by omega)]
      have hd : j / 3 = i := by omega
      rw [hd]
      rcases (show j - es.length = 0 ∨ j - es.length = 1 ∨ j - es.length = 2 by omega) with h | h | h <;> simp only [h]
      · exact Lies.owned h0
      · exact Lies.owned h1
      · exact Lies.owned h2
  · rcases List.mem_append.1 he with h | h
    · obtain ⟨x1, x2, cs, x3⟩ := hB.mine e h ad had
      exact ⟨hbb _ x1, x2, cs, ht _ cs x3⟩
    · simp at h
      rcases h with rfl | rfl | rfl
      · obtain ⟨x1, x2, x3⟩ := bk_at h0 ad had
        exact ⟨b0 _ x1, x2, x3⟩
      · obtain ⟨x1, x2, x3⟩ := bk_at h1 ad had
        exact ⟨b1 _ x1, x2, x3⟩
      · obtain ⟨x1, x2, x3⟩ := bk_at h2 ad had
        exact ⟨b2 _ x1, x2, x3⟩

theorem Tryz.info3 : (Tryz.prog.info? 3).map (fun i => (i.zero, i.size, i.bytes)) = some (some (.int .i64 0), 1, 8) := by kernel_rfl
theorem Tryz.info22 : (Tryz.prog.info? 22).map (fun i => (i.zero, i.size, i.bytes)) = some (some (.slice none 0 0), 1, 24) := by kernel_rfl

set_option maxHeartbeats 2000000 in
theorem bkKeep_any (vE : Value) (base bk i n cl : Nat) (B : Nat → Prop) (es : List Bl) (al : Option Addr) (xs : List Int) (w : World) (hbase : base ≤ w.heap.size) (hB : Bk w base bk vE B es) (hes : es.length = 3 * i) (hi : i ≤ 100000000) (hn : n ≤ 1000000000)
    (hown : w.ownsRow base 5 1 (.slice al n cl) n (xs.map (Value.int .u8))) (hnB : ∀ b, (Value.slice al n cl).ownBlock = some b → ¬ B b) :
    Calls Tryz.prog 57 #[.pointer (some ⟨bk, 0, none⟩), .slice al n cl] w fun e w' => e = .returned (.tuple #[]) ∧ ∃ e1 e2, Bk w' base bk vE (fun k => B k ∨ (Value.slice al n cl).ownBlock = some k ∨ w.heap.size ≤ k) (es ++ [⟨al, n, cl⟩, e1, e2]) ∧ e1.len = n + 1 ∧ e2.len = n + 92 ∧
      w'.os = w.os ∧ w'.tape = w.tape ∧ w'.output = w.output ∧ w.heap.size ≤ w'.heap.size ∧ ∀ k, k < w.heap.size → ¬ B k → (Value.slice al n cl).ownBlock ≠ some k → w'.heap[k]? = w.heap[k]? := by
  obtain ⟨i5, hi5, hz0, hz1, hz2⟩ := info_parts Tryz.info5
  have hii : (i : Int) ≤ 100000000 := by omega
  have hni : (n : Int) ≤ 1000000000 := by omega
  have hlx : xs.length = n := by simpa using hown.1
  obtain ⟨⟨vL, vN, hbox, hL, hN, hBL, hBN⟩, hbk, hlies, hmine⟩ := id hB
  rw [hes] at hL hN
  obtain ⟨aL, cL, rfl⟩ := own_val hL
  obtain ⟨aN, cN, rfl⟩ := own_val hN
  have b0 : w.cell? ⟨bk, 0, none⟩ = some (.slice aL (3 * i) cL) := by rw [cell_of_row w bk 0 _ _ (0, 0) hbox]; rfl
  have hdiv : ((3 * i : Nat) : Int) / 3 = i := by omega
  go_enter Tryz.func57, Tryz.ntmps57
  go_wp2_with fail
  go_loopw [6] (fun j wr => ∃ k : Nat, k ≤ n ∧ j = .int .i64 k ∧ wr.ownsRow base 5 1 (.slice al n cl) n ((marks i k ++ xs.drop k).map (Value.int .u8)) ∧ w.grownBy wr (Value.slice al n cl).ownBlock) (fun j _ => n - (intOf j).toNat)
  case atStart => exact ⟨0, Nat.zero_le _, rfl, by simpa [marks] using hown, World.grownBy.refl _ _⟩
  case round =>
    obtain ⟨k, hk, rfl, ho, hg⟩ := hrel
    by_cases hlt : k < n
    · obtain ⟨g, rfl⟩ : ∃ g, al = some ⟨g, 0, none⟩ := by
        rcases ho.2 with ⟨_, h0⟩ | ⟨g, c, cur, hv, _⟩
        · omega
        · cases hv; exact ⟨g, rfl⟩
      have hcell : ∃ z, wr.cell? ⟨g, k, none⟩ = some z := by
        rw [ho.cellAt k (by omega)]
        exact ⟨_, List.getElem?_eq_getElem (by rw [ho.1]; omega)⟩
      obtain ⟨z, hcell⟩ := hcell
      have hfz := ho.frozenAt k
      have hst := ho.stored k (.int .u8 (markI i k))
      rw [set_mark i k xs (by omega)] at hst
      have HST : Hid _ := hst
      clear hst
      go_wp2_with (go_at_call 59; refine (mark4_any i k _ (by omega) (by omega)).mono ?_; rintro e wq ⟨rfl, hq⟩; subst wq)
      go_roundw
      case rel => exact ⟨k + 1, by omega, by go_num, HST.out.1, grown_trans hg HST.out.2⟩
      case measure => simp [intOf]; omega
    · obtain rfl : k = n := by omega
      have ho1 : wr.ownsRow base 5 1 (.slice al k cl) k (mv i k) := by
        have := ho
        rw [List.drop_of_length_le (by omega), List.append_nil] at this
        exact this
      clear ho hown
      have hsz := hg.size
      have hob : ∀ b, (Value.slice al k cl).ownBlock = some b → (Value.slice al k cl).ownBlock = some b ∨ w.heap.size ≤ b := fun b hb => .inl hb
      go_wp2_with fail
      refine (mark4_any i k _ (by omega) (by omega)).mono ?_
      rintro e wq ⟨rfl, hq⟩
      subst wq
      go_wp2_with (at_builtin; refine wpList_append_own_split _ rfl _ _ 22 rfl base 5 i5 (.int .u8 0) 1 1 Tryz.underlying22 hi5 hz0 hz1 hz2 rfl (by decide) _ _ _ rfl (ho1.alloc _) ⟨wr.heap.size, 0, none⟩ 1 1 [.int .u8 (markI i k)] (by decide) rfl rfl (cell_one_new _ _ _) (by intro u hu; simp at hu; subst hu; rfl) (by unfold maxLen; omega) (by omega) (by simp; omega) ?_; intro v1 w1 hv1 hl1)
      rw [← mv_snoc] at hv1
      have hga := grown_trans hg (World.grownBy_alloc wr (.cells #[.int .u8 (markI i k)] 5) _)
      have hg1 := laid_grown hga hob hl1
      have ho2 := own_beside (ho1.alloc _) hl1 hv1 (ho1.alloc _) (by omega)
      have hsz1 := hg1.1.size
      clear ho1 hga
      refine (mark4_any i k _ (by omega) (by omega)).mono ?_
      rintro e wq ⟨rfl, hq⟩
      subst wq
      have hk1 : ((k + 1 : Nat) : Int) = (k : Int) + 1 := by omega
      have hM2 := mark4_any i (k + 1) w1 (by omega) (by omega)
      rw [hk1] at hM2
      go_wp2_with fail
      refine hM2.mono ?_
      rintro e wq ⟨rfl, hq⟩
      subst wq
      go_wp2_with (at_builtin; refine wpList_append_own_split _ rfl _ _ 22 rfl base 5 i5 (.int .u8 0) 1 1 Tryz.underlying22 hi5 hz0 hz1 hz2 rfl (by decide) _ _ _ rfl (ho2.alloc _) ⟨w1.heap.size, 0, none⟩ 2 2 [.int .u8 (markI i k), .int .u8 (markI i (k + 1))] (by decide) rfl rfl (cells_new _ _ _ _ rfl) (by intro u hu; simp at hu; rcases hu with rfl | rfl <;> rfl) (by unfold maxLen; omega) (by omega) (by simp; omega) ?_; intro v2 w2 hv2 hl2)
      have hmv2 : mv i (k + 2) = mv i k ++ [.int .u8 (markI i k), .int .u8 (markI i (k + 1))] := by rw [mv_snoc, mv_snoc, List.append_assoc]; rfl
      rw [← hmv2] at hv2
      have hga := grown_trans hg1.1 (World.grownBy_alloc w1 (.cells #[.int .u8 (markI i k), .int .u8 (markI i (k + 1))] 5) _)
      have hg2 := laid_grown hga hob hl2
      have hl2o := own_beside (ho2.alloc _) hl2 hv2 (ho2.alloc _) (by omega)
      have h12o := own_beside (ho2.alloc _) hl2 hv2 (hv1.alloc _) (by omega)
      clear ho2 hga hmv2 hM2 hsz1 hsz hl1 hl2 hv1
      go_loopw [8, 9] (fun v j wr => ∃ m : Nat, 2 ≤ m ∧ m ≤ 92 ∧ j = .int .i64 ((k + m : Nat) : Int) ∧ wr.ownsRow base 5 1 v (k + m) (mv i (k + m)) ∧ wr.ownsRow base 5 1 (.slice al k cl) k (mv i k) ∧ wr.ownsRow base 5 1 v1 (k + 1) (mv i (k + 1)) ∧
          w.grownBy wr (Value.slice al k cl).ownBlock ∧ (∀ b, v.ownBlock = some b → (Value.slice al k cl).ownBlock = some b ∨ w.heap.size ≤ b)) (fun _ j _ => k + 92 - (intOf j).toNat)
      case atStart => exact ⟨2, by omega, by omega, by go_num, hv2, hl2o, h12o, hg2.1, hg2.2⟩
      case round =>
        clear hv2 hl2o h12o hg2
        obtain ⟨m, hm2, hm92, rfl, hv, hlo, h1o, hg, hvb⟩ := hrel
        have hsz := hg.size
        have hcast : ((k + m : Nat) : Int) = (k : Int) + m := by omega
        by_cases hlt : m < 92
        · have hM := fun W => mark4_any i (k + m) W (by omega) (by omega)
          have hmi : (m : Int) < 92 := by omega
          generalize hz : k + m = z at *
          have hzk : (z : Int) < (k : Int) + 92 := by omega
          clear hcast
          go_wp2_with (first
            | (go_at_call 59; refine (hM _).mono ?_; rintro e wq ⟨rfl, hq⟩; subst wq)
            | (at_builtin; refine wpList_append_own_split _ rfl _ _ 22 rfl base 5 i5 (.int .u8 0) 1 1 Tryz.underlying22 hi5 hz0 hz1 hz2 rfl (by decide) _ _ _ rfl (hv.alloc _) ⟨wr.heap.size, 0, none⟩ 1 1 [.int .u8 (markI i z)] (by decide) rfl rfl (cell_one_new _ _ _) (by intro u hu; simp at hu; subst hu; rfl) (by unfold maxLen; omega) (by omega) (by simp; omega) ?_; intro v3 w3 hv3 hl3))
          rw [← mv_snoc] at hv3
          have hga := grown_trans hg (World.grownBy_alloc wr (.cells #[.int .u8 (markI i z)] 5) _)
          have hg3 := laid_grown hga hvb hl3
          have hlo3 := own_beside (hv.alloc _) hl3 hv3 (hlo.alloc _) (by omega)
          have h1o3 := own_beside (hv.alloc _) hl3 hv3 (h1o.alloc _) (by omega)
          subst hz
          go_roundw
          case rel => exact ⟨m + 1, by omega, by omega, by go_num, hv3, hlo3, h1o3, hg3.1, hg3.2⟩
          case measure => simp [intOf]; omega
        · obtain rfl : m = 92 := by omega
          clear hlt hm2 hm92 hcast
          obtain ⟨i24, hi24, hy0, hy1, hy2⟩ := info_parts Tryz.info22
          obtain ⟨i3, hi3, hx0, hx1, hx2⟩ := info_parts Tryz.info3
          obtain ⟨a1, c1, rfl⟩ := own_val h1o
          obtain ⟨a2, c2, rfl⟩ := own_val hv
          have hnk : ∀ b, B b → some b ≠ (Value.slice al k cl).ownBlock := fun b hb h => hnB b h.symm hb
          have hB2 : Bk wr base bk vE B es := hB.keep fun b hb hBb => hg.block b hb (hnk b hBb)
          have hboxr : wr.heap[bk]? = some (.cells #[.slice aL (3 * i) cL, .slice aN (3 * i) cN, vE] 59) := (hg.block bk (lt_of_block hbox) (hnk bk hbk.2)).trans hbox
          have same : ∀ {e m : Nat} {v : Value} {ys : List Value}, w.ownsRow base e 1 v m ys → (∀ b, v.ownBlock = some b → B b) → wr.ownsRow base e 1 v m ys := by
            intro e m v ys ho hb
            obtain ⟨h1, h2⟩ := ho
            refine ⟨h1, ?_⟩
            rcases h2 with h2 | ⟨g, cap, cur, hv, hg', hh, r⟩
            · exact Or.inl h2
            · refine Or.inr ⟨g, cap, cur, hv, hg', (hg.block g (lt_of_block hh) (hnk g (hb g ?_))).trans hh, r⟩
              subst hv; rfl
          have hLr := same hL hBL
          have hNr := same hN hBN
          clear same b0
          have b0 : wr.cell? ⟨bk, 0, none⟩ = some (.slice aL (3 * i) cL) := by rw [cell_of_row wr bk 0 _ _ (0, 0) hboxr]; rfl
          have hTA5 := Ty.alloc 5 wr (.cells #[.slice al k cl, .slice a1 (k + 1) c1, .slice a2 (k + 92) c2] 22)
          have hTA3 := Ty.alloc 3 wr (.cells #[.slice al k cl, .slice a1 (k + 1) c1, .slice a2 (k + 92) c2] 22)
          have hTA59 := Ty.alloc 59 wr (.cells #[.slice al k cl, .slice a1 (k + 1) c1, .slice a2 (k + 92) c2] 22)
          have hFA := Fr.alloc B wr (.cells #[.slice al k cl, .slice a1 (k + 1) c1, .slice a2 (k + 92) c2] 22)
          have hLra := hLr.alloc (.cells #[.slice al k cl, .slice a1 (k + 1) c1, .slice a2 (k + 92) c2] 22)
          go_wp2_with (first
            | (at_builtin; refine wpList_append_own_split _ rfl _ _ 55 rfl base 22 i24 (.slice none 0 0) 1 24 Tryz.underlying55 hi24 hy0 hy1 hy2 rfl (by decide) _ _ _ rfl hLra ⟨wr.heap.size, 0, none⟩ 3 3 [.slice al k cl, .slice a1 (k + 1) c1, .slice a2 (k + 92) c2] (by decide) rfl rfl (cells_new _ _ _ _ rfl) (by intro u hu; simp at hu; rcases hu with rfl | rfl | rfl <;> rfl) (by unfold maxLen; omega) (by omega) (by simp; omega) ?_; intro vA wA hoA hlA; have hboxA := hTA59.trans (Ty.laid hlA hLra (by decide)) _ _ hboxr; obtain ⟨aA, cA, rfl⟩ := own_val hoA; have f0 : wA.cell? ⟨bk, 0, none⟩ = some (.slice aL (3 * i) cL) := (cell_of_row wA bk 0 _ _ (0, 0) hboxA).trans rfl; have z0 := frozen_of_row wA bk 0 _ _ hboxA; have f1 : (wA.setCell ⟨bk, 0, none⟩ (.slice aA (3 * i + 3) cA)).cell? ⟨bk, 1, none⟩ = some (.slice aN (3 * i) cN) := (World.cell?_setCell_other _ _ _ _ (by simp)).trans ((cell_of_row wA bk 1 _ _ (0, 0) hboxA).trans rfl); have hboxB : (wA.setCell ⟨bk, 0, none⟩ (.slice aA (3 * i + 3) cA)).heap[bk]? = some (.cells #[.slice aA (3 * i + 3) cA, .slice aN (3 * i) cN, vE] 59) := heap_setCell_same wA bk 0 _ _ _ hboxA; have hTB3 := hTA3.trans ((Ty.laid hlA hLra (by decide)).trans (Ty.set (j := 0) hboxA (by decide) (.slice aA (3 * i + 3) cA))); have hNb := (own_ty hNr hTB3).alloc (.cells #[.int .i64 k, .int .i64 ((k : Int) + 1), .int .i64 ((k : Int) + 92)] 3); have hszA : w.heap.size ≤ wA.heap.size := Nat.le_trans hsz (Nat.le_trans hFA.size (Fr.laid hlA hBL).size))
            | (at_builtin; refine wpList_append_own_split _ rfl _ _ 56 rfl base 3 i3 (.int .i64 0) 1 8 Tryz.underlying56 hi3 hx0 hx1 hx2 rfl (by decide) _ _ _ rfl hNb ⟨wA.heap.size, 0, none⟩ 3 3 [.int .i64 k, .int .i64 ((k : Int) + 1), .int .i64 ((k : Int) + 92)] (by decide) rfl rfl (cells_new _ _ _ _ (by simp)) (by intro u hu; simp at hu; rcases hu with rfl | rfl | rfl <;> rfl) (by unfold maxLen; omega) (by omega) (by simp; omega) ?_; intro vC wC hoC hlC; have hboxC := (Ty.alloc 59 _ (.cells #[.int .i64 k, .int .i64 ((k : Int) + 1), .int .i64 ((k : Int) + 92)] 3)).trans (Ty.laid hlC hNb (by decide)) _ _ hboxB; obtain ⟨aC, cC, rfl⟩ := own_val hoC; have f2 : wC.cell? ⟨bk, 1, none⟩ = some (.slice aN (3 * i) cN) := (cell_of_row wC bk 1 _ _ (0, 0) hboxC).trans rfl; have z1 := frozen_of_row wC bk 1 _ _ hboxC))
          first | go_end0 | refine bodyPost_ret (results_none rfl _ _ _) rfl ?_
          have hboxD : (wC.setCell ⟨bk, 1, none⟩ (.slice aC (3 * i + 3) cC)).heap[bk]? = some (.cells #[.slice aA (3 * i + 3) cA, .slice aC (3 * i + 3) cC, vE] 59) := heap_setCell_same wC bk 1 _ _ _ hboxC
          have hsB : Ty 5 wA (wC.setCell ⟨bk, 1, none⟩ (.slice aC (3 * i + 3) cC)) := (Ty.set (j := 0) hboxA (by decide) (.slice aA (3 * i + 3) cA)).trans ((Ty.alloc 5 _ _).trans ((Ty.laid hlC hNb (by decide)).trans (Ty.set (j := 1) hboxC (by decide) _)))
          have hT5 : Ty 5 wr (wC.setCell ⟨bk, 1, none⟩ (.slice aC (3 * i + 3) cC)) := hTA5.trans ((Ty.laid hlA hLra (by decide)).trans hsB)
          have hs24 : Ty 22 wA (wC.setCell ⟨bk, 1, none⟩ (.slice aC (3 * i + 3) cC)) := (Ty.set (j := 0) hboxA (by decide) (.slice aA (3 * i + 3) cA)).trans ((Ty.alloc 22 _ _).trans ((Ty.laid hlC hNb (by decide)).trans (Ty.set (j := 1) hboxC (by decide) _)))
          have hF : Fr B wr (wC.setCell ⟨bk, 1, none⟩ (.slice aC (3 * i + 3) cC)) := hFA.trans ((Fr.laid hlA hBL).trans ((Fr.set hbk.2 0 _).trans ((Fr.alloc B _ _).trans ((Fr.laid hlC hBN).trans (Fr.set hbk.2 1 _)))))
          have hszB : w.heap.size ≤ ((wA.setCell ⟨bk, 0, none⟩ (.slice aA (3 * i + 3) cA)).alloc (.cells #[.int .i64 k, .int .i64 ((k : Int) + 1), .int .i64 ((k : Int) + 92)] 3)).heap.size := by simp; omega
          have q1 : ((k + 1 : Nat) : Int) = (k : Int) + 1 := by omega
          have q92 : ((k + 92 : Nat) : Int) = (k : Int) + 92 := by omega
          refine ⟨rfl, ⟨a1, k + 1, c1⟩, ⟨a2, k + 92, c2⟩, ?_, rfl, rfl, hF.os.trans hg.os, hF.tape.trans hg.tape, hF.output.trans hg.output, Nat.le_trans hg.size hF.size, fun b hb hBb hob' => (hF.block b (Nat.lt_of_lt_of_le hb hg.size) hBb).trans (hg.block b hb (fun h => hob' h.symm))⟩
          refine hB2.more hes (fun b hb => .inl hb) hT5 hboxD (own_ty hoA hs24) ?_ (fun b hb => ?_) (fun b hb => ?_) (own_ty hlo hT5) (own_ty h1o hT5) (own_ty hv hT5) (fun b hb => .inr (.inl hb)) (fun b hb => .inr (hg1.2 b hb)) (fun b hb => .inr (hvb b hb))
          · simp only [q1, q92]
            exact own_ty hoC (Ty.set (j := 1) hboxC (by decide) _)
          · rcases laid_at hlA b hb with h | h
            · exact .inl (hBL b h)
            · exact .inr (.inr (by simp at h; omega))
          · rcases laid_at hlC b hb with h | h
            · exact .inl (hBN b h)
            · exact .inr (.inr (Nat.le_trans hszB h))
end Go.Proofs.YtdkcplndplhblaaGreatDoor

/- Book.whole by its contract. -/
namespace Go.Proofs.YtdkcplndplhblaaGreatDoor
open Go.RowKit
set_option maxRecDepth 100000

theorem bk_later {w w' : World} {ad : Addr} {v : Value} (hb : Below w.heap.size w w') (h : w.cell? ad = some v) : w'.cell? ad = some v := cell_later hb h (Nat.le_refl _)
theorem below_drewM {b : Nat} {a w : World} (h : Below b a w) (m : Nat) : Below b a (w.drewN m) := ⟨h.os, h.tape, h.output, h.size, h.block⟩

set_option maxHeartbeats 1000000 in
theorem bkWhole_any (vE : Value) (base bk : Nat) (B : Nat → Prop) (es : List Bl) (w : World) (hB : Bk w base bk vE B es) (hes : es.length ≤ 300000000) (hen : ∀ e ∈ es, e.len ≤ 1000000100) :
    Calls Tryz.prog 25 #[.pointer (some ⟨bk, 0, none⟩)] w fun e w' => e = .returned (.bool true) ∧ Below w.heap.size w w' := by
  obtain ⟨⟨vL, vN, hbox, hL, hN, hBL, hBN⟩, hbk, hlies, hmine⟩ := hB
  obtain ⟨aL, cL, rfl⟩ := own_val hL
  obtain ⟨aN, cN, rfl⟩ := own_val hN
  have hesi : (es.length : Int) ≤ 300000000 := by omega
  have b0 : w.cell? ⟨bk, 0, none⟩ = some (.slice aL es.length cL) := (cell_of_row w bk 0 _ _ (0, 0) hbox).trans rfl
  have b1 : w.cell? ⟨bk, 1, none⟩ = some (.slice aN es.length cN) := (cell_of_row w bk 1 _ _ (0, 0) hbox).trans rfl
  go_enter Tryz.func25, Tryz.ntmps25
  go_wp2_with fail
  go_loopw [3] (fun i wr => ∃ k : Nat, k ≤ es.length ∧ i = .int .i64 k ∧ Below w.heap.size w wr) (fun i _ => es.length - (intOf i).toNat)
  case atStart => exact ⟨0, Nat.zero_le _, rfl, Below.refl _ _⟩
  case round =>
    obtain ⟨k, hk, rfl, hb⟩ := hrel
    have c0 := bk_later hb b0
    have c1 := bk_later hb b1
    by_cases hlt : k < es.length
    · have hki : (k : Int) < es.length := by omega
      obtain ⟨gL, rfl⟩ : ∃ g, aL = some ⟨g, 0, none⟩ := by
        rcases hL.2 with ⟨_, h0⟩ | ⟨g, c, cur, hv, _⟩
        · omega
        · cases hv; exact ⟨g, rfl⟩
      obtain ⟨gN, rfl⟩ : ∃ g, aN = some ⟨g, 0, none⟩ := by
        rcases hN.2 with ⟨_, h0⟩ | ⟨g, c, cur, hv, _⟩
        · omega
        · cases hv; exact ⟨g, rfl⟩
      obtain ⟨x, hx⟩ : ∃ x, x = es[k] := ⟨_, rfl⟩
      have l0w' : w.cell? ⟨gL, k, none⟩ = some (.slice x.ao x.len x.cap) := by rw [hL.cellAt k (by omega), List.getElem?_map, List.getElem?_eq_getElem hlt, ← hx]; rfl
      have l0 : wr.cell? ⟨gL, k, none⟩ = some (.slice x.ao x.len x.cap) := bk_later hb l0w'
      have n0 : wr.cell? ⟨gN, k, none⟩ = some (.int .i64 x.len) := bk_later hb (by rw [hN.cellAt k (by omega), List.getElem?_map, List.getElem?_eq_getElem hlt, ← hx]; rfl)
      have hx0 := hlies k hlt
      rw [← hx] at hx0
      have hxl := hen x (by rw [hx]; exact List.getElem_mem _)
      have hxli : (x.len : Int) ≤ 1000000100 := by omega
      clear hx
      go_wp2_with fail
      go_quiet (fail)
      go_wp2_with fail
      go_loopw [4] (fun j wr => ∃ q : Nat, q ≤ x.len ∧ j = .int .i64 q ∧ Below w.heap.size w wr) (fun j _ => x.len - (intOf j).toNat)
      case atStart => exact ⟨0, Nat.zero_le _, rfl, below_drewM hb _⟩
      case round =>
        clear c0 c1 l0 n0 hb
        obtain ⟨q, hq, rfl, hb⟩ := hrel
        have c0 := bk_later hb b0
        have c1 := bk_later hb b1
        have l0 := bk_later hb l0w'
        by_cases hqt : q < x.len
        · have hqi : (q : Int) < x.len := by omega
          obtain ⟨xb, xo, hao, hxc⟩ := hx0.at (by omega)
          rw [hao] at l0
          have m0 : wr.cell? ⟨xb, xo + q, none⟩ = some (.int .u8 (markI (k / 3) q)) := bk_later hb (by
            rw [hxc q hqt]
            simp [marks, List.getD, hqt])
          have hM := fun W => mark4_any (k / 3) q W (by omega) (by omega)
          have hkc : ((k / 3 : Nat) : Int) = (k : Int) / 3 := by omega
          rw [hkc] at hM
          go_wp2_with fail
          go_quiet ((go_at_call 59; exact Calls.quiet_of_same (hM _)))
          go_wp2
          go_roundw
          case rel => exact ⟨q + 1, by omega, by go_num, below_drewM hb _⟩
          case measure => simp [intOf]; omega
        · have hqi : ¬ (q : Int) < x.len := by omega
          go_wp2
          go_roundw
          case rel => exact ⟨k + 1, by omega, by go_num, hb⟩
          case measure => simp [intOf]; omega
    · have hki : ¬ (k : Int) < es.length := by omega
      go_wp2
      go_ret
      exact ⟨rfl, hb⟩
end Go.Proofs.YtdkcplndplhblaaGreatDoor

/- The small functions of package msg by their contracts. -/
namespace Go.Proofs.YtdkcplndplhblaaGreatDoor
open Go.RowKit
set_option maxRecDepth 100000

/-- A request as a value; its Data is the slice. -/
abbrev rqV (r : Req) (ao : Option Addr) (n c : Nat) : Value := .agg #[.int .i64 r.client, .int .i64 r.seq, .int .i64 r.ack, .int .i64 r.epoch, .int .i64 r.op, .int .i64 r.id, .int .i64 r.id2, .int .i64 r.off, .int .i64 r.len, .string r.path, .string r.name, .string r.name2, .slice ao n c]
/-- A reply as a value. -/
abbrev rpV (r : Rep) (ao : Option Addr) (n c : Nat) (lo : Option Addr) (ln lc : Nat) : Value := .agg #[.int .i64 r.client, .int .i64 r.seq, .int .i64 r.epoch, .int .i64 r.op, .int .i64 r.status, .int .i64 r.ai, .int .i64 r.ak, .int .i64 r.az, .int .i64 r.ac, .slice ao n c, .slice lo ln lc, .bool r.more]

def inB (x a b : Int) : Bool := decide (a ≤ x) && decide (x ≤ b)

set_option maxHeartbeats 400000 in
theorem within_any (x a b : Int) (w : World) : Calls Tryz.prog 79 #[.int .i64 x, .int .i64 a, .int .i64 b] w fun e w' => e = .returned (.bool (inB x a b)) ∧ w' = w := by
  unfold inB
  go_enter Tryz.func79, Tryz.ntmps79
  by_cases h1 : a ≤ x
  · by_cases h2 : x ≤ b
    · go_wp2
      go_ret
      exact ⟨by simp [h1, h2], rfl⟩
    · go_wp2
      go_ret
      exact ⟨by simp [h2], rfl⟩
  · go_wp2
    go_ret
    exact ⟨by simp; omega, rfl⟩

set_option maxHeartbeats 400000 in
theorem isClient_any (x : Int) (w : World) : Calls Tryz.prog 78 #[.int .i64 x] w fun e w' => e = .returned (.bool (inB x 0 7)) ∧ w' = w := by
  go_enter Tryz.func78, Tryz.ntmps78
  go_wp2_with (go_at_call 79; refine (within_any _ _ _ _).mono ?_; rintro e w1 ⟨rfl, hw1⟩; subst w1)
  go_ret
  exact ⟨rfl, rfl⟩
set_option maxHeartbeats 400000 in
theorem isOp_any (x : Int) (w : World) : Calls Tryz.prog 80 #[.int .i64 x] w fun e w' => e = .returned (.bool (inB x 1 10)) ∧ w' = w := by
  go_enter Tryz.func80, Tryz.ntmps80
  go_wp2_with (go_at_call 79; refine (within_any _ _ _ _).mono ?_; rintro e w1 ⟨rfl, hw1⟩; subst w1)
  go_ret
  exact ⟨rfl, rfl⟩
set_option maxHeartbeats 400000 in
theorem isId_any (x : Int) (w : World) : Calls Tryz.prog 136 #[.int .i64 x] w fun e w' => e = .returned (.bool (inB x 1 562949953421311)) ∧ w' = w := by
  go_enter Tryz.func136, Tryz.ntmps136
  go_wp2_with (go_at_call 79; refine (within_any _ _ _ _).mono ?_; rintro e w1 ⟨rfl, hw1⟩; subst w1)
  go_ret
  exact ⟨rfl, rfl⟩
def kindB (x : Int) : Bool := decide (x = 1) || decide (x = 2)
set_option maxHeartbeats 400000 in
theorem isKind_any (x : Int) (w : World) : Calls Tryz.prog 154 #[.int .i64 x] w fun e w' => e = .returned (.bool (kindB x)) ∧ w' = w := by
  unfold kindB
  go_enter Tryz.func154, Tryz.ntmps154
  by_cases h1 : x = 1
  · subst h1
    go_wp2
    go_ret
    exact ⟨rfl, rfl⟩
  · by_cases h2 : x = 2
    · subst h2
      go_wp2
      go_ret
      exact ⟨rfl, rfl⟩
    · go_wp2
      go_ret
      exact ⟨by simp [h1, h2], rfl⟩

/-- Of a request, errors 1 to 4. -/
def rqHeadE (r : Req) : Int :=
  if inB r.client 0 7 = false then 43 else if (inB r.seq 1 4611686018427387904 && inB r.ack 0 (r.seq - 1)) = false then 44 else if inB r.epoch 0 4611686018427387904 = false then 45 else if inB r.op 1 10 = false then 42 else 0

theorem inB_true {x a b : Int} (h : inB x a b = true) : a ≤ x ∧ x ≤ b := by simpa [inB] using h
theorem newBox (w : World) (o : Obj) : Below w.heap.size w (w.alloc o) := (Below.refl _ _).alloc (Nat.le_refl _) _

/-- A reply may have that status. -/
def statusB (x : Int) : Bool := [0, 91, 92, 101, 121, 122, 123, 124, 125, 126, 127, 151, 152].contains x
set_option maxHeartbeats 1000000 in
theorem isStatus_any (x : Int) (w : World) : Calls Tryz.prog 87 #[.int .i64 x] w fun e w' => e = .returned (.bool (statusB x)) ∧ w' = w := by
  go_enter Tryz.func87, Tryz.ntmps87
  go_wp2
  all_goals go_ret
  all_goals simp_all [statusB]

set_option maxHeartbeats 1000000 in
theorem judgeRequestHead_any (r : Req) (ao : Option Addr) (n c : Nat) (w : World) : Calls Tryz.prog 38 #[rqV r ao n c] w fun e w' => e = .returned (.int .i64 (rqHeadE r)) ∧ Below w.heap.size w w' := by
  unfold rqHeadE
  cases h1 : inB r.client 0 7
  · go_enter Tryz.func38, Tryz.ntmps38
    go_wp2_with (first | (go_at_call 78; refine (isClient_any _ _).mono ?_; rintro e w1 ⟨rfl, hw1⟩; subst w1; simp only [h1]))
    go_ret
    exact ⟨rfl, newBox _ _⟩
  cases h2 : inB r.seq 1 4611686018427387904
  · go_enter Tryz.func38, Tryz.ntmps38
    go_wp2_with (first | (go_at_call 78; refine (isClient_any _ _).mono ?_; rintro e w1 ⟨rfl, hw1⟩; subst w1; (first | rw [h1] | rw [h2])) | (go_at_call 79; refine (within_any _ _ _ _).mono ?_; rintro e w1 ⟨rfl, hw1⟩; subst w1; (first | rw [h1] | rw [h2])))
    go_ret
    exact ⟨rfl, newBox _ _⟩
  have hs := inB_true h2
  have hs1 := hs.1
  have hs2 := hs.2
  cases h3 : inB r.ack 0 (r.seq - 1)
  · go_enter Tryz.func38, Tryz.ntmps38
    go_wp2_with (first | (go_at_call 78; refine (isClient_any _ _).mono ?_; rintro e w1 ⟨rfl, hw1⟩; subst w1; (first | rw [h1] | rw [h2] | rw [h3])) | (go_at_call 79; refine (within_any _ _ _ _).mono ?_; rintro e w1 ⟨rfl, hw1⟩; subst w1; (first | rw [h1] | rw [h2] | rw [h3])))
    go_ret
    exact ⟨rfl, newBox _ _⟩
  cases h4 : inB r.epoch 0 4611686018427387904
  · go_enter Tryz.func38, Tryz.ntmps38
    go_wp2_with (first | (go_at_call 78; refine (isClient_any _ _).mono ?_; rintro e w1 ⟨rfl, hw1⟩; subst w1; (first | rw [h1] | rw [h2] | rw [h3] | rw [h4])) | (go_at_call 79; refine (within_any _ _ _ _).mono ?_; rintro e w1 ⟨rfl, hw1⟩; subst w1; (first | rw [h1] | rw [h2] | rw [h3] | rw [h4])))
    go_ret
    exact ⟨rfl, newBox _ _⟩
  cases h5 : inB r.op 1 10
  · go_enter Tryz.func38, Tryz.ntmps38
    go_wp2_with (first | (go_at_call 78; refine (isClient_any _ _).mono ?_; rintro e w1 ⟨rfl, hw1⟩; subst w1; (first | rw [h1] | rw [h2] | rw [h3] | rw [h4] | rw [h5])) | (go_at_call 79; refine (within_any _ _ _ _).mono ?_; rintro e w1 ⟨rfl, hw1⟩; subst w1; (first | rw [h1] | rw [h2] | rw [h3] | rw [h4] | rw [h5])) | (go_at_call 80; refine (isOp_any _ _).mono ?_; rintro e w1 ⟨rfl, hw1⟩; subst w1; (first | rw [h1] | rw [h2] | rw [h3] | rw [h4] | rw [h5])))
    go_ret
    exact ⟨rfl, newBox _ _⟩
  · go_enter Tryz.func38, Tryz.ntmps38
    go_wp2_with (first | (go_at_call 78; refine (isClient_any _ _).mono ?_; rintro e w1 ⟨rfl, hw1⟩; subst w1; (first | rw [h1] | rw [h2] | rw [h3] | rw [h4] | rw [h5])) | (go_at_call 79; refine (within_any _ _ _ _).mono ?_; rintro e w1 ⟨rfl, hw1⟩; subst w1; (first | rw [h1] | rw [h2] | rw [h3] | rw [h4] | rw [h5])) | (go_at_call 80; refine (isOp_any _ _).mono ?_; rintro e w1 ⟨rfl, hw1⟩; subst w1; (first | rw [h1] | rw [h2] | rw [h3] | rw [h4] | rw [h5])))
    go_ret
    exact ⟨rfl, newBox _ _⟩

/-- Of a reply, errors 1 to 5. -/
def rpHeadE (r : Rep) : Int :=
  if inB r.client 0 7 = false then 43 else if inB r.seq 1 4611686018427387904 = false then 44 else if inB r.epoch 1 4611686018427387904 = false then 45 else if inB r.op 1 10 = false then 42 else if statusB r.status = false then 47 else 0
set_option maxHeartbeats 1000000 in
theorem judgeReplyHead_any (r : Rep) (ao : Option Addr) (n c : Nat) (lo : Option Addr) (ln lc : Nat) (w : World) : Calls Tryz.prog 43 #[rpV r ao n c lo ln lc] w fun e w' => e = .returned (.int .i64 (rpHeadE r)) ∧ Below w.heap.size w w' := by
  unfold rpHeadE
  cases h1 : inB r.client 0 7
  · go_enter Tryz.func43, Tryz.ntmps43
    go_wp2_with (first | (go_at_call 78; refine (isClient_any _ _).mono ?_; rintro e w1 ⟨rfl, hw1⟩; subst w1; simp only [h1]))
    go_ret
    exact ⟨rfl, newBox _ _⟩
  cases h2 : inB r.seq 1 4611686018427387904
  · go_enter Tryz.func43, Tryz.ntmps43
    go_wp2_with (first | (go_at_call 78; refine (isClient_any _ _).mono ?_; rintro e w1 ⟨rfl, hw1⟩; subst w1; (first | rw [h1] | rw [h2])) | (go_at_call 79; refine (within_any _ _ _ _).mono ?_; rintro e w1 ⟨rfl, hw1⟩; subst w1; (first | rw [h1] | rw [h2])))
    go_ret
    exact ⟨rfl, newBox _ _⟩
  cases h3 : inB r.epoch 1 4611686018427387904
  · go_enter Tryz.func43, Tryz.ntmps43
    go_wp2_with (first | (go_at_call 78; refine (isClient_any _ _).mono ?_; rintro e w1 ⟨rfl, hw1⟩; subst w1; (first | rw [h1] | rw [h2] | rw [h3])) | (go_at_call 79; refine (within_any _ _ _ _).mono ?_; rintro e w1 ⟨rfl, hw1⟩; subst w1; (first | rw [h1] | rw [h2] | rw [h3])))
    go_ret
    exact ⟨rfl, newBox _ _⟩
  cases h4 : inB r.op 1 10
  · go_enter Tryz.func43, Tryz.ntmps43
    go_wp2_with (first | (go_at_call 78; refine (isClient_any _ _).mono ?_; rintro e w1 ⟨rfl, hw1⟩; subst w1; (first | rw [h1] | rw [h2] | rw [h3] | rw [h4])) | (go_at_call 79; refine (within_any _ _ _ _).mono ?_; rintro e w1 ⟨rfl, hw1⟩; subst w1; (first | rw [h1] | rw [h2] | rw [h3] | rw [h4])) | (go_at_call 80; refine (isOp_any _ _).mono ?_; rintro e w1 ⟨rfl, hw1⟩; subst w1; (first | rw [h1] | rw [h2] | rw [h3] | rw [h4])))
    go_ret
    exact ⟨rfl, newBox _ _⟩
  cases h5 : statusB r.status
  · go_enter Tryz.func43, Tryz.ntmps43
    go_wp2_with (first | (go_at_call 78; refine (isClient_any _ _).mono ?_; rintro e w1 ⟨rfl, hw1⟩; subst w1; (first | rw [h1] | rw [h2] | rw [h3] | rw [h4] | rw [h5])) | (go_at_call 79; refine (within_any _ _ _ _).mono ?_; rintro e w1 ⟨rfl, hw1⟩; subst w1; (first | rw [h1] | rw [h2] | rw [h3] | rw [h4] | rw [h5])) | (go_at_call 80; refine (isOp_any _ _).mono ?_; rintro e w1 ⟨rfl, hw1⟩; subst w1; (first | rw [h1] | rw [h2] | rw [h3] | rw [h4] | rw [h5])) | (go_at_call 87; refine (isStatus_any _ _).mono ?_; rintro e w1 ⟨rfl, hw1⟩; subst w1; (first | rw [h1] | rw [h2] | rw [h3] | rw [h4] | rw [h5])))
    go_ret
    exact ⟨rfl, newBox _ _⟩
  · go_enter Tryz.func43, Tryz.ntmps43
    go_wp2_with (first | (go_at_call 78; refine (isClient_any _ _).mono ?_; rintro e w1 ⟨rfl, hw1⟩; subst w1; (first | rw [h1] | rw [h2] | rw [h3] | rw [h4] | rw [h5])) | (go_at_call 79; refine (within_any _ _ _ _).mono ?_; rintro e w1 ⟨rfl, hw1⟩; subst w1; (first | rw [h1] | rw [h2] | rw [h3] | rw [h4] | rw [h5])) | (go_at_call 80; refine (isOp_any _ _).mono ?_; rintro e w1 ⟨rfl, hw1⟩; subst w1; (first | rw [h1] | rw [h2] | rw [h3] | rw [h4] | rw [h5])) | (go_at_call 87; refine (isStatus_any _ _).mono ?_; rintro e w1 ⟨rfl, hw1⟩; subst w1; (first | rw [h1] | rw [h2] | rw [h3] | rw [h4] | rw [h5])))
    go_ret
    exact ⟨rfl, newBox _ _⟩
end Go.Proofs.YtdkcplndplhblaaGreatDoor

/- Which fields a message has; is a number one of them. -/
namespace Go.Proofs.YtdkcplndplhblaaGreatDoor
open Go.RowKit
set_option maxRecDepth 100000

/-- The numbers of the fields that a request of the operation has. -/
def hasRq (op : Int) : List Int :=
  if op = 1 then [9] else if op = 2 then [6] else if op = 3 then [6, 7, 8] else if op = 4 then [6, 7, 14] else if op = 5 ∨ op = 6 ∨ op = 7 ∨ op = 8 then [6, 10] else if op = 9 then [6, 10, 11, 12] else if op = 10 then [6, 8, 10] else []
/-- Of a reply. -/
def hasRp (op status : Int) : List Int :=
  if status = 0 then (if op = 1 ∨ op = 2 ∨ op = 4 ∨ op = 5 ∨ op = 7 then [13] else if op = 3 then [13, 14] else if op = 10 then [15, 16] else []) else []
abbrev ILies (w : World) (ao : Option Addr) (n c : Nat) (l : List Int) : Prop := CLies w ao n c 1 (l.map (Value.int .i64))

set_option maxHeartbeats 1000000 in
theorem requestHas_any (op : Int) (w : World) : Calls Tryz.prog 83 #[.int .i64 op] w fun e w' => ∃ ao n c, e = .returned (.slice ao n c) ∧ ILies w' ao n c (hasRq op) ∧ Below w.heap.size w w' := by
  go_enter Tryz.func83, Tryz.ntmps83
  go_wp2
  all_goals go_ret
  all_goals first
    | exact ⟨some ⟨w.heap.size, 0, none⟩, _, _, rfl, CLies.new w _ _ 1 _ (by simp_all [hasRq]) _ (by simp_all [hasRq]), newBox _ _⟩
    | (refine ⟨none, 0, 0, rfl, ?_, Below.refl _ _⟩; simp_all [hasRq]; exact CLies.nil _ _)

set_option maxHeartbeats 1000000 in
theorem replyHas_any (op st : Int) (w : World) : Calls Tryz.prog 89 #[.int .i64 op, .int .i64 st] w fun e w' => ∃ ao n c, e = .returned (.slice ao n c) ∧ ILies w' ao n c (hasRp op st) ∧ Below w.heap.size w w' := by
  go_enter Tryz.func89, Tryz.ntmps89
  go_wp2
  all_goals go_ret
  all_goals first
    | exact ⟨some ⟨w.heap.size, 0, none⟩, _, _, rfl, CLies.new w _ _ 1 _ (by simp_all [hasRp]) _ (by simp_all [hasRp]), newBox _ _⟩
    | (refine ⟨none, 0, 0, rfl, ?_, Below.refl _ _⟩; simp_all [hasRp]; exact CLies.nil _ _)

set_option maxHeartbeats 1000000 in
theorem index_pos (b o c n : Nat) (l : List Int) (v : Int) (w : World) (hn : n ≤ 1000) (hl : l.length = n) (hc : ∀ t (ht : t < l.length), w.cell? ⟨b, o + t, none⟩ = some (.int .i64 l[t])) :
    Calls Tryz.prog 134 #[.slice (some ⟨b, o, none⟩) n c, .int .i64 v] w fun e w' => (∃ k : Int, e = .returned (.int .i64 k) ∧ (0 ≤ k ↔ v ∈ l)) ∧ w' = w := by
  have hni : (n : Int) ≤ 1000 := by omega
  go_enter Tryz.func134, Tryz.ntmps134
  go_wp2
  go_loopw [8] (fun i wr => ∃ k : Nat, k ≤ n ∧ i = .int .i64 k ∧ wr = w ∧ Hid (v ∉ l.take k)) (fun i _ => n - (intOf i).toNat)
  case atStart => exact ⟨0, Nat.zero_le _, rfl, rfl, (by simp : v ∉ l.take 0)⟩
  case round =>
    obtain ⟨k, hk, rfl, hwr, hv⟩ := hrel
    subst wr
    by_cases hlt : k < n
    · have hk' : k < l.length := by omega
      have hck := hc k hk'
      have hst : l.take (k + 1) = l.take k ++ [l[k]] := List.take_succ_eq_append_getElem hk'
      have hmem : l[k] ∈ l := List.getElem_mem hk'
      have HS : Hid (l.take (k + 1) = l.take k ++ [l[k]]) := hst
      have HM : Hid (l[k] ∈ l) := hmem
      clear hc hst hmem
      generalize l[k] = x at *
      by_cases hx : v = x
      · subst hx
        go_wp2
        go_ret
        exact ⟨⟨k, rfl, fun _ => HM.out, fun _ => by omega⟩, rfl⟩
      · go_wp2
        go_roundw
        case rel => exact ⟨k + 1, by omega, by go_num, by trivial, by have h1 := HS.out; have h2 := hv.out; show v ∉ _; rw [h1]; simp [hx]; exact h2⟩
        case measure => simp [intOf]; omega
    · clear hc
      go_wp2
      go_ret
      have h2 := hv.out
      rw [List.take_of_length_le (by omega)] at h2
      exact ⟨⟨-1, rfl, fun h => by omega, fun h => absurd h h2⟩, rfl⟩

set_option maxHeartbeats 1000000 in
theorem index_zero (ao : Option Addr) (c : Nat) (v : Int) (w : World) :
    Calls Tryz.prog 134 #[.slice ao 0 c, .int .i64 v] w fun e w' => (∃ k : Int, e = .returned (.int .i64 k) ∧ (0 ≤ k ↔ v ∈ ([] : List Int))) ∧ w' = w := by
  go_enter Tryz.func134, Tryz.ntmps134
  go_wp2
  refine wp_loop_rounds 1 ?_
  rw [rounds_succ]
  go_wp2
  go_ret
  exact ⟨⟨-1, rfl, by simp⟩, rfl⟩

theorem index_any (ao : Option Addr) (n c : Nat) (l : List Int) (v : Int) (w : World) (hn : n ≤ 1000) (hL : ILies w ao n c l) :
    Calls Tryz.prog 134 #[.slice ao n c, .int .i64 v] w fun e w' => (∃ k : Int, e = .returned (.int .i64 k) ∧ (0 ≤ k ↔ v ∈ l)) ∧ w' = w := by
  have hl : l.length = n := by have := hL.hlen; simpa using this
  by_cases h0 : 0 < n
  · obtain ⟨b, o, rfl, _, hc⟩ := hL.at h0 (by omega)
    exact index_pos b o c n l v w hn hl (fun t ht => by have := hc t (by simpa using ht); simpa using this)
  · obtain rfl : n = 0 := by omega
    obtain rfl := List.eq_nil_of_length_eq_zero hl
    exact index_zero ao c v w

set_option maxHeartbeats 1000000 in
theorem contains_any (ao : Option Addr) (n c : Nat) (l : List Int) (v : Int) (w : World) (hn : n ≤ 1000) (hL : ILies w ao n c l) :
    Calls Tryz.prog 114 #[.slice ao n c, .int .i64 v] w fun e w' => e = .returned (.bool (decide (v ∈ l))) ∧ w' = w := by
  go_enter Tryz.func114, Tryz.ntmps114
  go_wp2_with (go_at_call 134; refine (index_any ao n c l v _ hn hL).mono ?_; rintro e w1 ⟨⟨k, rfl, hk⟩, hw1⟩; subst w1; have HK : Hid (0 ≤ k ↔ v ∈ l) := hk; clear hk)
  go_ret
  refine ⟨?_, rfl⟩
  have := HK.out
  by_cases h : 0 ≤ k
  · simp [h, this.1 h]
  · have h2 : v ∉ l := fun hm => h (this.2 hm)
    simp [h2]; omega

end Go.Proofs.YtdkcplndplhblaaGreatDoor
