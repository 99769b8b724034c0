/- Book.keep by its contract. -/
import Derived.Test.YtnmdnglbpkpfdaaGreatDoorPk05
import Derived.Maps.AppendAt
import Derived.Deep.QuietTactic
import Derived.BigQuiet
import Derived.Test.YtnmdnglbpkpfdaaGreatDoorPk01
namespace Go.Proofs.YtnmdnglbpkpfdaaGreatDoor
open Go.RowKit
set_option maxRecDepth 100000
theorem cells_new (W : World) (C : Array Value) (t : TypeId) (k : Nat) (hk : k = W.heap.size) : ∀ j u, C.toList[j]? = some u → (W.alloc (.cells C t)).cell? ((⟨k, 0, none⟩ : Addr).add j) = some u := by
  intro j u hu
  rw [Addr.add_lit, Nat.zero_add, World.cell?_alloc_at _ _ _ _ hk]
  simpa using hu
/-- The marks, as cells. -/
def mv (i n : Nat) : List Value := (marks i n).map (Value.int .u8)
theorem mv_snoc (i n : Nat) : mv i (n + 1) = mv i n ++ [.int .u8 (markI i n)] := by simp [mv, marks_snoc]
theorem mv_take (i m k : Nat) (h : m ≤ k) : (mv i k).take m = mv i m := by
  unfold mv marks
  rw [← List.map_take, ← List.map_take, List.take_range, Nat.min_eq_left h]

/-- Another list of the same marks stays one, where a list is appended to. -/
theorem own_beside {w w' : World} {base n k m i : Nat} {v v' u : Value} (hv : w.ownsRow base 5 1 v n (mv i n)) (hl : Laid w w' v v' n k) (hv' : w'.ownsRow base 5 1 v' k (mv i k)) (hu : w.ownsRow base 5 1 u m (mv i m)) (hmk : m ≤ k) : w'.ownsRow base 5 1 u m (mv i m) := by
  refine ⟨hu.1, ?_⟩
  rcases hu.2 with h0 | ⟨b, c, cur, rfl, hb, hh, hmc, hcm, hcs, ht⟩
  · exact Or.inl h0
  right
  rcases hl with ⟨g, cap, rfl, rfl, hg⟩ | ⟨cap', rfl, hg⟩
  · by_cases hbg : b = g
    · subst hbg
      rcases hv.2 with ⟨h, _⟩ | ⟨g1, c1, cur1, h, _, hh1, _, _, hcs1, _⟩
      · cases h
      cases h
      rcases hv'.2 with ⟨h, _⟩ | ⟨g2, c2, cur2, h, _, hh2, _, _, hcs2, ht2⟩
      · cases h
      cases h
      rw [hh] at hh1
      cases hh1
      refine ⟨b, c, cur2, rfl, hb, hh2, hmc, hcm, by omega, ?_⟩
      have h3 : cur2.toList.take (m * 1) = (cur2.toList.take (k * 1)).take (m * 1) := by rw [List.take_take, Nat.min_eq_left (by omega)]
      rw [h3, ht2, Nat.mul_one, mv_take i m k hmk]
    · exact ⟨b, c, cur, rfl, hb, (hg.block b (lt_of_block hh) (by simpa using hbg)).trans hh, hmc, hcm, hcs, ht⟩
  · exact ⟨b, c, cur, rfl, hb, (hg.block b (lt_of_block hh) (by simp)).trans hh, hmc, hcm, hcs, ht⟩
theorem grown_on {w0 w w' : World} {ob row : Option Nat} (h : w0.grownBy w ob) (hg : w.grownBy w' row) (hr : ∀ b, row = some b → ob = some b ∨ w0.heap.size ≤ b) : w0.grownBy w' ob :=
  ⟨hg.os.trans h.os, hg.tape.trans h.tape, hg.output.trans h.output, Nat.le_trans h.size hg.size, fun k hk hne => by
    refine (hg.block k (Nat.lt_of_lt_of_le hk h.size) ?_).trans (h.block k hk hne)
    intro e
    rcases hr k e.symm with h1 | h1
    · exact hne h1.symm
    · omega⟩
/-- The new list lies where the old one lay, or in a new block. -/
theorem laid_grown {w0 w w' : World} {ob : Option Nat} {v v' : Value} {n k : Nat} (h : w0.grownBy w ob) (hv : ∀ b, v.ownBlock = some b → ob = some b ∨ w0.heap.size ≤ b) (hl : Laid w w' v v' n k) :
    w0.grownBy w' ob ∧ ∀ b, v'.ownBlock = some b → ob = some b ∨ w0.heap.size ≤ b := by
  rcases hl with ⟨g, cap, rfl, rfl, hg⟩ | ⟨cap', rfl, hg⟩
  · exact ⟨grown_on h hg (fun b hb => hv b hb), fun b hb => hv b hb⟩
  · refine ⟨grown_on h hg (fun b hb => by cases hb), fun b hb => ?_⟩
    cases hb
    exact .inr h.size
theorem set_mark (i k : Nat) (xs : List Int) (h : k < xs.length) : ((marks i k ++ xs.drop k).map (Value.int .u8)).set k (.int .u8 (markI i k)) = (marks i (k + 1) ++ xs.drop (k + 1)).map (Value.int .u8) := by
  rw [List.drop_eq_getElem_cons h, marks_snoc, List.map_append, List.set_append_right _ _ (by simp [marks_length]), List.map_cons, List.length_map, marks_length, Nat.sub_self, List.set_cons_zero, List.map_append, List.map_append, List.append_assoc]
  rfl

theorem own_val {w : World} {base e s n : Nat} {v : Value} {xs : List Value} (h : w.ownsRow base e s v n xs) : ∃ ao c, v = .slice ao n c := by
  rcases h.2 with ⟨rfl, rfl⟩ | ⟨g, cap, cur, rfl, _⟩
  · exact ⟨_, _, rfl⟩
  · exact ⟨_, _, rfl⟩
/-- Blocks whose elements are of the type e are as they were. -/
def Ty (e : Nat) (w w' : World) : Prop := ∀ (b : Nat) (cs : Array Value), w.heap[b]? = some (Obj.cells cs e) → w'.heap[b]? = some (Obj.cells cs e)
theorem Ty.trans {e : Nat} {a b c : World} (h : Ty e a b) (k : Ty e b c) : Ty e a c := fun i cs hi => k i cs (h i cs hi)
theorem Ty.alloc (e : Nat) (w : World) (o : Obj) : Ty e w (w.alloc o) := fun b _ hb => (Below.heap_alloc w o b (lt_of_block hb)).trans hb
theorem Ty.laid {w w' : World} {base e e' n k : Nat} {v v' : Value} {xs : List Value} (hl : Laid w w' v v' n k) (ho : w.ownsRow base e' 1 v n xs) (hne : e ≠ e') : Ty e w w' := by
  intro b cs hb
  rcases hl with ⟨g, cap, rfl, _, hg⟩ | ⟨_, _, hg⟩
  · rcases ho.2 with ⟨h, _⟩ | ⟨g1, c1, cur, h, _, hh, _⟩
    · cases h
    · cases h
      refine (hg.block b (lt_of_block hb) ?_).trans hb
      intro h2
      cases h2
      rw [hb] at hh
      simp at hh
      exact hne hh.2
  · exact (hg.block b (lt_of_block hb) (by simp)).trans hb
theorem Ty.set {w : World} {e bk j : Nat} {cs0 : Array Value} (hb : w.heap[bk]? = some (.cells cs0 90)) (hne : e ≠ 90) (u : Value) : Ty e w (w.setCell ⟨bk, j, none⟩ u) := by
  intro b cs h
  rw [heap_setCell_other _ _ _ _ (by
    rintro rfl
    rw [h] at hb
    simp at hb
    exact hne hb.2)]
  exact h
theorem own_ty {w w' : World} {base e n : Nat} {v : Value} {xs : List Value} (h : w.ownsRow base e 1 v n xs) (t : Ty e w w') : w'.ownsRow base e 1 v n xs := by
  obtain ⟨h1, h2⟩ := h
  refine ⟨h1, ?_⟩
  rcases h2 with h2 | ⟨g, cap, cur, hv, hg, hh, r⟩
  · exact Or.inl h2
  · exact Or.inr ⟨g, cap, cur, hv, hg, t g cur hh, r⟩
theorem lies_ty {w w' : World} {ao : Option Addr} {n c : Nat} {bs : List Int} (h : Lies w ao n c bs) (hm : ∀ ad, ao = some ad → ∃ cs, w.heap[ad.block]? = some (.cells cs 5)) (t : Ty 5 w w') : Lies w' ao n c bs :=
  ⟨h.hlen, h.hle, h.hnone, fun ad had j u hu => by
    obtain ⟨cs, hcs⟩ := hm ad had
    rw [← h.hcells ad had j u hu]
    exact World.cell?_of_block (w := w) (by rw [add_block]; exact (t _ cs hcs).trans hcs.symm)⟩
/-- Old blocks that are not B's are as they were. -/
structure Fr (B : Nat → Prop) (w w' : World) : Prop where
  os : w'.os = w.os
  tape : w'.tape = w.tape
  output : w'.output = w.output
  size : w.heap.size ≤ w'.heap.size
  block : ∀ k, k < w.heap.size → ¬ B k → w'.heap[k]? = w.heap[k]?
theorem Fr.trans {B : Nat → Prop} {a b c : World} (h : Fr B a b) (k : Fr B b c) : Fr B a c :=
  ⟨k.os.trans h.os, k.tape.trans h.tape, k.output.trans h.output, Nat.le_trans h.size k.size, fun j hj hB => (k.block j (Nat.lt_of_lt_of_le hj h.size) hB).trans (h.block j hj hB)⟩
theorem Fr.alloc (B : Nat → Prop) (w : World) (o : Obj) : Fr B w (w.alloc o) := ⟨rfl, rfl, rfl, by simp, fun k hk _ => Below.heap_alloc w o k hk⟩
theorem Fr.laid {B : Nat → Prop} {w w' : World} {n k : Nat} {v v' : Value} (hl : Laid w w' v v' n k) (hB : ∀ b, v.ownBlock = some b → B b) : Fr B w w' := by
  rcases hl with ⟨g, cap, rfl, _, hg⟩ | ⟨_, _, hg⟩
  · exact ⟨hg.os, hg.tape, hg.output, hg.size, fun j hj hnb => hg.block j hj (fun h => hnb (by cases h; exact hB _ rfl))⟩
  · exact ⟨hg.os, hg.tape, hg.output, hg.size, fun j hj _ => hg.block j hj (by simp)⟩
theorem Fr.set {B : Nat → Prop} {w : World} {bk : Nat} (hB : B bk) (j : Nat) (u : Value) : Fr B w (w.setCell ⟨bk, j, none⟩ u) :=
  ⟨rfl, rfl, rfl, by simp, fun k _ hk => heap_setCell_other _ _ _ _ (by rintro rfl; exact hk hB)⟩
theorem laid_at {w w' : World} {n k : Nat} {v v' : Value} (hl : Laid w w' v v' n k) : ∀ b, v'.ownBlock = some b → v.ownBlock = some b ∨ w.heap.size ≤ b := by
  rcases hl with ⟨g, cap, rfl, rfl, _⟩ | ⟨cap', rfl, _⟩
  · exact fun b hb => .inl hb
  · intro b hb
    cases hb
    exact .inr (Nat.le_refl _)
theorem bk_at {w : World} {base n c : Nat} {ao : Option Addr} {xs : List Value} (h : w.ownsRow base 5 1 (.slice ao n c) n xs) (ad : Addr) (had : ao = some ad) : (Value.slice ao n c).ownBlock = some ad.block ∧ base ≤ ad.block ∧ ∃ cs, w.heap[ad.block]? = some (.cells cs 5) := by
  subst had
  rcases h.2 with ⟨h, _⟩ | ⟨g, cap, cur, h, hb, hh, _⟩
  · cases h
  · cases h
    exact ⟨rfl, hb, cur, hh⟩

/-- The book with three lists more. -/
theorem Bk.more {w wd : World} {vE : Value} {base bk i : Nat} {B B' : Nat → Prop} {es : List Bl} {vL vN : Value} {e0 e1 e2 : Bl} (hB : Bk w base bk vE B es) (hes : es.length = 3 * i) (hbb : ∀ k, B k → B' k) (ht : Ty 5 w wd) (hbox : wd.heap[bk]? = some (.cells #[vL, vN, vE] 90))
    (hL : wd.ownsRow base 56 1 vL (3 * i + 3) (es.map Bl.val ++ [e0.val, e1.val, e2.val])) (hN : wd.ownsRow base 3 1 vN (3 * i + 3) ((es.map fun e => Value.int .i64 (e.len : Int)) ++ [.int .i64 (e0.len : Int), .int .i64 (e1.len : Int), .int .i64 (e2.len : Int)]))
    (hBL : ∀ k, vL.ownBlock = some k → B' k) (hBN : ∀ k, vN.ownBlock = some k → B' k)
    (h0 : wd.ownsRow base 5 1 e0.val e0.len (mv i e0.len)) (h1 : wd.ownsRow base 5 1 e1.val e1.len (mv i e1.len)) (h2 : wd.ownsRow base 5 1 e2.val e2.len (mv i e2.len))
    (b0 : ∀ b, e0.val.ownBlock = some b → B' b) (b1 : ∀ b, e1.val.ownBlock = some b → B' b) (b2 : ∀ b, e2.val.ownBlock = some b → B' b) : Bk wd base bk vE B' (es ++ [e0, e1, e2]) := by
  have hlen : (es ++ [e0, e1, e2]).length = 3 * i + 3 := by simp [hes]
  refine ⟨⟨vL, vN, hbox, ?_, ?_, hBL, hBN⟩, ⟨hB.hbk.1, hbb _ hB.hbk.2⟩, fun j hj => ?_, fun e he ad had => ?_⟩
  · rw [hlen, List.map_append]; exact hL
  · rw [hlen, List.map_append]; exact hN
  · by_cases hjl : j < es.length
    · rw [List.getElem_append_left hjl]
      exact lies_ty (hB.lies j hjl) (fun ad had => (hB.mine _ (List.getElem_mem hjl) ad had).2.2) ht
    · rw [List.getElem_append_right (by omega)]
      have hd : j / 3 = i := by omega
      rw [hd]
      rcases (show j - es.length = 0 ∨ j - es.length = 1 ∨ j - es.length = 2 by omega) with h | h | h <;> simp only [h]
      · exact Lies.owned h0
      · exact Lies.owned h1
      · exact Lies.owned h2
  · rcases List.mem_append.1 he with h | h
    · obtain ⟨x1, x2, cs, x3⟩ := hB.mine e h ad had
      exact ⟨hbb _ x1, x2, cs, ht _ cs x3⟩
    · simp at h
      rcases h with rfl | rfl | rfl
      · obtain ⟨x1, x2, x3⟩ := bk_at h0 ad had
        exact ⟨b0 _ x1, x2, x3⟩
      · obtain ⟨x1, x2, x3⟩ := bk_at h1 ad had
        exact ⟨b1 _ x1, x2, x3⟩
      · obtain ⟨x1, x2, x3⟩ := bk_at h2 ad had
        exact ⟨b2 _ x1, x2, x3⟩

theorem Tryz.info56 : (Tryz.prog.info? 56).map (fun i => (i.zero, i.size, i.bytes)) = some (some (.slice none 0 0), 1, 24) := by kernel_rfl

set_option maxHeartbeats 2000000 in
theorem bkKeep_any (vE : Value) (base bk i n cl : Nat) (B : Nat → Prop) (es : List Bl) (al : Option Addr) (xs : List Int) (w : World) (hbase : base ≤ w.heap.size) (hB : Bk w base bk vE B es) (hes : es.length = 3 * i) (hi : i ≤ 100000000) (hn : n ≤ 1000000000)
    (hown : w.ownsRow base 5 1 (.slice al n cl) n (xs.map (Value.int .u8))) (hnB : ∀ b, (Value.slice al n cl).ownBlock = some b → ¬ B b) :
    Calls Tryz.prog 104 #[.pointer (some ⟨bk, 0, none⟩), .slice al n cl] w fun e w' => e = .returned (.tuple #[]) ∧ ∃ e1 e2, Bk w' base bk vE (fun k => B k ∨ (Value.slice al n cl).ownBlock = some k ∨ w.heap.size ≤ k) (es ++ [⟨al, n, cl⟩, e1, e2]) ∧ e1.len = n + 1 ∧ e2.len = n + 92 ∧
      w'.os = w.os ∧ w'.tape = w.tape ∧ w'.output = w.output ∧ w.heap.size ≤ w'.heap.size ∧ ∀ k, k < w.heap.size → ¬ B k → (Value.slice al n cl).ownBlock ≠ some k → w'.heap[k]? = w.heap[k]? := by
  obtain ⟨i5, hi5, hz0, hz1, hz2⟩ := info_parts Tryz.info5
  have hii : (i : Int) ≤ 100000000 := by omega
  have hni : (n : Int) ≤ 1000000000 := by omega
  have hlx : xs.length = n := by simpa using hown.1
  obtain ⟨⟨vL, vN, hbox, hL, hN, hBL, hBN⟩, hbk, hlies, hmine⟩ := id hB
  rw [hes] at hL hN
  obtain ⟨aL, cL, rfl⟩ := own_val hL
  obtain ⟨aN, cN, rfl⟩ := own_val hN
  have b0 : w.cell? ⟨bk, 0, none⟩ = some (.slice aL (3 * i) cL) := by rw [cell_of_row w bk 0 _ _ (0, 0) hbox]; rfl
  have hdiv : ((3 * i : Nat) : Int) / 3 = i := by omega
  go_enter Tryz.func104, Tryz.ntmps104
  go_wp2_with fail
  go_loopw [6] (fun j wr => ∃ k : Nat, k ≤ n ∧ j = .int .i64 k ∧ wr.ownsRow base 5 1 (.slice al n cl) n ((marks i k ++ xs.drop k).map (Value.int .u8)) ∧ w.grownBy wr (Value.slice al n cl).ownBlock) (fun j _ => n - (intOf j).toNat)
  case atStart => exact ⟨0, Nat.zero_le _, rfl, by simpa [marks] using hown, World.grownBy.refl _ _⟩
  case round =>
    obtain ⟨k, hk, rfl, ho, hg⟩ := hrel
    by_cases hlt : k < n
    · obtain ⟨g, rfl⟩ : ∃ g, al = some ⟨g, 0, none⟩ := by
        rcases ho.2 with ⟨_, h0⟩ | ⟨g, c, cur, hv, _⟩
        · omega
        · cases hv; exact ⟨g, rfl⟩
      have hcell : ∃ z, wr.cell? ⟨g, k, none⟩ = some z := by
        rw [ho.cellAt k (by omega)]
        exact ⟨_, List.getElem?_eq_getElem (by rw [ho.1]; omega)⟩
      obtain ⟨z, hcell⟩ := hcell
      have hfz := ho.frozenAt k
      have hst := ho.stored k (.int .u8 (markI i k))
      rw [set_mark i k xs (by omega)] at hst
      have HST : Hid _ := hst
      clear hst
      go_wp2_with (go_at_call 75; refine (mark7_any i k _ (by omega) (by omega)).mono ?_; rintro e wq ⟨rfl, hq⟩; subst wq)
      go_roundw
      case rel => exact ⟨k + 1, by omega, by go_num, HST.out.1, grown_trans hg HST.out.2⟩
      case measure => simp [intOf]; omega
    · obtain rfl : k = n := by omega
      have ho1 : wr.ownsRow base 5 1 (.slice al k cl) k (mv i k) := by
        have := ho
        rw [List.drop_of_length_le (by omega), List.append_nil] at this
        exact this
      clear ho hown
      have hsz := hg.size
      have hob : ∀ b, (Value.slice al k cl).ownBlock = some b → (Value.slice al k cl).ownBlock = some b ∨ w.heap.size ≤ b := fun b hb => .inl hb
      go_wp2_with fail
      refine (mark7_any i k _ (by omega) (by omega)).mono ?_
      rintro e wq ⟨rfl, hq⟩
      subst wq
      go_wp2_with (at_builtin; refine wpList_append_own_split _ rfl _ _ 56 rfl base 5 i5 (.int .u8 0) 1 1 Tryz.underlying56 hi5 hz0 hz1 hz2 rfl (by decide) _ _ _ rfl (ho1.alloc _) ⟨wr.heap.size, 0, none⟩ 1 1 [.int .u8 (markI i k)] (by decide) rfl rfl (cell_one_new _ _ _) (by intro u hu; simp at hu; subst hu; rfl) (by unfold maxLen; omega) (by omega) (by simp; omega) ?_; intro v1 w1 hv1 hl1)
      rw [← mv_snoc] at hv1
      have hga := grown_trans hg (World.grownBy_alloc wr (.cells #[.int .u8 (markI i k)] 5) _)
      have hg1 := laid_grown hga hob hl1
      have ho2 := own_beside (ho1.alloc _) hl1 hv1 (ho1.alloc _) (by omega)
      have hsz1 := hg1.1.size
      clear ho1 hga
      refine (mark7_any i k _ (by omega) (by omega)).mono ?_
      rintro e wq ⟨rfl, hq⟩
      subst wq
      have hk1 : ((k + 1 : Nat) : Int) = (k : Int) + 1 := by omega
      have hM2 := mark7_any i (k + 1) w1 (by omega) (by omega)
      rw [hk1] at hM2
      go_wp2_with fail
      refine hM2.mono ?_
      rintro e wq ⟨rfl, hq⟩
      subst wq
      go_wp2_with (at_builtin; refine wpList_append_own_split _ rfl _ _ 56 rfl base 5 i5 (.int .u8 0) 1 1 Tryz.underlying56 hi5 hz0 hz1 hz2 rfl (by decide) _ _ _ rfl (ho2.alloc _) ⟨w1.heap.size, 0, none⟩ 2 2 [.int .u8 (markI i k), .int .u8 (markI i (k + 1))] (by decide) rfl rfl (cells_new _ _ _ _ rfl) (by intro u hu; simp at hu; rcases hu with rfl | rfl <;> rfl) (by unfold maxLen; omega) (by omega) (by simp; omega) ?_; intro v2 w2 hv2 hl2)
      have hmv2 : mv i (k + 2) = mv i k ++ [.int .u8 (markI i k), .int .u8 (markI i (k + 1))] := by rw [mv_snoc, mv_snoc, List.append_assoc]; rfl
      rw [← hmv2] at hv2
      have hga := grown_trans hg1.1 (World.grownBy_alloc w1 (.cells #[.int .u8 (markI i k), .int .u8 (markI i (k + 1))] 5) _)
      have hg2 := laid_grown hga hob hl2
      have hl2o := own_beside (ho2.alloc _) hl2 hv2 (ho2.alloc _) (by omega)
      have h12o := own_beside (ho2.alloc _) hl2 hv2 (hv1.alloc _) (by omega)
      clear ho2 hga hmv2 hM2 hsz1 hsz hl1 hl2 hv1
      go_loopw [8, 9] (fun v j wr => ∃ m : Nat, 2 ≤ m ∧ m ≤ 92 ∧ j = .int .i64 ((k + m : Nat) : Int) ∧ wr.ownsRow base 5 1 v (k + m) (mv i (k + m)) ∧ wr.ownsRow base 5 1 (.slice al k cl) k (mv i k) ∧ wr.ownsRow base 5 1 v1 (k + 1) (mv i (k + 1)) ∧
          w.grownBy wr (Value.slice al k cl).ownBlock ∧ (∀ b, v.ownBlock = some b → (Value.slice al k cl).ownBlock = some b ∨ w.heap.size ≤ b)) (fun _ j _ => k + 92 - (intOf j).toNat)
      case atStart => exact ⟨2, by omega, by omega, by go_num, hv2, hl2o, h12o, hg2.1, hg2.2⟩
      case round =>
        clear hv2 hl2o h12o hg2
        obtain ⟨m, hm2, hm92, rfl, hv, hlo, h1o, hg, hvb⟩ := hrel
        have hsz := hg.size
        have hcast : ((k + m : Nat) : Int) = (k : Int) + m := by omega
        by_cases hlt : m < 92
        · have hM := fun W => mark7_any i (k + m) W (by omega) (by omega)
          have hmi : (m : Int) < 92 := by omega
          generalize hz : k + m = z at *
          have hzk : (z : Int) < (k : Int) + 92 := by omega
          clear hcast
          go_wp2_with (first
            | (go_at_call 75; refine (hM _).mono ?_; rintro e wq ⟨rfl, hq⟩; subst wq)
            | (at_builtin; refine wpList_append_own_split _ rfl _ _ 56 rfl base 5 i5 (.int .u8 0) 1 1 Tryz.underlying56 hi5 hz0 hz1 hz2 rfl (by decide) _ _ _ rfl (hv.alloc _) ⟨wr.heap.size, 0, none⟩ 1 1 [.int .u8 (markI i z)] (by decide) rfl rfl (cell_one_new _ _ _) (by intro u hu; simp at hu; subst hu; rfl) (by unfold maxLen; omega) (by omega) (by simp; omega) ?_; intro v3 w3 hv3 hl3))
          rw [← mv_snoc] at hv3
          have hga := grown_trans hg (World.grownBy_alloc wr (.cells #[.int .u8 (markI i z)] 5) _)
          have hg3 := laid_grown hga hvb hl3
          have hlo3 := own_beside (hv.alloc _) hl3 hv3 (hlo.alloc _) (by omega)
          have h1o3 := own_beside (hv.alloc _) hl3 hv3 (h1o.alloc _) (by omega)
          subst hz
          go_roundw
          case rel => exact ⟨m + 1, by omega, by omega, by go_num, hv3, hlo3, h1o3, hg3.1, hg3.2⟩
          case measure => simp [intOf]; omega
        · obtain rfl : m = 92 := by omega
          clear hlt hm2 hm92 hcast
          obtain ⟨i24, hi24, hy0, hy1, hy2⟩ := info_parts Tryz.info56
          obtain ⟨i3, hi3, hx0, hx1, hx2⟩ := info_parts Tryz.info3
          obtain ⟨a1, c1, rfl⟩ := own_val h1o
          obtain ⟨a2, c2, rfl⟩ := own_val hv
          have hnk : ∀ b, B b → some b ≠ (Value.slice al k cl).ownBlock := fun b hb h => hnB b h.symm hb
          have hB2 : Bk wr base bk vE B es := hB.keep fun b hb hBb => hg.block b hb (hnk b hBb)
          have hboxr : wr.heap[bk]? = some (.cells #[.slice aL (3 * i) cL, .slice aN (3 * i) cN, vE] 90) := (hg.block bk (lt_of_block hbox) (hnk bk hbk.2)).trans hbox
          have same : ∀ {e m : Nat} {v : Value} {ys : List Value}, w.ownsRow base e 1 v m ys → (∀ b, v.ownBlock = some b → B b) → wr.ownsRow base e 1 v m ys := by
            intro e m v ys ho hb
            obtain ⟨h1, h2⟩ := ho
            refine ⟨h1, ?_⟩
            rcases h2 with h2 | ⟨g, cap, cur, hv, hg', hh, r⟩
            · exact Or.inl h2
            · refine Or.inr ⟨g, cap, cur, hv, hg', (hg.block g (lt_of_block hh) (hnk g (hb g ?_))).trans hh, r⟩
              subst hv; rfl
          have hLr := same hL hBL
          have hNr := same hN hBN
          clear same b0
          have b0 : wr.cell? ⟨bk, 0, none⟩ = some (.slice aL (3 * i) cL) := by rw [cell_of_row wr bk 0 _ _ (0, 0) hboxr]; rfl
          have hTA5 := Ty.alloc 5 wr (.cells #[.slice al k cl, .slice a1 (k + 1) c1, .slice a2 (k + 92) c2] 56)
          have hTA3 := Ty.alloc 3 wr (.cells #[.slice al k cl, .slice a1 (k + 1) c1, .slice a2 (k + 92) c2] 56)
          have hTA59 := Ty.alloc 90 wr (.cells #[.slice al k cl, .slice a1 (k + 1) c1, .slice a2 (k + 92) c2] 56)
          have hFA := Fr.alloc B wr (.cells #[.slice al k cl, .slice a1 (k + 1) c1, .slice a2 (k + 92) c2] 56)
          have hLra := hLr.alloc (.cells #[.slice al k cl, .slice a1 (k + 1) c1, .slice a2 (k + 92) c2] 56)
          go_wp2_with (first
            | (at_builtin; refine wpList_append_own_split _ rfl _ _ 33 rfl base 56 i24 (.slice none 0 0) 1 24 Tryz.underlying33 hi24 hy0 hy1 hy2 rfl (by decide) _ _ _ rfl hLra ⟨wr.heap.size, 0, none⟩ 3 3 [.slice al k cl, .slice a1 (k + 1) c1, .slice a2 (k + 92) c2] (by decide) rfl rfl (cells_new _ _ _ _ rfl) (by intro u hu; simp at hu; rcases hu with rfl | rfl | rfl <;> rfl) (by unfold maxLen; omega) (by omega) (by simp; omega) ?_; intro vA wA hoA hlA; have hboxA := hTA59.trans (Ty.laid hlA hLra (by decide)) _ _ hboxr; obtain ⟨aA, cA, rfl⟩ := own_val hoA; have f0 : wA.cell? ⟨bk, 0, none⟩ = some (.slice aL (3 * i) cL) := (cell_of_row wA bk 0 _ _ (0, 0) hboxA).trans rfl; have z0 := frozen_of_row wA bk 0 _ _ hboxA; have f1 : (wA.setCell ⟨bk, 0, none⟩ (.slice aA (3 * i + 3) cA)).cell? ⟨bk, 1, none⟩ = some (.slice aN (3 * i) cN) := (World.cell?_setCell_other _ _ _ _ (by simp)).trans ((cell_of_row wA bk 1 _ _ (0, 0) hboxA).trans rfl); have hboxB : (wA.setCell ⟨bk, 0, none⟩ (.slice aA (3 * i + 3) cA)).heap[bk]? = some (.cells #[.slice aA (3 * i + 3) cA, .slice aN (3 * i) cN, vE] 90) := heap_setCell_same wA bk 0 _ _ _ hboxA; have hTB3 := hTA3.trans ((Ty.laid hlA hLra (by decide)).trans (Ty.set (j := 0) hboxA (by decide) (.slice aA (3 * i + 3) cA))); have hNb := (own_ty hNr hTB3).alloc (.cells #[.int .i64 k, .int .i64 ((k : Int) + 1), .int .i64 ((k : Int) + 92)] 3); have hszA : w.heap.size ≤ wA.heap.size := Nat.le_trans hsz (Nat.le_trans hFA.size (Fr.laid hlA hBL).size))
            | (at_builtin; refine wpList_append_own_split _ rfl _ _ 40 rfl base 3 i3 (.int .i64 0) 1 8 Tryz.underlying40 hi3 hx0 hx1 hx2 rfl (by decide) _ _ _ rfl hNb ⟨wA.heap.size, 0, none⟩ 3 3 [.int .i64 k, .int .i64 ((k : Int) + 1), .int .i64 ((k : Int) + 92)] (by decide) rfl rfl (cells_new _ _ _ _ (by simp)) (by intro u hu; simp at hu; rcases hu with rfl | rfl | rfl <;> rfl) (by unfold maxLen; omega) (by omega) (by simp; omega) ?_; intro vC wC hoC hlC; have hboxC := (Ty.alloc 90 _ (.cells #[.int .i64 k, .int .i64 ((k : Int) + 1), .int .i64 ((k : Int) + 92)] 3)).trans (Ty.laid hlC hNb (by decide)) _ _ hboxB; obtain ⟨aC, cC, rfl⟩ := own_val hoC; have f2 : wC.cell? ⟨bk, 1, none⟩ = some (.slice aN (3 * i) cN) := (cell_of_row wC bk 1 _ _ (0, 0) hboxC).trans rfl; have z1 := frozen_of_row wC bk 1 _ _ hboxC))
          first | go_end0 | refine bodyPost_ret (results_none rfl _ _ _) rfl ?_
          have hboxD : (wC.setCell ⟨bk, 1, none⟩ (.slice aC (3 * i + 3) cC)).heap[bk]? = some (.cells #[.slice aA (3 * i + 3) cA, .slice aC (3 * i + 3) cC, vE] 90) := heap_setCell_same wC bk 1 _ _ _ hboxC
          have hsB : Ty 5 wA (wC.setCell ⟨bk, 1, none⟩ (.slice aC (3 * i + 3) cC)) := (Ty.set (j := 0) hboxA (by decide) (.slice aA (3 * i + 3) cA)).trans ((Ty.alloc 5 _ _).trans ((Ty.laid hlC hNb (by decide)).trans (Ty.set (j := 1) hboxC (by decide) _)))
          have hT5 : Ty 5 wr (wC.setCell ⟨bk, 1, none⟩ (.slice aC (3 * i + 3) cC)) := hTA5.trans ((Ty.laid hlA hLra (by decide)).trans hsB)
          have hs24 : Ty 56 wA (wC.setCell ⟨bk, 1, none⟩ (.slice aC (3 * i + 3) cC)) := (Ty.set (j := 0) hboxA (by decide) (.slice aA (3 * i + 3) cA)).trans ((Ty.alloc 56 _ _).trans ((Ty.laid hlC hNb (by decide)).trans (Ty.set (j := 1) hboxC (by decide) _)))
          have hF : Fr B wr (wC.setCell ⟨bk, 1, none⟩ (.slice aC (3 * i + 3) cC)) := hFA.trans ((Fr.laid hlA hBL).trans ((Fr.set hbk.2 0 _).trans ((Fr.alloc B _ _).trans ((Fr.laid hlC hBN).trans (Fr.set hbk.2 1 _)))))
          have hszB : w.heap.size ≤ ((wA.setCell ⟨bk, 0, none⟩ (.slice aA (3 * i + 3) cA)).alloc (.cells #[.int .i64 k, .int .i64 ((k : Int) + 1), .int .i64 ((k : Int) + 92)] 3)).heap.size := by simp; omega
          have q1 : ((k + 1 : Nat) : Int) = (k : Int) + 1 := by omega
          have q92 : ((k + 92 : Nat) : Int) = (k : Int) + 92 := by omega
          refine ⟨rfl, ⟨a1, k + 1, c1⟩, ⟨a2, k + 92, c2⟩, ?_, rfl, rfl, hF.os.trans hg.os, hF.tape.trans hg.tape, hF.output.trans hg.output, Nat.le_trans hg.size hF.size, fun b hb hBb hob' => (hF.block b (Nat.lt_of_lt_of_le hb hg.size) hBb).trans (hg.block b hb (fun h => hob' h.symm))⟩
          refine hB2.more hes (fun b hb => .inl hb) hT5 hboxD (own_ty hoA hs24) ?_ (fun b hb => ?_) (fun b hb => ?_) (own_ty hlo hT5) (own_ty h1o hT5) (own_ty hv hT5) (fun b hb => .inr (.inl hb)) (fun b hb => .inr (hg1.2 b hb)) (fun b hb => .inr (hvb b hb))
          · simp only [q1, q92]
            exact own_ty hoC (Ty.set (j := 1) hboxC (by decide) _)
          · rcases laid_at hlA b hb with h | h
            · exact .inl (hBL b h)
            · exact .inr (.inr (by simp at h; omega))
          · rcases laid_at hlC b hb with h | h
            · exact .inl (hBN b h)
            · exact .inr (.inr (Nat.le_trans hszB h))
end Go.Proofs.YtnmdnglbpkpfdaaGreatDoor

/- Book.whole by its contract. -/
namespace Go.Proofs.YtnmdnglbpkpfdaaGreatDoor
open Go.RowKit
set_option maxRecDepth 100000
theorem bk_later {w w' : World} {ad : Addr} {v : Value} (hb : Below w.heap.size w w') (h : w.cell? ad = some v) : w'.cell? ad = some v := (hb.cell (World.block_lt_of_cell? w _ h)).trans h
theorem below_drewM {b : Nat} {a w : World} (h : Below b a w) (m : Nat) : Below b a (w.drewN m) := ⟨h.os, h.tape, h.output, h.size, h.block⟩

set_option maxHeartbeats 1000000 in
theorem bkWhole_any (vE : Value) (base bk : Nat) (B : Nat → Prop) (es : List Bl) (w : World) (hB : Bk w base bk vE B es) (hes : es.length ≤ 300000000) (hen : ∀ e ∈ es, e.len ≤ 1000000100) :
    Calls Tryz.prog 44 #[.pointer (some ⟨bk, 0, none⟩)] w fun e w' => e = .returned (.bool true) ∧ Below w.heap.size w w' := by
  obtain ⟨⟨vL, vN, hbox, hL, hN, hBL, hBN⟩, hbk, hlies, hmine⟩ := hB
  obtain ⟨aL, cL, rfl⟩ := own_val hL
  obtain ⟨aN, cN, rfl⟩ := own_val hN
  have hesi : (es.length : Int) ≤ 300000000 := by omega
  have b0 : w.cell? ⟨bk, 0, none⟩ = some (.slice aL es.length cL) := (cell_of_row w bk 0 _ _ (0, 0) hbox).trans rfl
  have b1 : w.cell? ⟨bk, 1, none⟩ = some (.slice aN es.length cN) := (cell_of_row w bk 1 _ _ (0, 0) hbox).trans rfl
  go_enter Tryz.func44, Tryz.ntmps44
  go_wp2_with fail
  go_loopw [3] (fun i wr => ∃ k : Nat, k ≤ es.length ∧ i = .int .i64 k ∧ Below w.heap.size w wr) (fun i _ => es.length - (intOf i).toNat)
  case atStart => exact ⟨0, Nat.zero_le _, rfl, Below.refl _ _⟩
  case round =>
    obtain ⟨k, hk, rfl, hb⟩ := hrel
    have c0 := bk_later hb b0
    have c1 := bk_later hb b1
    by_cases hlt : k < es.length
    · have hki : (k : Int) < es.length := by omega
      obtain ⟨gL, rfl⟩ : ∃ g, aL = some ⟨g, 0, none⟩ := by
        rcases hL.2 with ⟨_, h0⟩ | ⟨g, c, cur, hv, _⟩
        · omega
        · cases hv; exact ⟨g, rfl⟩
      obtain ⟨gN, rfl⟩ : ∃ g, aN = some ⟨g, 0, none⟩ := by
        rcases hN.2 with ⟨_, h0⟩ | ⟨g, c, cur, hv, _⟩
        · omega
        · cases hv; exact ⟨g, rfl⟩
      obtain ⟨x, hx⟩ : ∃ x, x = es[k] := ⟨_, rfl⟩
      have l0w' : w.cell? ⟨gL, k, none⟩ = some (.slice x.ao x.len x.cap) := by rw [hL.cellAt k (by omega), List.getElem?_map, List.getElem?_eq_getElem hlt, ← hx]; rfl
      have l0 : wr.cell? ⟨gL, k, none⟩ = some (.slice x.ao x.len x.cap) := bk_later hb l0w'
      have n0 : wr.cell? ⟨gN, k, none⟩ = some (.int .i64 x.len) := bk_later hb (by rw [hN.cellAt k (by omega), List.getElem?_map, List.getElem?_eq_getElem hlt, ← hx]; rfl)
      have hx0 := hlies k hlt
      rw [← hx] at hx0
      have hxl := hen x (by rw [hx]; exact List.getElem_mem _)
      have hxli : (x.len : Int) ≤ 1000000100 := by omega
      clear hx
      go_wp2_with fail
      go_quiet (fail)
      go_wp2_with fail
      go_loopw [4] (fun j wr => ∃ q : Nat, q ≤ x.len ∧ j = .int .i64 q ∧ Below w.heap.size w wr) (fun j _ => x.len - (intOf j).toNat)
      case atStart => exact ⟨0, Nat.zero_le _, rfl, below_drewM hb _⟩
      case round =>
        clear c0 c1 l0 n0 hb
        obtain ⟨q, hq, rfl, hb⟩ := hrel
        have c0 := bk_later hb b0
        have c1 := bk_later hb b1
        have l0 := bk_later hb l0w'
        by_cases hqt : q < x.len
        · have hqi : (q : Int) < x.len := by omega
          obtain ⟨xb, xo, hao, hxc⟩ := hx0.at (by omega)
          rw [hao] at l0
          have m0 : wr.cell? ⟨xb, xo + q, none⟩ = some (.int .u8 (markI (k / 3) q)) := bk_later hb (by
            rw [hxc q hqt]
            simp [marks, List.getD, hqt])
          have hM := fun W => mark7_any (k / 3) q W (by omega) (by omega)
          have hkc : ((k / 3 : Nat) : Int) = (k : Int) / 3 := by omega
          rw [hkc] at hM
          go_wp2_with fail
          go_quiet ((go_at_call 75; exact Calls.quiet_of_same (hM _)))
          go_wp2
          go_roundw
          case rel => exact ⟨q + 1, by omega, by go_num, below_drewM hb _⟩
          case measure => simp [intOf]; omega
        · have hqi : ¬ (q : Int) < x.len := by omega
          go_wp2
          go_roundw
          case rel => exact ⟨k + 1, by omega, by go_num, hb⟩
          case measure => simp [intOf]; omega
    · have hki : ¬ (k : Int) < es.length := by omega
      go_wp2
      go_ret
      exact ⟨rfl, hb⟩
end Go.Proofs.YtnmdnglbpkpfdaaGreatDoor

/- Book.all by its contract, at three lists. -/
namespace Go.Proofs.YtnmdnglbpkpfdaaGreatDoor
open Go.RowKit
set_option maxRecDepth 100000
/-- Old blocks that are not B's and not one of these are as they were. -/
structure FrO (B : Nat → Prop) (obs : List (Option Nat)) (w w' : World) : Prop where
  os : w'.os = w.os
  tape : w'.tape = w.tape
  output : w'.output = w.output
  size : w.heap.size ≤ w'.heap.size
  block : ∀ k, k < w.heap.size → ¬ B k → some k ∉ obs → w'.heap[k]? = w.heap[k]?

theorem keep_fr (vE : Value) (base bk i n cl : Nat) (B : Nat → Prop) (es : List Bl) (al : Option Addr) (xs : List Int) (w : World) (hbase : base ≤ w.heap.size) (hB : Bk w base bk vE B es) (hes : es.length = 3 * i) (hi : i ≤ 100000000) (hn : n ≤ 1000000000)
    (hown : w.ownsRow base 5 1 (.slice al n cl) n (xs.map (Value.int .u8))) (hnB : ∀ b, (Value.slice al n cl).ownBlock = some b → ¬ B b) :
    Calls Tryz.prog 104 #[.pointer (some ⟨bk, 0, none⟩), .slice al n cl] w fun e w' => e = .returned (.tuple #[]) ∧ ∃ e1 e2, Bk w' base bk vE (fun k => B k ∨ (Value.slice al n cl).ownBlock = some k ∨ w.heap.size ≤ k) (es ++ [⟨al, n, cl⟩, e1, e2]) ∧ e1.len = n + 1 ∧ e2.len = n + 92 ∧ FrO B [(Value.slice al n cl).ownBlock] w w' := by
  refine (bkKeep_any vE base bk i n cl B es al xs w hbase hB hes hi hn hown hnB).mono ?_
  rintro e w' ⟨rfl, e1, e2, h, g1, g2, h1, h2, h3, h4, h5⟩
  exact ⟨rfl, e1, e2, h, g1, g2, h1, h2, h3, h4, fun k hk hb ho => h5 k hk hb (fun h => ho (by simp [h]))⟩

theorem Bk.weaken {w : World} {vE : Value} {base bk : Nat} {B B' : Nat → Prop} {es : List Bl} (h : Bk w base bk vE B es) (hb : ∀ k, k < w.heap.size → B k → B' k) : Bk w base bk vE B' es := by
  obtain ⟨⟨vL, vN, hbox, hL, hN, hBL, hBN⟩, hbk, hl, hm⟩ := h
  exact ⟨⟨vL, vN, hbox, hL, hN, fun k hk => hb k (hL.lt k hk).2 (hBL k hk), fun k hk => hb k (hN.lt k hk).2 (hBN k hk)⟩, ⟨hbk.1, hb _ (lt_of_block hbox) hbk.2⟩, hl, fun e he ad had => by
    obtain ⟨x1, x2, cs, x3⟩ := hm e he ad had
    exact ⟨hb _ (lt_of_block x3) x1, x2, cs, x3⟩⟩

theorem own_fro {w w' : World} {base n c : Nat} {ao : Option Addr} {xs : List Value} {B : Nat → Prop} {obs : List (Option Nat)} (h : w.ownsRow base 5 1 (.slice ao n c) n xs) (hF : FrO B obs w w') (hB : ∀ b, (Value.slice ao n c).ownBlock = some b → ¬ B b ∧ some b ∉ obs) : w'.ownsRow base 5 1 (.slice ao n c) n xs := by
  obtain ⟨h1, h2⟩ := h
  refine ⟨h1, ?_⟩
  rcases h2 with h2 | ⟨g, cap, cur, hv, hg, hh, r⟩
  · exact Or.inl h2
  · have hb := hB g (by rw [hv]; rfl)
    exact Or.inr ⟨g, cap, cur, hv, hg, (hF.block g (lt_of_block hh) hb.1 hb.2).trans hh, r⟩
theorem own_type {w : World} {base n c q : Nat} {ao : Option Addr} {xs cs : List Value} {t : Nat} (h : w.ownsRow base 5 1 (.slice ao n c) n xs) (hq : w.heap[q]? = some (.cells cs.toArray t)) (ht : t ≠ 5) : (Value.slice ao n c).ownBlock ≠ some q := by
  intro he
  rcases h.2 with ⟨h, _⟩ | ⟨g, cap, cur, h, _, hh, _⟩
  · cases h; cases he
  · cases h; cases he
    rw [hh] at hq
    simp at hq
    exact ht hq.2.symm

theorem own_later {w w' : World} {base e s n : Nat} {v : Value} {xs : List Value} (h : w.ownsRow base e s v n xs) (hb : Below w.heap.size w w') : w'.ownsRow base e s v n xs := by
  obtain ⟨h1, h2⟩ := h
  refine ⟨h1, ?_⟩
  rcases h2 with h2 | ⟨g, cap, cur, hv, hg, hh, r⟩
  · exact Or.inl h2
  · exact Or.inr ⟨g, cap, cur, hv, hg, (hb.block g (lt_of_block hh)).trans hh, r⟩

theorem lies_block {w w' : World} {ao : Option Addr} {n c : Nat} {bs : List Int} (h : Lies w ao n c bs) (hk : ∀ ad, ao = some ad → w'.heap[ad.block]? = w.heap[ad.block]?) : Lies w' ao n c bs :=
  ⟨h.hlen, h.hle, h.hnone, fun ad had j u hu => by
    rw [← h.hcells ad had j u hu]
    exact World.cell?_of_block (w := w) (by rw [add_block]; exact hk ad had)⟩
theorem lies_lt {w : World} {ao : Option Addr} {n c : Nat} {bs : List Int} (h : Lies w ao n c bs) (hn : 0 < n) : ∀ ad, ao = some ad → ad.block < w.heap.size := fun ad had => by
  have hl := h.hlen
  obtain ⟨x, hx⟩ : ∃ x, bs[0]? = some x := ⟨_, List.getElem?_eq_getElem (by omega)⟩
  have := World.block_lt_of_cell? w _ (h.hcells ad had 0 (.int .u8 x) (by simp [hx]))
  rw [add_block] at this
  exact this
/-- What the book leaves of the three lists that it took in. -/
structure AllR (w w' : World) (vE : Value) (base bk n : Nat) (B : Nat → Prop) (es : List Bl) (b0 b1 b2 : Option Nat) : Prop where
  ex : ∃ es', es'.length = 9 ∧ (∀ e ∈ es', e.len ≤ n + 92) ∧ Bk w' base bk vE (fun k => B k ∨ b0 = some k ∨ b1 = some k ∨ b2 = some k ∨ (w.heap.size ≤ k ∧ k < w'.heap.size)) (es ++ es')
  fr : FrO B [b0, b1, b2] w w'
set_option maxHeartbeats 2000000 in
theorem all_3 (vE : Value) (base bk i n c0 c1 c2 cw q : Nat) (B : Nat → Prop) (es : List Bl) (a0 a1 a2 aw : Option Addr) (L : List Int) (w : World) (hbase : base ≤ w.heap.size) (hB : Bk w base bk vE B es) (hes : es.length = 3 * i) (hi : i + 3 ≤ 100000000) (hn0 : 0 < n) (hn : n ≤ 1000000000)
    (o0 : w.ownsRow base 5 1 (.slice a0 n c0) n (L.map (Value.int .u8))) (o1 : w.ownsRow base 5 1 (.slice a1 n c1) n (L.map (Value.int .u8))) (o2 : w.ownsRow base 5 1 (.slice a2 n c2) n (L.map (Value.int .u8))) (ow : Lies w aw n cw L)
    (hq : w.heap[q]? = some (.cells #[.slice a0 n c0, .slice a1 n c1, .slice a2 n c2] 56)) (hqB : ¬ B q)
    (n0 : ∀ b, (Value.slice a0 n c0).ownBlock = some b → ¬ B b) (n1 : ∀ b, (Value.slice a1 n c1).ownBlock = some b → ¬ B b ∧ (Value.slice a0 n c0).ownBlock ≠ some b) (n2 : ∀ b, (Value.slice a2 n c2).ownBlock = some b → ¬ B b ∧ (Value.slice a0 n c0).ownBlock ≠ some b ∧ (Value.slice a1 n c1).ownBlock ≠ some b)
    (nw : ∀ ad, aw = some ad → ¬ B ad.block ∧ (Value.slice a0 n c0).ownBlock ≠ some ad.block ∧ (Value.slice a1 n c1).ownBlock ≠ some ad.block ∧ (Value.slice a2 n c2).ownBlock ≠ some ad.block) :
    Calls Tryz.prog 73 #[.pointer (some ⟨bk, 0, none⟩), .slice (some ⟨q, 0, none⟩) 3 3, .slice aw n cw] w fun e w' => e = .returned (.bool true) ∧ AllR w w' vE base bk n B es (Value.slice a0 n c0).ownBlock (Value.slice a1 n c1).ownBlock (Value.slice a2 n c2).ownBlock := by
  have t0 := own_type (cs := [.slice a0 n c0, .slice a1 n c1, .slice a2 n c2]) o0 hq (by decide)
  have t1 := own_type (cs := [.slice a0 n c0, .slice a1 n c1, .slice a2 n c2]) o1 hq (by decide)
  have k0 : w.cell? ⟨q, 0, none⟩ = some (.slice a0 n c0) := (cell_of_row w q 0 _ _ (0, 0) hq).trans rfl
  have lw := lies_lt ow hn0
  have lq := lt_of_block hq
  go_enter Tryz.func73, Tryz.ntmps73
  go_wp2_with fail
  refine wp_loop_rounds 4 ?_
  rw [rounds_succ]
  go_wp2_with fail
  refine (same_any a0 aw n n c0 cw L L _ (by omega) (Lies.owned o0) ow).mono ?_
  rintro e u1 ⟨rfl, m1, hu1⟩
  have hb1 : Below w.heap.size w u1 := by rw [hu1]; exact ⟨rfl, rfl, rfl, Nat.le_refl _, fun _ _ => rfl⟩
  clear hu1
  rw [decide_eq_true (rfl : L = L)]
  have k0' := bk_later hb1 k0
  go_wp2_with fail
  refine (keep_fr vE base bk i n c0 B es a0 L u1 (Nat.le_trans hbase hb1.size) (hB.below hb1) hes (by omega) hn (own_later o0 hb1) n0).mono ?_
  rintro e u2 ⟨rfl, x1, x2, hB2, l1, l2, hF2⟩
  have s1 := hb1.size
  have s2 := hF2.size
  have hq1 := (hb1.block q lq).trans hq
  have hq2 := (hF2.block q (lt_of_block hq1) hqB (by simpa using fun h => t0 h.symm)).trans hq1
  have o12 := own_fro (own_later o1 hb1) hF2 (fun b hb => ⟨(n1 b hb).1, by simpa using fun h => (n1 b hb).2 h.symm⟩)
  have o22 := own_fro (own_later o2 hb1) hF2 (fun b hb => ⟨(n2 b hb).1, by simpa using fun h => (n2 b hb).2.1 h.symm⟩)
  have ow2 : Lies u2 aw n cw L := lies_block ow (fun ad had => (hF2.block _ (by have := lw ad had; omega) (nw ad had).1 (by simpa using fun h => (nw ad had).2.1 h.symm)).trans (hb1.block _ (lw ad had)))
  have k1 : u2.cell? ⟨q, 1, none⟩ = some (.slice a1 n c1) := (cell_of_row u2 q 1 _ _ (0, 0) hq2).trans rfl
  have lt1 := fun b hb => (o1.lt b hb).2
  have lt2 := fun b hb => (o2.lt b hb).2
  clear k0 k0'
  go_wp2_with fail
  rw [rounds_succ]
  go_wp2_with fail
  refine (same_any a1 aw n n c1 cw L L _ (by omega) (Lies.owned o12) ow2).mono ?_
  rintro e u3 ⟨rfl, m3, hu3⟩
  have hb3 : Below u2.heap.size u2 u3 := by rw [hu3]; exact ⟨rfl, rfl, rfl, Nat.le_refl _, fun _ _ => rfl⟩
  clear hu3
  rw [decide_eq_true (rfl : L = L)]
  have k1' := bk_later hb3 k1
  have s3 := hb3.size
  go_wp2_with fail
  refine (keep_fr vE base bk (i + 1) n c1 _ _ a1 L u3 (by omega) (hB2.below hb3) (by simp [hes]; omega) (by omega) hn (own_later o12 hb3) (fun b hb h => by
    rcases h with h | h | h
    · exact (n1 b hb).1 h
    · exact (n1 b hb).2 h
    · have := lt1 b hb; omega)).mono ?_
  rintro e u4 ⟨rfl, y1, y2, hB4, m1, m2, hF4⟩
  have s4 := hF4.size
  have nB1 : ∀ b, b < w.heap.size → ¬ B b → (Value.slice a0 n c0).ownBlock ≠ some b → ¬ (B b ∨ (Value.slice a0 n c0).ownBlock = some b ∨ u1.heap.size ≤ b) := fun b hb h1 h2 h => by
    rcases h with h | h | h
    · exact h1 h
    · exact h2 h
    · omega
  have hq3 := (hb3.block q (lt_of_block hq2)).trans hq2
  have hq4 := (hF4.block q (lt_of_block hq3) (nB1 q lq hqB (fun h => t0 h)) (by simpa using fun h => t1 h.symm)).trans hq3
  have o24 := own_fro (own_later o22 hb3) hF4 (fun b hb => ⟨nB1 b (lt2 b hb) (n2 b hb).1 (n2 b hb).2.1, by simpa using fun h => (n2 b hb).2.2 h.symm⟩)
  have ow4 : Lies u4 aw n cw L := lies_block ow2 (fun ad had => (hF4.block _ (by have := lw ad had; omega) (nB1 _ (lw ad had) (nw ad had).1 (nw ad had).2.1) (by simpa using fun h => (nw ad had).2.2.1 h.symm)).trans (hb3.block _ (by have := lw ad had; omega)))
  have k2 : u4.cell? ⟨q, 2, none⟩ = some (.slice a2 n c2) := (cell_of_row u4 q 2 _ _ (0, 0) hq4).trans rfl
  clear k1 k1'
  go_wp2_with fail
  rw [rounds_succ]
  go_wp2_with fail
  refine (same_any a2 aw n n c2 cw L L _ (by omega) (Lies.owned o24) ow4).mono ?_
  rintro e u5 ⟨rfl, m5, hu5⟩
  have hb5 : Below u4.heap.size u4 u5 := by rw [hu5]; exact ⟨rfl, rfl, rfl, Nat.le_refl _, fun _ _ => rfl⟩
  clear hu5
  rw [decide_eq_true (rfl : L = L)]
  have k2' := bk_later hb5 k2
  have s5 := hb5.size
  go_wp2_with fail
  refine (keep_fr vE base bk (i + 2) n c2 _ _ a2 L u5 (by omega) (hB4.below hb5) (by simp [hes]; omega) (by omega) hn (own_later o24 hb5) (fun b hb h => by
    have := lt2 b hb
    rcases h with h | h | h
    · exact nB1 b this (n2 b hb).1 (n2 b hb).2.1 h
    · exact (n2 b hb).2.2 h
    · omega)).mono ?_
  rintro e u6 ⟨rfl, z1, z2, hB6, p1, p2, hF6⟩
  have s6 := hF6.size
  clear k2 k2'
  go_wp2_with fail
  rw [rounds_succ]
  go_wp2
  go_ret
  refine ⟨rfl, ⟨[⟨a0, n, c0⟩, x1, x2, ⟨a1, n, c1⟩, y1, y2, ⟨a2, n, c2⟩, z1, z2], rfl, ?_, ?_⟩, ?_⟩
  · intro e he
    simp at he
    rcases he with rfl | rfl | rfl | rfl | rfl | rfl | rfl | rfl | rfl <;> (try simp only) <;> omega
  · have h := hB6.weaken (B' := fun k => B k ∨ (Value.slice a0 n c0).ownBlock = some k ∨ (Value.slice a1 n c1).ownBlock = some k ∨ (Value.slice a2 n c2).ownBlock = some k ∨ (w.heap.size ≤ k ∧ k < u6.heap.size)) (fun k hk h => by
      rcases h with ((h | h | h) | h | h) | h | h
      · exact .inl h
      · exact .inr (.inl h)
      · exact .inr (.inr (.inr (.inr ⟨by omega, hk⟩)))
      · exact .inr (.inr (.inl h))
      · exact .inr (.inr (.inr (.inr ⟨by omega, hk⟩)))
      · exact .inr (.inr (.inr (.inl h)))
      · exact .inr (.inr (.inr (.inr ⟨by omega, hk⟩))))
    simpa using h
  · refine ⟨?_, ?_, ?_, by omega, fun k hk hb ho => ?_⟩
    · rw [hF6.os, hb5.os, hF4.os, hb3.os, hF2.os, hb1.os]
    · rw [hF6.tape, hb5.tape, hF4.tape, hb3.tape, hF2.tape, hb1.tape]
    · rw [hF6.output, hb5.output, hF4.output, hb3.output, hF2.output, hb1.output]
    · simp only [List.mem_cons, List.not_mem_nil, or_false, not_or] at ho
      have nb := nB1 k hk hb (fun h => ho.1 h.symm)
      rw [hF6.block k (by omega) (fun h => by
        rcases h with h | h | h
        · exact nb h
        · exact ho.2.1 h.symm
        · omega) (by simpa using ho.2.2), hb5.block k (by omega), hF4.block k (by omega) nb (by simpa using ho.2.1), hb3.block k (by omega), hF2.block k (by omega) hb (by simpa using ho.1), hb1.block k hk]
end Go.Proofs.YtnmdnglbpkpfdaaGreatDoor

/- codeOf at no error; Format by its contract. -/
namespace Go.Proofs.YtnmdnglbpkpfdaaGreatDoor
open Go.RowKit
set_option maxRecDepth 100000
theorem as_nil (v : Value) (w : World) : Calls Tryz.prog 111 #[.nilIface, v] w fun e w' => e = .returned (.bool false) ∧ w' = w := by
  go_enter Tryz.func111, Tryz.ntmps111
  go_wp2
  go_ret
  exact ⟨rfl, rfl⟩
theorem codeOf_nil (w : World) : Calls Tryz.prog 84 #[.nilIface] w fun e w' => e = .returned (.int .i64 0) ∧ Below w.heap.size w w' := by
  go_enter Tryz.func84, Tryz.ntmps84
  go_wp2_with (go_at_call 111; refine (as_nil _ _).mono ?_; rintro e wn ⟨rfl, hwn⟩; subst wn)
  go_ret
  exact ⟨rfl, (Below.refl _ w).alloc (Nat.le_refl _) _⟩
/-- The power is on, and does not fail at the next m operations. -/
structure Lasts (S : DevS) (m : Nat) : Prop where
  on : S.off = false
  fu : S.fuse = 0 ∨ m < S.fuse
theorem Lasts.burnt {S : DevS} {m : Nat} (h : Lasts S (m + 1)) : Lasts (burnt S) m := by
  obtain ⟨h1, h2⟩ := h
  unfold Go.Proofs.YtnmdnglbpkpfdaaGreatDoor.burnt
  split
  · rename_i h0; exact ⟨h1, Or.inl h0⟩
  · rename_i h0
    refine ⟨?_, Or.inr (by simp only; omega)⟩
    simp [h1]; omega
theorem Lasts.mono {S : DevS} {m n : Nat} (h : Lasts S m) (hn : n ≤ m) : Lasts S n := ⟨h.on, h.fu.imp id (fun q => by omega)⟩
theorem wkE_ok {S : DevS} {k m : Nat} {b : Nat} (h : Lasts S (m + 1)) (hb : b < k) : wkE 0 S k b 512 = 0 := by
  have := h.burnt.on
  unfold wkE wrE
  rw [if_pos rfl, if_neg (fun q => q ⟨by omega, by omega⟩), if_neg (fun q => q rfl), if_neg (by simp [this])]
theorem wkS_ok {S : DevS} {k m : Nat} {b : Nat} {d : List Int} (h : Lasts S (m + 1)) (hb : b < k) (hd : d.length = 512) : wkS 0 S k b d = wrote (burnt S) b d := by
  have := h.burnt.on
  unfold wkS wrS
  rw [if_pos rfl, if_neg (fun q => q ⟨by omega, by omega⟩), if_neg (fun q => q hd), if_neg (by simp [this])]
  rfl
theorem fkE_ok {S : DevS} {m : Nat} (h : Lasts S (m + 1)) : fkE 0 S = 0 := by
  have := h.burnt.on
  unfold fkE flE
  rw [if_pos rfl, if_neg (by simp [this])]
theorem fkS_ok {S : DevS} {m : Nat} (h : Lasts S (m + 1)) : fkS 0 S = flushed (burnt S) := by
  have := h.burnt.on
  unfold fkS flS
  rw [if_pos rfl, if_neg (by simp [this])]
theorem Lasts.wrote {S : DevS} {m : Nat} (h : Lasts S m) (b : Nat) (d : List Int) : Lasts (wrote S b d) m := ⟨h.on, h.fu⟩
theorem Lasts.flushed {S : DevS} {m : Nat} (h : Lasts S m) : Lasts (flushed S) m := ⟨h.on, h.fu⟩
/-- A write of a call that met no error and meets none. -/
structure Wrt (w w' : World) (wb d : Nat) (S : DevS) (k N : Nat) (F : Nat → Prop) : Prop where
  wk : Wk w' wb d .nilIface
  dv : Dev w' d 0 S k N (grow F w w')
  tr : Turns (fun i => F i ∨ i = wb) w w'
theorem wkwrite_ok {w : World} {d wb : Nat} {S : DevS} {k N m : Nat} {F : Nat → Prop} (hD : Dev w d 0 S k N F) (hW : Wk w wb d .nilIface) (hwF : ¬ F wb) (hS : Lasts S (m + 1)) (b : Nat) (hb : b < k) (ao : Option Addr) (c : Nat) (ds : List Int) (hL : Lies w ao 512 c ds) (hy : ∀ x ∈ ds, 0 ≤ x ∧ x ≤ 255) (hF : ∀ ad, ao = some ad → ¬ F ad.block) (hN : N ≤ 1099511627776) :
    Calls Tryz.prog 80 #[.pointer (some ⟨wb, 0, none⟩), .int .i64 b, .slice ao 512 c] w fun e w' => e = .returned (.tuple #[]) ∧ Wrt w w' wb d (wrote (burnt S) b ds) k (N + 1) F := by
  refine (wkwrite_any hD hW (Or.inl ⟨rfl, rfl⟩) hwF b ao 512 c ds hL hy hF hN).mono ?_
  rintro e w' ⟨rfl, ev, hev, k1, d1, t1⟩
  rw [wkE_ok hS hb] at hev
  rw [wkS_ok hS hb hL.hlen] at d1
  obtain ⟨_, rfl⟩ := hev.resolve_right (fun h => h.1 rfl)
  exact ⟨rfl, k1, d1, t1⟩
theorem wkflush_ok {w : World} {d wb : Nat} {S : DevS} {k N m : Nat} {F : Nat → Prop} (hD : Dev w d 0 S k N F) (hW : Wk w wb d .nilIface) (hwF : ¬ F wb) (hS : Lasts S (m + 1)) (hN : N ≤ 1099511627776) :
    Calls Tryz.prog 82 #[.pointer (some ⟨wb, 0, none⟩)] w fun e w' => e = .returned (.tuple #[]) ∧ Wrt w w' wb d (flushed (burnt S)) k N F := by
  refine (wkflush_any hD hW (Or.inl ⟨rfl, rfl⟩) hwF hN).mono ?_
  rintro e w' ⟨rfl, ev, hev, k1, d1, t1⟩
  rw [fkE_ok hS] at hev
  rw [fkS_ok hS] at d1
  obtain ⟨_, rfl⟩ := hev.resolve_right (fun h => h.1 rfl)
  exact ⟨rfl, k1, d1, t1⟩
end Go.Proofs.YtnmdnglbpkpfdaaGreatDoor

/- Format by its contract. -/
namespace Go.Proofs.YtnmdnglbpkpfdaaGreatDoor
open Go.RowKit
set_option maxRecDepth 100000
def zB : List Int := List.replicate 512 0
/-- The first p places of a log are written with zeros. -/
def zrs (S : DevS) (st : Nat) : Nat → DevS
  | 0 => S
  | p + 1 => wrote (burnt (zrs S st p)) (st + 1 + p) zB
theorem zrs_lasts {S : DevS} {st m : Nat} : ∀ (p : Nat), Lasts S (p + m) → Lasts (zrs S st p) m
  | 0, h => by rw [Nat.zero_add] at h; exact h
  | p + 1, h => ((zrs_lasts (m := m + 1) p (by rw [show p + (m + 1) = p + 1 + m by omega]; exact h)).burnt).wrote _ _
/-- What a device holds behind Format. -/
def fmtS (S : DevS) (st sz : Nat) : DevS := flushed (burnt (wrote (burnt (flushed (burnt (zrs S st (sz - 1))))) st (jheadB 1 0)))
theorem jheadB_len (a b : Int) : (jheadB a b).length = 512 := fillB_len (by simp [hdB_len, be_length])
theorem jheadB_by (a b : Int) : ∀ x ∈ jheadB a b, 0 ≤ x ∧ x ≤ 255 := fillB_by (fun x hx => by
  rcases List.mem_append.1 hx with hx | hx
  · exact hdB_by a b x hx
  · exact be_by _ _ x hx)
theorem zB_by : ∀ x ∈ zB, 0 ≤ x ∧ x ≤ 255 := fun x hx => by have := List.eq_of_mem_replicate hx; omega
/-- What a call holds while it works: its device, its work, blocks X that are not the device's, what may have turned since it began. -/
structure Wg (w0 w : World) (F X : Nat → Prop) (wb d : Nat) (S : DevS) (k N : Nat) : Prop where
  wk : Wk w wb d .nilIface
  dv : ∃ G, Dev w d 0 S k N G ∧ (∀ i, G i → F i ∨ w0.heap.size ≤ i) ∧ ∀ i, X i → ¬ G i
  xl : ∀ i, X i → i < w.heap.size
  xw : X wb
  tr : Turns (fun i => F i ∨ i = wb) w0 w
  nw : w0.heap.size ≤ wb
theorem Wg.wrt {w0 w w' : World} {F X G : Nat → Prop} {wb d : Nat} {S S' : DevS} {k N N' : Nat} (h : Wg w0 w F X wb d S k N) (hG : ∀ i, G i → F i ∨ w0.heap.size ≤ i) (hX : ∀ i, X i → ¬ G i) (q : Wrt w w' wb d S' k N' G) : Wg w0 w' F X wb d S' k N' ∧ ∀ g o, X g → g ≠ wb → w.heap[g]? = some o → w'.heap[g]? = some o :=
  ⟨⟨q.wk, ⟨grow G w w', q.dv, fun i hi => hi.elim (hG i) (fun r => Or.inr (Nat.le_trans h.tr.size r.1)), fun i hi r => hX i hi (grow_old i (h.xl i hi) r)⟩, fun i hi => Nat.lt_of_lt_of_le (h.xl i hi) q.tr.size, h.xw, h.tr.trans q.tr (fun i hi r => r.elim (fun r => (hG i r).elim Or.inl (fun r => by omega)) Or.inr), h.nw⟩,
    fun g o hg hn ho => (q.tr.block g (h.xl g hg) (fun r => r.elim (hX g hg) hn)).trans ho⟩
theorem Wg.below {w0 w w' : World} {F X : Nat → Prop} {wb d : Nat} {S : DevS} {k N : Nat} (h : Wg w0 w F X wb d S k N) (b : Below w.heap.size w w') : Wg w0 w' F X wb d S k N := by
  obtain ⟨G, D, h1, h2⟩ := h.dv
  exact ⟨h.wk.turns (Below.turns b (fun _ => False)) id, ⟨G, D.below b, h1, h2⟩, fun i hi => Nat.lt_of_lt_of_le (h.xl i hi) b.size, h.xw, h.tr.trans (Below.turns b (fun _ => False)) (fun _ _ r => r.elim), h.nw⟩
/-- New blocks are not the device's. -/
theorem Wg.add {w0 w w' : World} {F X : Nat → Prop} {wb d : Nat} {S : DevS} {k N : Nat} (h : Wg w0 w F X wb d S k N) (b : Below w.heap.size w w') : Wg w0 w' F (fun i => X i ∨ (w.heap.size ≤ i ∧ i < w'.heap.size)) wb d S k N := by
  obtain ⟨G, D, h1, h2⟩ := h.dv
  have h' := h.below b
  exact { h' with
    dv := ⟨G, D.below b, h1, fun i hi r => hi.elim (fun hi => h2 i hi r) (fun hi => by have := D.lt i r; omega)⟩
    xl := fun i hi => hi.elim (h'.xl i) (fun hi => hi.2)
    xw := Or.inl h.xw }
theorem Wg.less {w0 w : World} {F X Y : Nat → Prop} {wb d : Nat} {S : DevS} {k N : Nat} (h : Wg w0 w F X wb d S k N) (hY : ∀ i, Y i → X i) (hw : Y wb) : Wg w0 w F Y wb d S k N := by
  obtain ⟨G, D, h1, h2⟩ := h.dv
  exact { h with dv := ⟨G, D, h1, fun i hi => h2 i (hY i hi)⟩, xl := fun i hi => h.xl i (hY i hi), xw := hw }
theorem Wg.start {w w' : World} {F : Nat → Prop} {d : Nat} {S : DevS} {k N : Nat} (hF : ∀ i, F i → i < w.heap.size) (k1 : Wk w' w.heap.size d .nilIface) (q : Same0 w w' d S k N F) : Wg w w' F (fun i => i = w.heap.size) w.heap.size d S k N :=
  ⟨k1, ⟨F, q.1, fun _ => Or.inl, fun i e h => by have := hF _ h; omega⟩, fun i e => by subst e; exact heap_lt k1, rfl, q.2.mono (fun _ _ => Or.inl), Nat.le_refl _⟩
theorem Wg.dev {w0 w : World} {F X : Nat → Prop} {wb d : Nat} {S : DevS} {k N : Nat} (h : Wg w0 w F X wb d S k N) (hF : ∀ i, F i → i < w0.heap.size) : Dev w d 0 S k N (grow F w0 w) ∧ Turns F w0 w := by
  obtain ⟨G, D, h1, _⟩ := h.dv
  refine ⟨D.foot (fun i hi => (h1 i hi).imp id (fun r => ⟨r, D.lt i hi⟩)) (fun i hi => hi.elim (fun r => Nat.lt_of_lt_of_le (hF i r) h.tr.size) (fun r => r.2)), h.tr.mono (fun i hi r => r.elim id (fun r => ?_))⟩
  have := h.nw
  omega
set_option maxHeartbeats 4000000 in
theorem format_ok {w : World} {d : Nat} {S : DevS} {k N : Nat} {F : Nat → Prop} (hD : Dev w d 0 S k N F) (st sz : Nat) (h1 : 27 ≤ sz) (h2 : st + sz ≤ k) (hS : Lasts S (sz + 2)) (hN : N ≤ 1000000000) :
    Calls Tryz.prog 47 #[.pointer (some ⟨d, 0, none⟩), .int .i64 st, .int .i64 sz] w fun e w' => e = .returned (.int .i64 0) ∧ Dev w' d 0 (fmtS S st sz) k (N + sz) (grow F w w') ∧ Turns F w w' := by
  obtain ⟨i0, hi, hz0, hz1, hz2⟩ := info_parts Tryz.info5
  have hF := hD.lt
  have hk := hD.good.top
  obtain ⟨W, hW⟩ : ∃ W, w.alloc (.cells #[.pointer (some ⟨d, 0, none⟩), .int .i64 st, .int .i64 sz] 98) = W := ⟨_, rfl⟩
  have hb : Below w.heap.size w W := by rw [← hW]; exact (Below.refl _ w).alloc (Nat.le_refl _) _
  have x0 : W.cell? ⟨w.heap.size, 0, none⟩ = some (.pointer (some ⟨d, 0, none⟩)) := by rw [← hW]; simp
  have x1 : W.cell? ⟨w.heap.size, 1, none⟩ = some (.int .i64 st) := by rw [← hW]; simp
  have x2 : W.cell? ⟨w.heap.size, 2, none⟩ = some (.int .i64 sz) := by rw [← hW]; simp
  have hs : W.heap.size = w.heap.size + 1 := by rw [← hW]; simp
  have hDW := hD.below hb
  have hfit : fitB k st sz = true := by simp [fitB]; omega
  have m1 := fits_any hDW st sz (by omega) (by omega) (by omega)
  rw [hfit] at m1
  go_enter Tryz.func47, Tryz.ntmps47
  go_wp2_with fail
  try rw [hW]
  refine m1.mono ?_
  rintro e w1 ⟨rfl, q1⟩
  have old : ∀ j v, W.cell? ⟨w.heap.size, j, none⟩ = some v → w1.cell? ⟨w.heap.size, j, none⟩ = some v := fun j v h => (World.cell?_of_block (q1.2.block w.heap.size (by omega) (fun r => by have := hF _ r; omega))).trans h
  have y0 := old 0 _ x0
  have y1 := old 1 _ x1
  have y2 := old 2 _ x2
  have s1 := q1.2.size
  clear x0 x1 x2 old m1
  go_wp2_with fail
  refine (begun_any q1.1).mono ?_
  rintro e w2 ⟨ev, rfl, hev, k2, q2⟩
  have he : begE S = 0 := by unfold begE; rw [if_neg (by simp [hS.on])]
  rw [he] at hev
  obtain ⟨_, rfl⟩ := hev.resolve_right (fun h => h.1 rfl)
  have hF1 : ∀ i, F i → i < w1.heap.size := fun i r => by have := hF i r; omega
  have g2 := Wg.start hF1 k2 q2
  obtain ⟨wb, hwb⟩ : ∃ wb, w1.heap.size = wb := ⟨_, rfl⟩
  rw [hwb] at g2
  have T1 : Turns F w w1 := (Below.turns hb F).trans q1.2 (fun _ _ h => h)
  have HT1 : Hid (Turns F w w1) := T1
  have rg : ∀ w', Turns (fun i => F i ∨ i = wb) w1 w' → ∀ j v, w1.cell? ⟨w.heap.size, j, none⟩ = some v → w'.cell? ⟨w.heap.size, j, none⟩ = some v := fun w' t j v h => (World.cell?_of_block (t.block w.heap.size (by omega) (fun r => r.elim (fun r => by have := hF _ r; omega) (fun r => by omega)))).trans h
  have z2 := g2.add ((Below.refl _ w2).alloc (Nat.le_refl _) (.cells (madeCells #[.int .u8 0] 512) 5))
  have hzb := zeros_bl w2 512
  obtain ⟨W3, hW3⟩ : ∃ W3, w2.alloc (.cells (madeCells #[.int .u8 0] 512) 5) = W3 := ⟨_, rfl⟩
  rw [hW3] at z2 hzb
  have hs3 : W3.heap.size = w2.heap.size + 1 := by rw [← hW3]; simp
  have u0 := rg W3 z2.tr 0 _ y0
  have u1 := rg W3 z2.tr 1 _ y1
  have u2 := rg W3 z2.tr 2 _ y2
  have s2 := q2.2.size
  have hwb2 := heap_lt k2
  clear k2 q2 g2 q1 hDW hD hb T1
  go_wp2_with (first
    | (at_make; (refine wpList_make_row _ rfl _ _ 56 rfl 5 i0 (.int .u8 0) Tryz.underlying56 hi hz0 hz1 rfl _ _ 512 rfl rfl (by rw [hz2]; omega) (by omega) ?_; try rw [hW3]))
    | fail)
  refine (places_any d st sz W3 (by omega)).mono ?_
  rintro e w4 ⟨rfl, b4⟩
  have z4 := z2.below b4
  have hz4 := (b4.block _ (by omega)).trans hzb
  have s4 := b4.size
  obtain ⟨gz, hgz⟩ : ∃ gz, w2.heap.size = gz := ⟨_, rfl⟩
  rw [hgz] at hz4
  try rw [hgz]
  clear z2 hzb b4 u0 u1 u2 hW3 hW
  have z5 := z4.less (Y := fun i => i = wb ∨ i = gz) (fun i hi => hi.elim Or.inl (fun r => Or.inr (by omega))) (Or.inl rfl)
  have hgw : gz ≠ wb := by omega
  clear z4
  have hszi : (27 : Int) ≤ sz := by omega
  have hszj : (sz : Int) ≤ 4096 := by omega
  go_wp2_with fail
  go_loopw [23] (fun i wr => ∃ p : Nat, p ≤ sz - 1 ∧ i = .int .i64 p ∧ Wg w1 wr F (fun i => i = wb ∨ i = gz) wb d (zrs S st p) k (N + p) ∧ wr.heap[gz]? = some (bl zB)) (fun i _ => sz - 1 - (intOf i).toNat)
  case atStart => exact ⟨0, Nat.zero_le _, rfl, z5, hz4⟩
  case round =>
    clear z5 hz4
    obtain ⟨p, hp, rfl, hg, hz⟩ := hrel
    have v0 := rg wr hg.tr 0 _ y0
    have v1 := rg wr hg.tr 1 _ y1
    have v2 := rg wr hg.tr 2 _ y2
    by_cases hlt : p < sz - 1
    · have hpi : (p : Int) < sz - 1 := by omega
      have hmod : p % (sz - 1) = p := Nat.mod_eq_of_lt hlt
      have hla : Lasts (zrs S st p) (sz + 2 - p - 1 + 1) := zrs_lasts p (hS.mono (by omega))
      go_wp2_with fail
      refine (at_any d st sz p _ (by omega) (by omega) (by omega)).mono ?_
      rintro e w5 ⟨rfl, b5⟩
      rw [hmod]
      have h5 := hg.below b5
      have hz5 := (b5.block gz (heap_lt hz)).trans hz
      clear hg hz b5 v0 v1 v2
      obtain ⟨G, D, hG, hX⟩ := h5.dv
      go_wp2_with fail
      refine (wkwrite_ok D h5.wk (hX wb (Or.inl rfl)) hla (st + 1 + p) (by omega) (some ⟨gz, 0, none⟩) 512 zB (Lies.full hz5 (by simp [zB])) zB_by (fun ad e => by cases e; exact hX gz (Or.inr rfl)) (by omega)).mono ?_
      rintro e w6 ⟨rfl, q6⟩
      obtain ⟨h6, k6⟩ := h5.wrt hG hX q6
      have hz6 := k6 gz _ (Or.inr rfl) hgw hz5
      clear h5 q6 k6 D hX hz5
      go_wp2_with fail
      go_roundw
      case rel => exact ⟨p + 1, by omega, by go_num, h6, hz6⟩
      case measure => simp [intOf]; omega
    · have hpe : p = sz - 1 := by omega
      subst hpe
      have hpi : ¬ (((sz - 1 : Nat) : Int) < sz - 1) := by omega
      have hla : Lasts (zrs S st (sz - 1)) 3 := zrs_lasts (sz - 1) (hS.mono (by omega))
      have HSZ : Hid (fmtS S st sz = flushed (burnt (wrote (burnt (flushed (burnt (zrs S st (sz - 1))))) st (jheadB 1 0)))) := rfl
      generalize zrs S st (sz - 1) = Z at *
      obtain ⟨G, D, hG, hX⟩ := hg.dv
      go_wp2_with fail
      refine (wkflush_ok D hg.wk (hX wb (Or.inl rfl)) hla (by omega)).mono ?_
      rintro e w6 ⟨rfl, q6⟩
      obtain ⟨h6, _⟩ := hg.wrt hG hX q6
      have hl6 : Lasts (flushed (burnt Z)) 2 := hla.burnt.flushed
      clear hg q6 D hX hG G v0 v1 v2 hz
      generalize flushed (burnt Z) = Z6 at *
      have v1 := rg w6 h6.tr 1 _ y1
      go_wp2_with fail
      go_region_held3 (fun w' => w'.cell? ⟨w.heap.size, 1, none⟩ = some (.int .i64 st))
        (first | exact v1 | exact v7 | exact v8)
        (first
          | (go_at_call 83; refine (headBlock_any 1 0 _).mono ?_; rintro e w7 ⟨g7, rfl, l7, b7, q7⟩; have q7 := Below.fromDrew q7; have h7 := (h6.add q7).less (Y := fun i => i = wb ∨ i = g7) (fun i hi => hi.elim (fun r => Or.inl (Or.inl r)) (fun r => Or.inr (by have := heap_lt b7; have l7' : w6.heap.size ≤ g7 := l7; omega))) (Or.inl rfl); obtain ⟨G, D, hG, hX⟩ := h7.dv; have v7 := rg w7 h7.tr 1 _ y1)
          | (go_at_call 80; refine (wkwrite_ok D h7.wk (hX wb (Or.inl rfl)) hl6 st (by omega) (some ⟨g7, 0, none⟩) 512 _ (Lies.full b7 (jheadB_len 1 0)) (jheadB_by 1 0) (fun ad e => by cases e; exact hX g7 (Or.inr rfl)) (by omega)).mono ?_; rintro e w8 ⟨rfl, q8⟩; obtain ⟨h8, _⟩ := h7.wrt hG hX q8; have v8 := rg w8 h8.tr 1 _ y1))
      have hl8 : Lasts (wrote (burnt Z6) st (jheadB 1 0)) 1 := hl6.burnt.wrote _ _
      clear h7 q8 D hX hG b7 h6 v7 v8
      generalize wrote (burnt Z6) st (jheadB 1 0) = Z8 at *
      obtain ⟨G, D, hG, hX⟩ := h8.dv
      go_wp2_with fail
      refine (wkflush_ok D h8.wk (hX wb (Or.inl rfl)) hl8 (by omega)).mono ?_
      rintro e w9 ⟨rfl, q9⟩
      obtain ⟨h9, _⟩ := h8.wrt hG hX q9
      have c0 := h9.wk.c0
      have c1 := h9.wk.c1
      clear h8 q9 D hX hG G
      go_wp2_with fail
      refine (codeOf_nil _).mono ?_
      rintro e wA ⟨rfl, bA⟩
      have hA := (h9.below bA).dev hF1
      clear h9 c0 c1 bA
      go_wp2
      go_ret
      refine ⟨rfl, ?_, HT1.out.trans hA.2 (fun _ _ h => h)⟩
      rw [HSZ.out]
      have hD2 := hA.1.more (M := N + sz) (by omega)
      exact hD2.foot (fun i hi => hi.imp id (fun r => ⟨by omega, r.2⟩)) (fun i hi => hi.elim (fun r => by have := hF i r; have := hA.2.size; omega) (fun r => r.2))
end Go.Proofs.YtnmdnglbpkpfdaaGreatDoor
