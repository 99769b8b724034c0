/- The book's lists of numbers; Book.ints by its contract. -/
import Derived.Test.YtnmdnglbpkpfdaaGreatDoorPk06
import Derived.Test.YtnmdnglbpkpfdaaGreatDoorPk10
namespace Go.Proofs.YtnmdnglbpkpfdaaGreatDoor
open Go.RowKit
set_option maxRecDepth 100000
/-- The mark of the i-th list of numbers, so many times. -/
def fullI (i n : Nat) : List Value := List.replicate n (.int .i64 (-1 - (i : Int)))
theorem fullI_length (i n : Nat) : (fullI i n).length = n := by simp [fullI]
theorem fullI_snoc (i n : Nat) : fullI i (n + 1) = fullI i n ++ [.int .i64 (-1 - (i : Int))] := by simp [fullI, List.replicate_succ']
theorem fullI_take (i m k : Nat) (h : m ≤ k) : (fullI i k).take m = fullI i m := by
  unfold fullI
  rw [List.take_replicate, Nat.min_eq_left h]
theorem set_int (i k : Nat) (xs : List Value) (h : k < xs.length) : (fullI i k ++ xs.drop k).set k (.int .i64 (-1 - (i : Int))) = fullI i (k + 1) ++ xs.drop (k + 1) := by
  have h0 := fullI_length i k
  rw [List.drop_eq_getElem_cons h, fullI_snoc, List.set_append_right _ _ (by omega), h0, Nat.sub_self, List.append_assoc]
  rfl
/-- Another list of the same mark stays one, where a list is appended to. -/
theorem own_besideI {w w' : World} {base n k m i : Nat} {v v' u : Value} (hv : w.ownsRow base 3 1 v n (fullI i n)) (hl : Laid w w' v v' n k) (hv' : w'.ownsRow base 3 1 v' k (fullI i k)) (hu : w.ownsRow base 3 1 u m (fullI i m)) (hmk : m ≤ k) : w'.ownsRow base 3 1 u m (fullI i m) := by
  refine ⟨hu.1, ?_⟩
  rcases hu.2 with h0 | ⟨b, c, cur, rfl, hb, hh, hmc, hcm, hcs, ht⟩
  · exact Or.inl h0
  right
  rcases hl with ⟨g, cap, rfl, rfl, hg⟩ | ⟨cap', rfl, hg⟩
  · by_cases hbg : b = g
    · subst hbg
      rcases hv.2 with ⟨h, _⟩ | ⟨g1, c1, cur1, h, _, hh1, _, _, hcs1, _⟩
      · cases h
      cases h
      rcases hv'.2 with ⟨h, _⟩ | ⟨g2, c2, cur2, h, _, hh2, _, _, hcs2, ht2⟩
      · cases h
      cases h
      rw [hh] at hh1
      cases hh1
      refine ⟨b, c, cur2, rfl, hb, hh2, hmc, hcm, by omega, ?_⟩
      have h3 : cur2.toList.take (m * 1) = (cur2.toList.take (k * 1)).take (m * 1) := by rw [List.take_take, Nat.min_eq_left (by omega)]
      rw [h3, ht2, Nat.mul_one, fullI_take i m k hmk]
    · exact ⟨b, c, cur, rfl, hb, (hg.block b (lt_of_block hh) (by simpa using hbg)).trans hh, hmc, hcm, hcs, ht⟩
  · exact ⟨b, c, cur, rfl, hb, (hg.block b (lt_of_block hh) (by simp)).trans hh, hmc, hcm, hcs, ht⟩
theorem own_keepS {w w' : World} {base e s n : Nat} {v : Value} {xs : List Value} (h : w.ownsRow base e s v n xs) (hk : ∀ b, b < w.heap.size → v.ownBlock = some b → w'.heap[b]? = w.heap[b]?) : w'.ownsRow base e s v n xs := by
  obtain ⟨h1, h2⟩ := h
  refine ⟨h1, ?_⟩
  rcases h2 with h2 | ⟨g, cap, cur, hv, hg, hh, r⟩
  · exact Or.inl h2
  · refine Or.inr ⟨g, cap, cur, hv, hg, (hk g (lt_of_block hh) ?_).trans hh, r⟩
    subst hv; rfl
/-- The lists of numbers in memory, each full of its mark; 'C' holds of every block that is theirs. -/
structure Ik (w : World) (base : Nat) (vE : Value) (C : Nat → Prop) (fs : List Bl) : Prop where
  row : w.ownsRow base 40 1 vE fs.length (fs.map Bl.val)
  hC : ∀ k, vE.ownBlock = some k → C k
  lies : ∀ i (h : i < fs.length), w.ownsRow base 3 1 (fs[i]).val (fs[i]).len (fullI (i / 3) (fs[i]).len)
  mine : ∀ e ∈ fs, ∀ b, e.val.ownBlock = some b → C b
theorem Ik.keep {w w' : World} {base : Nat} {vE : Value} {C : Nat → Prop} {fs : List Bl} (h : Ik w base vE C fs) (hk : ∀ k, k < w.heap.size → C k → w'.heap[k]? = w.heap[k]?) : Ik w' base vE C fs :=
  ⟨own_keepS h.row (fun b hb hv => hk b hb (h.hC b hv)), h.hC, fun i hi => own_keepS (h.lies i hi) (fun b hb hv => hk b hb (h.mine _ (List.getElem_mem hi) b hv)), h.mine⟩
theorem Ik.below {w w' : World} {base : Nat} {vE : Value} {C : Nat → Prop} {fs : List Bl} (h : Ik w base vE C fs) (hb : Below w.heap.size w w') : Ik w' base vE C fs := h.keep fun k hk _ => hb.block k hk
theorem Ik.weaken {w : World} {base : Nat} {vE : Value} {C C' : Nat → Prop} {fs : List Bl} (h : Ik w base vE C fs) (hc : ∀ k, k < w.heap.size → C k → C' k) : Ik w base vE C' fs :=
  ⟨h.row, fun k hk => hc k (h.row.lt k hk).2 (h.hC k hk), h.lies, fun e he b hb => by
    obtain ⟨i, hi, rfl⟩ := List.mem_iff_getElem.1 he
    exact hc b ((h.lies i hi).lt b hb).2 (h.mine _ he b hb)⟩
/-- The book of bytes, where the third cell of its box is another. -/
theorem Bk.newE {w w' : World} {vE vE' : Value} {base bk : Nat} {B : Nat → Prop} {es : List Bl} (h : Bk w base bk vE B es) (hk : ∀ k, k < w.heap.size → B k → k ≠ bk → w'.heap[k]? = w.heap[k]?)
    (hbox : ∀ vL vN, w.heap[bk]? = some (.cells #[vL, vN, vE] 90) → w'.heap[bk]? = some (.cells #[vL, vN, vE'] 90)) : Bk w' base bk vE' B es := by
  obtain ⟨⟨vL, vN, hb, hL, hN, hBL, hBN⟩, hbk, hl, hm⟩ := h
  have ne : ∀ {k : Nat} {cs : Array Value} {t : Nat}, w.heap[k]? = some (.cells cs t) → t ≠ 90 → k ≠ bk := by
    rintro k cs t h1 h2 rfl
    rw [hb] at h1
    simp at h1
    exact h2 h1.2.symm
  have own : ∀ {e n : Nat} {v : Value} {xs : List Value}, w.ownsRow base e 1 v n xs → e ≠ 90 → (∀ k, v.ownBlock = some k → B k) → w'.ownsRow base e 1 v n xs := by
    intro e n v xs ho he hB
    obtain ⟨h1, h2⟩ := ho
    refine ⟨h1, ?_⟩
    rcases h2 with h2 | ⟨g, cap, cur, hv, hg, hh, r⟩
    · exact Or.inl h2
    · refine Or.inr ⟨g, cap, cur, hv, hg, (hk g (lt_of_block hh) (hB g ?_) (ne hh he)).trans hh, r⟩
      subst hv; rfl
  refine ⟨⟨vL, vN, hbox vL vN hb, own hL (by decide) hBL, own hN (by decide) hBN, hBL, hBN⟩, hbk, fun i hi => ?_, fun e he ad had => ?_⟩
  · have hli := hl i hi
    refine ⟨hli.hlen, hli.hle, hli.hnone, fun ad had t u hu => ?_⟩
    obtain ⟨hB, _, cs, hcs⟩ := hm _ (List.getElem_mem hi) ad had
    have hc := hli.hcells ad had t u hu
    rw [← hc]
    exact World.cell?_of_block (w := w) (by rw [add_block]; exact hk _ (lt_of_block hcs) hB (ne hcs (by decide)))
  · obtain ⟨hB, hbs, cs, hcs⟩ := hm e he ad had
    exact ⟨hB, hbs, cs, (hk _ (lt_of_block hcs) hB (ne hcs (by decide))).trans hcs⟩
/-- The lists of numbers with three more. -/
theorem Ik.more {w wd : World} {base i : Nat} {C C' : Nat → Prop} {fs : List Bl} {vE vE' : Value} {e0 e1 e2 : Bl} (hE : Ik w base vE C fs) (hfs : fs.length = 3 * i) (hcc : ∀ k, C k → C' k) (ht : Ty 3 w wd)
    (hR : wd.ownsRow base 40 1 vE' (3 * i + 3) (fs.map Bl.val ++ [e0.val, e1.val, e2.val])) (hCE : ∀ k, vE'.ownBlock = some k → C' k)
    (h0 : wd.ownsRow base 3 1 e0.val e0.len (fullI i e0.len)) (h1 : wd.ownsRow base 3 1 e1.val e1.len (fullI i e1.len)) (h2 : wd.ownsRow base 3 1 e2.val e2.len (fullI i e2.len))
    (b0 : ∀ b, e0.val.ownBlock = some b → C' b) (b1 : ∀ b, e1.val.ownBlock = some b → C' b) (b2 : ∀ b, e2.val.ownBlock = some b → C' b) : Ik wd base vE' C' (fs ++ [e0, e1, e2]) := by
  have hlen : (fs ++ [e0, e1, e2]).length = 3 * i + 3 := by simp [hfs]
  refine ⟨?_, hCE, fun j hj => ?_, fun e he b hb => ?_⟩
  · rw [hlen, List.map_append]; exact hR
  · by_cases hjl : j < fs.length
    · rw [List.getElem_append_left hjl]
      exact own_ty (hE.lies j hjl) ht
    · rw [List.getElem_append_right (by omega)]
      have hd : j / 3 = i := by omega
      rw [hd]
      rcases (show j - fs.length = 0 ∨ j - fs.length = 1 ∨ j - fs.length = 2 by omega) with h | h | h <;> simp only [h]
      · exact h0
      · exact h1
      · exact h2
  · rcases List.mem_append.1 he with h | h
    · exact hcc _ (hE.mine e h b hb)
    · simp at h
      rcases h with rfl | rfl | rfl
      · exact b0 _ hb
      · exact b1 _ hb
      · exact b2 _ hb
theorem Tryz.infoIs : (Tryz.prog.info? 40).map (fun i => (i.zero, i.size, i.bytes)) = some (some (.slice none 0 0), 1, 24) := by kernel_rfl

set_option maxHeartbeats 2000000 in
theorem ints_any (base bk i n cl : Nat) (vE : Value) (B C : Nat → Prop) (es fs : List Bl) (al : Option Addr) (xs : List Value) (w : World) (hbase : base ≤ w.heap.size) (hB : Bk w base bk vE B es) (hE : Ik w base vE C fs) (hBC : ∀ k, C k → ¬ B k) (hfs : fs.length = 3 * i) (hi : i ≤ 100000000) (hn : n ≤ 2000000)
    (hown : w.ownsRow base 3 1 (.slice al n cl) n xs) (hnB : ∀ b, (Value.slice al n cl).ownBlock = some b → ¬ B b ∧ ¬ C b) :
    Calls Tryz.prog 74 #[.pointer (some ⟨bk, 0, none⟩), .slice al n cl] w fun e w' => e = .returned (.tuple #[]) ∧ ∃ vE' e1 e2, Bk w' base bk vE' B es ∧ Ik w' base vE' (fun k => C k ∨ (Value.slice al n cl).ownBlock = some k ∨ (w.heap.size ≤ k ∧ k < w'.heap.size)) (fs ++ [⟨al, n, cl⟩, e1, e2]) ∧ e1.len = n + 1 ∧ e2.len = n + 41 ∧ FrO (fun k => C k ∨ k = bk) [(Value.slice al n cl).ownBlock] w w' := by
  obtain ⟨i5, hi5, hz0, hz1, hz2⟩ := info_parts Tryz.info3
  have hii : (i : Int) ≤ 100000000 := by omega
  have hni : (n : Int) ≤ 2000000 := by omega
  obtain ⟨⟨vL, vN, hbox, _, _, _, _⟩, hbk, _, _⟩ := id hB
  have hr := hE.row
  rw [hfs] at hr
  obtain ⟨aE, cE, rfl⟩ := own_val hr
  have b2 : w.cell? ⟨bk, 2, none⟩ = some (.slice aE (3 * i) cE) := by rw [cell_of_row w bk 2 _ _ (0, 0) hbox]; rfl
  have hdiv : ((3 * i : Nat) : Int) / 3 = i := by omega
  have hi0 : (0 : Int) ≤ i := by omega
  go_enter Tryz.func74, Tryz.ntmps74
  go_wp2_with fail
  go_loopw [5] (fun j wr => ∃ k : Nat, k ≤ n ∧ j = .int .i64 k ∧ wr.ownsRow base 3 1 (.slice al n cl) n (fullI i k ++ xs.drop k) ∧ w.grownBy wr (Value.slice al n cl).ownBlock) (fun j _ => n - (intOf j).toNat)
  case atStart => exact ⟨0, Nat.zero_le _, rfl, by simpa [fullI] using hown, World.grownBy.refl _ _⟩
  case round =>
    obtain ⟨k, hk, rfl, ho, hg⟩ := hrel
    by_cases hlt : k < n
    · obtain ⟨g, rfl⟩ : ∃ g, al = some ⟨g, 0, none⟩ := by
        rcases ho.2 with ⟨_, h0⟩ | ⟨g, c, cur, hv, _⟩
        · omega
        · cases hv; exact ⟨g, rfl⟩
      have hcell : ∃ z, wr.cell? ⟨g, k, none⟩ = some z := by
        rw [ho.cellAt k (by omega)]
        exact ⟨_, List.getElem?_eq_getElem (by rw [ho.1]; omega)⟩
      obtain ⟨z, hcell⟩ := hcell
      have hfz := ho.frozenAt k
      have hst := ho.stored k (.int .i64 (-1 - (i : Int)))
      rw [set_int i k xs (by have := hown.1; omega)] at hst
      have HST : Hid _ := hst
      clear hst
      have hki : (k : Int) < n := by omega
      go_wp2_with fail
      go_roundw
      case rel => exact ⟨k + 1, by omega, by go_num, HST.out.1, grown_trans hg HST.out.2⟩
      case measure => simp [intOf]; omega
    · obtain rfl : k = n := by omega
      have ho1 : wr.ownsRow base 3 1 (.slice al k cl) k (fullI i k) := by
        have := ho
        rw [List.drop_of_length_le (by have := hown.1; omega), List.append_nil] at this
        exact this
      have hlt9 := fun b hb => (hown.lt b hb).2
      clear ho hown
      have hsz := hg.size
      have hob : ∀ b, (Value.slice al k cl).ownBlock = some b → (Value.slice al k cl).ownBlock = some b ∨ w.heap.size ≤ b := fun b hb => .inl hb
      have ES : Hid (∀ q, fullI i (q + 1) = fullI i q ++ [.int .i64 (-1 - (i : Int))]) := fun q => fullI_snoc i q
      have hki : ¬ (k : Int) < k := by omega
      go_wp2_with (first
        | (at_builtin; refine wpList_append_own_split _ rfl _ _ 40 rfl base 3 i5 (.int .i64 0) 1 8 Tryz.underlying40 hi5 hz0 hz1 hz2 rfl (by decide) _ _ _ rfl (ho1.alloc _) ⟨wr.heap.size, 0, none⟩ 1 1 [.int .i64 (-1 - (i : Int))] (by decide) rfl rfl (cell_one_new _ _ _) (by intro u hu; simp at hu; subst hu; rfl) (by unfold maxLen; omega) (by omega) (by simp; omega) ?_; intro v1 u1 hv1 hl1; rw [← ES.out] at hv1; have hg1 := laid_grown (grown_trans hg (World.grownBy_alloc wr (.cells #[.int .i64 (-1 - (i : Int))] 3) _)) hob hl1; have hq1 := own_besideI (ho1.alloc _) hl1 hv1 (ho1.alloc _) (by omega); have hsz1 := hg1.1.size)
        | (at_builtin; refine wpList_append_own_split _ rfl _ _ 40 rfl base 3 i5 (.int .i64 0) 1 8 Tryz.underlying40 hi5 hz0 hz1 hz2 rfl (by decide) _ _ _ rfl (hq1.alloc _) ⟨u1.heap.size, 0, none⟩ 1 1 [.int .i64 (-1 - (i : Int))] (by decide) rfl rfl (cell_one_new _ _ _) (by intro u hu; simp at hu; subst hu; rfl) (by unfold maxLen; omega) (by omega) (by simp; omega) ?_; intro v2 u2 hv2 hl2; rw [← ES.out] at hv2; have hg2 := laid_grown (grown_trans hg1.1 (World.grownBy_alloc u1 (.cells #[.int .i64 (-1 - (i : Int))] 3) _)) hob hl2; have hl2o := own_besideI (hq1.alloc _) hl2 hv2 (hq1.alloc _) (by omega); have h12o := own_besideI (hq1.alloc _) hl2 hv2 (hv1.alloc _) (by omega)))
      clear ho1 hq1 hl1 hl2 hv1
      go_loopw [7, 8] (fun v j wr => ∃ m : Nat, m ≤ 40 ∧ j = .int .i64 m ∧ wr.ownsRow base 3 1 v (k + 1 + m) (fullI i (k + 1 + m)) ∧ wr.ownsRow base 3 1 (.slice al k cl) k (fullI i k) ∧ wr.ownsRow base 3 1 v1 (k + 1) (fullI i (k + 1)) ∧
          w.grownBy wr (Value.slice al k cl).ownBlock ∧ (∀ b, v.ownBlock = some b → (Value.slice al k cl).ownBlock = some b ∨ w.heap.size ≤ b)) (fun _ j _ => 40 - (intOf j).toNat)
      case atStart => exact ⟨0, by omega, rfl, hv2, hl2o, h12o, hg2.1, hg2.2⟩
      case round =>
        clear hv2 hl2o h12o hg2 hg hsz
        obtain ⟨m, hm40, rfl, hv, hlo, h1o, hg, hvb⟩ := hrel
        have hsz := hg.size
        by_cases hlt : m < 40
        · have hmi : (m : Int) < 40 := by omega
          generalize hz : k + 1 + m = z at *
          go_wp2_with (at_builtin; refine wpList_append_own_split _ rfl _ _ 40 rfl base 3 i5 (.int .i64 0) 1 8 Tryz.underlying40 hi5 hz0 hz1 hz2 rfl (by decide) _ _ _ rfl (hv.alloc _) ⟨wr.heap.size, 0, none⟩ 1 1 [.int .i64 (-1 - (i : Int))] (by decide) rfl rfl (cell_one_new _ _ _) (by intro u hu; simp at hu; subst hu; rfl) (by unfold maxLen; omega) (by omega) (by simp; omega) ?_; intro v3 u3 hv3 hl3)
          rw [← ES.out] at hv3
          have hg3 := laid_grown (grown_trans hg (World.grownBy_alloc wr (.cells #[.int .i64 (-1 - (i : Int))] 3) _)) hvb hl3
          have hlo3 := own_besideI (hv.alloc _) hl3 hv3 (hlo.alloc _) (by omega)
          have h1o3 := own_besideI (hv.alloc _) hl3 hv3 (h1o.alloc _) (by omega)
          subst hz
          go_roundw
          case rel => exact ⟨m + 1, by omega, by go_num, hv3, hlo3, h1o3, hg3.1, hg3.2⟩
          case measure => simp [intOf]; omega
        · obtain rfl : m = 40 := by omega
          obtain ⟨i24, hi24, hy0, hy1, hy2⟩ := info_parts Tryz.infoIs
          obtain ⟨a1, c1, rfl⟩ := own_val h1o
          obtain ⟨a2, c2, rfl⟩ := own_val hv
          have hold : ∀ b, b < w.heap.size → (Value.slice al k cl).ownBlock ≠ some b → wr.heap[b]? = w.heap[b]? := fun b hb hn => hg.block b (by omega) (fun h => hn h.symm)
          have hboxr : wr.heap[bk]? = some (.cells #[vL, vN, .slice aE (3 * i) cE] 90) := (hold bk (lt_of_block hbox) (fun h => (hnB bk h).1 hbk.2)).trans hbox
          have hCr : ∀ b, b < w.heap.size → C b → wr.heap[b]? = w.heap[b]? := fun b hb hc => hold b hb (fun h => (hnB b h).2 hc)
          have hEr := hE.keep hCr
          have hrr := hEr.row
          rw [hfs] at hrr
          have hnC : ¬ C bk := fun h => hBC bk h hbk.2
          have b2r : wr.cell? ⟨bk, 2, none⟩ = some (.slice aE (3 * i) cE) := (cell_of_row wr bk 2 _ _ (0, 0) hboxr).trans rfl
          have hrra := hrr.alloc (.cells #[.slice al k cl, .slice a1 (k + 1) c1, .slice a2 (k + 1 + 40) c2] 40)
          have hTA := Ty.alloc 3 wr (.cells #[.slice al k cl, .slice a1 (k + 1) c1, .slice a2 (k + 1 + 40) c2] 40)
          have hFA := Fr.alloc C wr (.cells #[.slice al k cl, .slice a1 (k + 1) c1, .slice a2 (k + 1 + 40) c2] 40)
          have HE : Hid (Ik w base (.slice aE (3 * i) cE) C fs) := hE
          have HB : Hid (Bk w base bk (.slice aE (3 * i) cE) B es) := hB
          have HR : Hid (Ik wr base (.slice aE (3 * i) cE) C fs) := hEr
          clear hE hB hEr b2
          go_wp2_with (at_builtin; refine wpList_append_own_split _ rfl _ _ 88 rfl base 40 i24 (.slice none 0 0) 1 24 Tryz.underlying88 hi24 hy0 hy1 hy2 rfl (by decide) _ _ _ rfl hrra ⟨wr.heap.size, 0, none⟩ 3 3 [.slice al k cl, .slice a1 (k + 1) c1, .slice a2 (k + 1 + 40) c2] (by decide) rfl rfl (cells_new _ _ _ _ rfl) (by intro u hu; simp at hu; rcases hu with rfl | rfl | rfl <;> rfl) (by unfold maxLen; omega) (by omega) (by simp; omega) ?_; intro vA uA hoA hlA; have hF1 := hFA.trans (Fr.laid hlA HE.out.hC); have hboxA := (hF1.block bk (lt_of_block hboxr) hnC).trans hboxr; obtain ⟨aA, cA, rfl⟩ := own_val hoA; have f2 : uA.cell? ⟨bk, 2, none⟩ = some (.slice aE (3 * i) cE) := (cell_of_row uA bk 2 _ _ (0, 0) hboxA).trans rfl; have z2 := frozen_of_row uA bk 2 _ _ hboxA)
          first | go_end0 | refine bodyPost_ret (results_none rfl _ _ _) rfl ?_
          have hboxD : (uA.setCell ⟨bk, 2, none⟩ (.slice aA (3 * i + 3) cA)).heap[bk]? = some (.cells #[vL, vN, .slice aA (3 * i + 3) cA] 90) := heap_setCell_same uA bk 2 _ _ _ hboxA
          have hT : Ty 3 wr (uA.setCell ⟨bk, 2, none⟩ (.slice aA (3 * i + 3) cA)) := hTA.trans ((Ty.laid hlA hrra (by decide)).trans (Ty.set (j := 2) hboxA (by decide) _))
          have hbw := lt_of_block hbox
          have hF : FrO (fun b => C b ∨ b = bk) [(Value.slice al k cl).ownBlock] w (uA.setCell ⟨bk, 2, none⟩ (.slice aA (3 * i + 3) cA)) := by
            refine ⟨hF1.os.trans hg.os, hF1.tape.trans hg.tape, hF1.output.trans hg.output, by have := hF1.size; simp; omega, fun b hb hc ho => ?_⟩
            rw [heap_setCell_other _ _ _ _ (fun h => hc (.inr h)), hF1.block b (by omega) (fun h => hc (.inl h))]
            exact hold b hb (fun h => ho (by simp [h]))
          refine ⟨rfl, .slice aA (3 * i + 3) cA, ⟨a1, k + 1, c1⟩, ⟨a2, k + 1 + 40, c2⟩, ?_, ?_, rfl, rfl, hF⟩
          · refine HB.out.newE (fun b hb hBb hne => hF.block b hb (fun h => ?_) (fun h => ?_)) (fun x y hx => ?_)
            · rcases h with h | h
              · exact hBC b h hBb
              · exact hne h
            · simp at h
              exact (hnB b h.symm).1 hBb
            · rw [hbox] at hx
              simp at hx
              obtain ⟨rfl, rfl⟩ := hx
              exact hboxD
          · refine (HR.out.more (e0 := ⟨al, k, cl⟩) (e1 := ⟨a1, k + 1, c1⟩) (e2 := ⟨a2, k + 1 + 40, c2⟩) (C' := fun k_1 => C k_1 ∨ (Value.slice al k cl).ownBlock = some k_1 ∨ w.heap.size ≤ k_1) hfs (fun b hb => .inl hb) hT (own_ty hoA (Ty.set (j := 2) hboxA (by decide) _)) (fun b hb => ?_) (own_ty hlo hT) (own_ty h1o hT) (own_ty hv hT) (fun b hb => .inr (.inl hb)) (fun b hb => .inr (hg1.2 b hb)) (fun b hb => .inr (hvb b hb))).weaken (fun b hb h => ?_)
            · rcases laid_at hlA b hb with h | h
              · exact .inl (HE.out.hC b h)
              · exact .inr (.inr (by simp at h; omega))
            · rcases h with h | h | h
              · exact .inl h
              · exact .inr (.inl h)
              · exact .inr (.inr ⟨h, hb⟩)
end Go.Proofs.YtnmdnglbpkpfdaaGreatDoor

/- Book.stand by its contract. -/
namespace Go.Proofs.YtnmdnglbpkpfdaaGreatDoor
open Go.RowKit
set_option maxRecDepth 100000
theorem fullI_at (i n j : Nat) (h : j < n) : (fullI i n)[j]? = some (.int .i64 (-1 - (i : Int))) := by
  unfold fullI
  rw [List.getElem?_replicate, if_pos h]
set_option maxHeartbeats 1000000 in
theorem stand_any (base bk : Nat) (vE : Value) (B C : Nat → Prop) (es fs : List Bl) (w : World) (hB : Bk w base bk vE B es) (hE : Ik w base vE C fs) (hfs : fs.length ≤ 300000000) (hen : ∀ e ∈ fs, e.len ≤ 2000100) :
    Calls Tryz.prog 45 #[.pointer (some ⟨bk, 0, none⟩)] w fun e w' => e = .returned (.bool true) ∧ Below w.heap.size w w' := by
  obtain ⟨⟨vL, vN, hbox, _, _, _, _⟩, _, _, _⟩ := hB
  have hL := hE.row
  obtain ⟨aL, cL, rfl⟩ := own_val hL
  have hesi : (fs.length : Int) ≤ 300000000 := by omega
  have b2 : w.cell? ⟨bk, 2, none⟩ = some (.slice aL fs.length cL) := (cell_of_row w bk 2 _ _ (0, 0) hbox).trans rfl
  have hlies := hE.lies
  clear hE
  go_enter Tryz.func45, Tryz.ntmps45
  go_wp2_with fail
  go_loopw [3] (fun i wr => ∃ k : Nat, k ≤ fs.length ∧ i = .int .i64 k ∧ Below w.heap.size w wr) (fun i _ => fs.length - (intOf i).toNat)
  case atStart => exact ⟨0, Nat.zero_le _, rfl, Below.refl _ _⟩
  case round =>
    obtain ⟨k, hk, rfl, hb⟩ := hrel
    have c2 := bk_later hb b2
    by_cases hlt : k < fs.length
    · have hki : (k : Int) < fs.length := by omega
      obtain ⟨gL, rfl⟩ : ∃ g, aL = some ⟨g, 0, none⟩ := by
        rcases hL.2 with ⟨_, h0⟩ | ⟨g, c, cur, hv, _⟩
        · omega
        · cases hv; exact ⟨g, rfl⟩
      obtain ⟨x, hx⟩ : ∃ x, x = fs[k] := ⟨_, rfl⟩
      have l0w : w.cell? ⟨gL, k, none⟩ = some (.slice x.ao x.len x.cap) := by rw [hL.cellAt k (by omega), List.getElem?_map, List.getElem?_eq_getElem hlt, ← hx]; rfl
      have hx0 := hlies k hlt
      rw [← hx] at hx0
      have hxl := hen x (by rw [hx]; exact List.getElem_mem _)
      have hxli : (x.len : Int) ≤ 2000100 := by omega
      clear hx
      obtain ⟨xa, xn, xc⟩ := x
      simp only [Bl.val] at hx0 l0w hxl hxli
      go_wp2_with fail
      go_loopw [4] (fun j wr => ∃ q : Nat, q ≤ xn ∧ j = .int .i64 q ∧ Below w.heap.size w wr) (fun j _ => xn - (intOf j).toNat)
      case atStart => exact ⟨0, Nat.zero_le _, rfl, hb⟩
      case round =>
        clear c2 hb
        obtain ⟨q, hq, rfl, hb⟩ := hrel
        have c2 := bk_later hb b2
        have l0 := bk_later hb l0w
        by_cases hqt : q < xn
        · have hqi : (q : Int) < xn := by omega
          obtain ⟨g, rfl⟩ : ∃ g, xa = some ⟨g, 0, none⟩ := by
            rcases hx0.2 with ⟨_, h0⟩ | ⟨g, c, cur, hv, _⟩
            · omega
            · cases hv; exact ⟨g, rfl⟩
          have y0 := bk_later hb ((hx0.cellAt q (by omega)).trans (fullI_at (k / 3) xn q hqt))
          have hkc : ((k / 3 : Nat) : Int) = (k : Int) / 3 := by omega
          have hk3 : (0 : Int) ≤ (k : Int) / 3 := by omega
          have hk4 : (k : Int) / 3 ≤ 300000000 := by omega
          simp only [hkc] at y0
          go_wp2_with fail
          go_roundw
          case rel => exact ⟨q + 1, by omega, by go_num, hb⟩
          case measure => simp [intOf]; omega
        · have hqi : ¬ (q : Int) < xn := by omega
          go_wp2
          go_roundw
          case rel => exact ⟨k + 1, by omega, by go_num, hb⟩
          case measure => simp [intOf]; omega
    · have hki : ¬ (k : Int) < fs.length := by omega
      go_wp2
      go_ret
      exact ⟨rfl, hb⟩
end Go.Proofs.YtnmdnglbpkpfdaaGreatDoor

/- annexref.Ints, copied, annexref.SameInts, place by their contracts. -/
namespace Go.Proofs.YtnmdnglbpkpfdaaGreatDoor
open Go.RowKit Go.Maps
set_option maxRecDepth 100000
theorem row_nat {w : World} {base e n : Nat} {v : Value} {xs : List Value} (h : w.ownsRow base e 1 v n xs) : (v = .slice none 0 0 ∧ n = 0) ∨ ∃ g cap, v = .slice (some ⟨g, 0, none⟩) n cap ∧ ∀ t, t < n → w.cell? ⟨g, 0 + t, none⟩ = xs[t]? := by
  rcases h.2 with ⟨hv, hn⟩ | ⟨g, cap, cur, hv, _⟩
  · exact Or.inl ⟨hv, hn⟩
  · refine Or.inr ⟨g, cap, hv, fun t ht => ?_⟩
    subst hv
    rw [Nat.zero_add, h.cellAt t (by omega)]
set_option maxHeartbeats 400000 in
theorem sameInts_pos (b1 o1 c1 b2 o2 c2 n : Nat) (l : List Nat) (w : World) (hn : n ≤ 1000) (hl : l.length = n)
    (ha : ∀ t, t < n → w.cell? ⟨b1, o1 + t, none⟩ = some (.int .i64 ((l.getD t 0) : Nat))) (hb : ∀ t, t < n → w.cell? ⟨b2, o2 + t, none⟩ = some (.int .i64 ((l.getD t 0) : Nat))) :
    Calls Tryz.prog 35 #[.slice (some ⟨b1, o1, none⟩) n c1, .slice (some ⟨b2, o2, none⟩) n c2] w fun e w' => e = .returned (.bool true) ∧ ∃ m, w' = w.drewN m := by
  have hni : (n : Int) ≤ 1000 := by omega
  go_enter Tryz.func35, Tryz.ntmps35
  go_wp2
  go_loopw [5] (fun i wr => ∃ k m : Nat, k ≤ n ∧ i = .int .i64 k ∧ wr = w.drewN m) (fun i _ => n - (intOf i).toNat)
  case atStart => exact ⟨0, 0, Nat.zero_le _, rfl, rfl⟩
  case round =>
    obtain ⟨k, m, hk, rfl, rfl⟩ := hrel
    by_cases hlt : k < n
    · have ga := ha k hlt
      have gb := hb k hlt
      clear ha hb
      generalize ((l.getD k 0 : Nat) : Int) = C at *
      go_wp2
      go_quiet (fail)
      go_wp2
      go_roundw
      case rel => exact ⟨k + 1, m + nq, by omega, by go_num, by first | rfl | simp⟩
      case measure => simp [intOf]; omega
    · clear ha hb
      go_wp2
      go_ret
      exact ⟨rfl, m, rfl⟩
set_option maxHeartbeats 400000 in
theorem sameInts_zero (ao bo : Option Addr) (c1 c2 : Nat) (w : World) :
    Calls Tryz.prog 35 #[.slice ao 0 c1, .slice bo 0 c2] w fun e w' => e = .returned (.bool true) ∧ ∃ m, w' = w.drewN m := by
  go_enter Tryz.func35, Tryz.ntmps35
  go_wp2
  refine wp_loop_rounds 1 ?_
  rw [rounds_succ]
  go_wp2
  go_ret
  exact ⟨rfl, 0, rfl⟩
/-- SameInts of twice the same numbers. -/
theorem sameInts7 {w : World} {G H : Nat → Prop} {v u : Value} {l : List Nat} (h : Ns w G v l) (k : Ns w H u l) (hn : l.length ≤ 1000) :
    Calls Tryz.prog 35 #[v, u] w fun e w' => e = .returned (.bool true) ∧ Below w.heap.size w w' := by
  have fin : ∀ (e : Ending) (w' : World), (e = .returned (.bool true) ∧ ∃ m, w' = w.drewN m) → (e = .returned (.bool true) ∧ Below w.heap.size w w') := by
    rintro e w' ⟨rfl, m, rfl⟩
    exact ⟨rfl, ⟨rfl, rfl, rfl, Nat.le_refl _, fun _ _ => rfl⟩⟩
  rcases row_nat h.row with ⟨rfl, h0⟩ | ⟨g, cap, rfl, hc⟩
  · rcases row_nat k.row with ⟨rfl, _⟩ | ⟨g', cap', rfl, hc'⟩
    · exact (sameInts_zero _ _ _ _ w).mono fin
    · rw [h0]; exact (sameInts_zero _ _ _ _ w).mono fin
  · rcases row_nat k.row with ⟨rfl, h0⟩ | ⟨g', cap', rfl, hc'⟩
    · rw [h0]; exact (sameInts_zero _ _ _ _ w).mono fin
    · exact (sameInts_pos g 0 cap g' 0 cap' l.length l w hn rfl (fun t ht => by rw [hc t ht]; simp [List.getD, ht]) (fun t ht => by rw [hc' t ht]; simp [List.getD, ht])).mono fin
end Go.Proofs.YtnmdnglbpkpfdaaGreatDoor

/- Book.reads by its contract. -/
namespace Go.Proofs.YtnmdnglbpkpfdaaGreatDoor
open Go.RowKit Go.Maps
set_option maxRecDepth 100000
/-- A book, whole: its blocks B, C. -/
structure Qk (w : World) (b0 bk : Nat) (B C : Nat → Prop) (i j : Nat) : Prop where
  ex : ∃ (vE : Value) (es fs : List Bl), Bk w b0 bk vE B es ∧ Ik w b0 vE C fs ∧ es.length = 3 * i ∧ fs.length = 3 * j ∧ (∀ e ∈ es, e.len ≤ 1000) ∧ (∀ e ∈ fs, e.len ≤ 1000)
  dis : ∀ k, C k → ¬ B k
  bB : ∀ k, B k → b0 ≤ k ∧ k < w.heap.size
  bC : ∀ k, C k → b0 ≤ k ∧ k < w.heap.size
theorem Qk.turns {w w' : World} {b0 bk : Nat} {B C Y : Nat → Prop} {i j : Nat} (h : Qk w b0 bk B C i j) (t : Turns Y w w') (hB : ∀ k, B k → ¬ Y k) (hC : ∀ k, C k → ¬ Y k) : Qk w' b0 bk B C i j := by
  obtain ⟨vE, es, fs, hb, hi, h1, h2, h3, h4⟩ := h.ex
  have := t.size
  exact ⟨⟨vE, es, fs, hb.keep (fun k hk hB' => t.block k hk (hB k hB')), hi.keep (fun k hk hC' => t.block k hk (hC k hC')), h1, h2, h3, h4⟩, h.dis, fun k hk => by have := h.bB k hk; omega, fun k hk => by have := h.bC k hk; omega⟩
theorem own_bl {w : World} {g b0 n : Nat} {bs : List Int} (h : w.heap[g]? = some (bl bs)) (hb : b0 ≤ g) (hn : bs.length = n) (h9 : n ≤ 1000000) : w.ownsRow b0 5 1 (.slice (some ⟨g, 0, none⟩) n n) n (bs.map (Value.int .u8)) := by
  refine ⟨by simp [hn], Or.inr ⟨g, n, (bs.map (Value.int .u8)).toArray, rfl, hb, h, ?_⟩⟩
  refine ⟨by omega, by unfold maxLen; omega, by simp [hn], ?_⟩
  exact List.take_of_length_le (by simp [hn])
theorem Qk.bk {w : World} {b0 bk : Nat} {B C : Nat → Prop} {i j : Nat} (h : Qk w b0 bk B C i j) : B bk := by
  obtain ⟨_, _, _, hb, _⟩ := h.ex
  exact hb.hbk.2
theorem own_ns {w : World} {base : Nat} {v : Value} {m : List (Nat × Nat)} (h : w.ownsRow base 3 1 v m.length (m.map fun p => .int .i64 (p.1 : Nat))) : Ns w (fun _ => False) v (m.map (·.1)) := ⟨by
  rw [List.length_map, List.map_map]
  exact own_zero h, fun _ _ => id⟩
theorem own_base {w : World} {base b0 e s n : Nat} {v : Value} {xs : List Value} (h : w.ownsRow base e s v n xs) (hb : b0 ≤ base) : w.ownsRow b0 e s v n xs := by
  refine ⟨h.1, ?_⟩
  rcases h.2 with h2 | ⟨g, cap, cur, hv, hg, r⟩
  · exact Or.inl h2
  · exact Or.inr ⟨g, cap, cur, hv, Nat.le_trans hb hg, r⟩
theorem FrO.turns {B : Nat → Prop} {obs : List (Option Nat)} {w w' : World} (h : FrO B obs w w') : Turns (fun k => B k ∨ some k ∈ obs) w w' := ⟨h.os, h.tape, h.output, h.size, fun k hk hn => h.block k hk (fun q => hn (Or.inl q)) (fun q => hn (Or.inr q))⟩
/-- What reads leaves. -/
structure RdQ (w w' : World) (d : Nat) (S : DevS) (k N : Nat) (G : Nat → Prop) (jb st sz : Nat) (seq : Int) (place : Nat) (free : Int) (bm nd : Nat) (a : List (Nat × Nat)) (fa : Nat → List Int) (tb wm ns : Nat) (m : List (Nat × Nat)) (f : Nat → List Int) (sv : Value) (last : Int) (b0 bk : Nat) (B C : Nat → Prop) (i j : Nat) : Prop where
  X : Tx w' d S k N G jb st sz seq place free bm nd a fa tb wm ns m f sv last
  Q : ∃ B' C', Qk w' b0 bk B' C' (i + 3) (j + 2) ∧ (∀ k, B' k → B k ∨ w.heap.size ≤ k) ∧ (∀ k, C' k → C k ∨ w.heap.size ≤ k)
  tr : Turns (fun k => G k ∨ B k ∨ C k) w w'
/-- The transaction's blocks are not the book's. -/
structure Apart (G : Nat → Prop) (jb bm : Nat) (a : List (Nat × Nat)) (tb wm : Nat) (m : List (Nat × Nat)) (Y : Nat → Prop) : Prop where
  gg : ∀ i, G i → ¬ Y i
  gj : ¬ Y jb
  gb : ¬ Y bm
  gt : ¬ Y tb
  gm : ¬ Y wm
  gv : ∀ p ∈ m, ¬ Y p.2
  gva : ∀ p ∈ a, ¬ Y p.2
theorem Tx.apart {w w' : World} {d : Nat} {S : DevS} {k N : Nat} {G : Nat → Prop} {jb st sz : Nat} {seq : Int} {place : Nat} {free : Int} {bm nd : Nat} {a : List (Nat × Nat)} {fa : Nat → List Int} {tb wm ns : Nat} {m : List (Nat × Nat)} {f : Nat → List Int} {sv : Value} {last : Int} {Y : Nat → Prop} (h : Tx w d S k N G jb st sz seq place free bm nd a fa tb wm ns m f sv last) (t : Turns Y w w') (p : Apart G jb bm a tb wm m Y) : Tx w' d S k N G jb st sz seq place free bm nd a fa tb wm ns m f sv last :=
  h.move t p.gg p.gj p.gb p.gm p.gv p.gva ((t.block tb (heap_lt h.T) p.gt).trans h.T)
theorem Tx.lt {w : World} {d : Nat} {S : DevS} {k N : Nat} {G : Nat → Prop} {jb st sz : Nat} {seq : Int} {place : Nat} {free : Int} {bm nd : Nat} {a : List (Nat × Nat)} {fa : Nat → List Int} {tb wm ns : Nat} {m : List (Nat × Nat)} {f : Nat → List Int} {sv : Value} {last : Int} (h : Tx w d S k N G jb st sz seq place free bm nd a fa tb wm ns m f sv last) (n : Nat) (hn : w.heap.size ≤ n) : Apart G jb bm a tb wm m (fun k => n ≤ k) :=
  ⟨fun i hi q => by have := h.D.lt i hi; omega, fun q => by have := heap_lt h.J; omega, fun q => by have := h.A.lt; omega, fun q => by have := heap_lt h.T; omega, fun q => by have := h.M.lt; omega, fun p hp q => by have := heap_lt (h.V p hp).1; omega, fun p hp q => by have := heap_lt (h.VA p hp).1; omega⟩
theorem Apart.or {G : Nat → Prop} {jb bm : Nat} {a : List (Nat × Nat)} {tb wm : Nat} {m : List (Nat × Nat)} {Y Z : Nat → Prop} (p : Apart G jb bm a tb wm m Y) (q : Apart G jb bm a tb wm m Z) : Apart G jb bm a tb wm m (fun k => Y k ∨ Z k) :=
  ⟨fun i hi r => r.elim (p.gg i hi) (q.gg i hi), fun r => r.elim p.gj q.gj, fun r => r.elim p.gb q.gb, fun r => r.elim p.gt q.gt, fun r => r.elim p.gm q.gm, fun x hx r => r.elim (p.gv x hx) (q.gv x hx), fun x hx r => r.elim (p.gva x hx) (q.gva x hx)⟩
theorem Apart.sub {G : Nat → Prop} {jb bm : Nat} {a : List (Nat × Nat)} {tb wm : Nat} {m : List (Nat × Nat)} {Y Z : Nat → Prop} (p : Apart G jb bm a tb wm m Y) (h : ∀ k, Z k → Y k) : Apart G jb bm a tb wm m Z :=
  ⟨fun i hi r => p.gg i hi (h _ r), fun r => p.gj (h _ r), fun r => p.gb (h _ r), fun r => p.gt (h _ r), fun r => p.gm (h _ r), fun x hx r => p.gv x hx (h _ r), fun x hx r => p.gva x hx (h _ r)⟩
set_option maxHeartbeats 4000000 in
theorem reads_any {w : World} {d : Nat} {S : DevS} {k N : Nat} {G : Nat → Prop} {jb st sz : Nat} {seq : Int} {place : Nat} {free : Int} {bm nd : Nat} {a : List (Nat × Nat)} {fa : Nat → List Int} {tb wm ns : Nat} {m : List (Nat × Nat)} {f : Nat → List Int} {sv : Value} {last : Int} (X : Tx w d S k N G jb st sz seq place free bm nd a fa tb wm ns m f sv last) (ho : S.off = false) (hst : st + sz ≤ k) (hml : m.length ≤ 24)
    {b0 bk : Nat} {B C : Nat → Prop} {i j : Nat} (Q : Qk w b0 bk B C i j) (hb0 : b0 ≤ w.heap.size) (AP : Apart G jb bm a tb wm m (fun k => B k ∨ C k)) (hi : i + 3 ≤ 100000000) (hj : j + 2 ≤ 100000000)
    (o : Nat) (hok : o < k) (hout : o < st ∨ st + sz ≤ o) {wa : Option Addr} {wc : Nat} (hwl : Lies w wa 512 wc (seesF S m f a fa o)) (hwn : ∀ ad, wa = some ad → ¬ (G ad.block ∨ B ad.block ∨ C ad.block)) {sv2 : Value} (hbl : Ns w (fun k => G k ∨ B k ∨ C k) sv2 (m.map (·.1))) :
    Calls Tryz.prog 43 #[.pointer (some ⟨bk, 0, none⟩), .pointer (some ⟨tb, 0, none⟩), .int .i64 (o : Nat), .slice wa 512 wc, sv2] w fun e w' => e = .returned (.bool true) ∧ RdQ w w' d S k N G jb st sz seq place free bm nd a fa tb wm ns m f sv last b0 bk B C i j := by
  have hlen : (seesF S m f a fa o).length = 512 := hwl.hlen
  have lw := lies_lt hwl (by omega)
  have hBC : ∀ k, G k → ¬ B k ∧ ¬ C k := fun k hk => ⟨fun r => AP.gg k hk (Or.inl r), fun r => AP.gg k hk (Or.inr r)⟩
  obtain ⟨L, hL⟩ : ∃ L, seesF S m f a fa o = L := ⟨_, rfl⟩
  rw [hL] at hwl hlen
  go_enter Tryz.func43, Tryz.ntmps43
  go_wp2_with fail
  refine (X.read ho hst o hok hout (by rw [hL]; exact hlen)).mono ?_
  rintro e w1 ⟨g1, rfl, l1, h1, X1, t1⟩
  go_wp2_with fail
  refine (X1.read ho hst o hok hout (by rw [hL]; exact hlen)).mono ?_
  rintro e w2 ⟨g2, rfl, l2, h2, X2, t2⟩
  go_wp2_with fail
  refine (X2.read ho hst o hok hout (by rw [hL]; exact hlen)).mono ?_
  rintro e w3 ⟨g3, rfl, l3, h3, X3, t3⟩
  rw [hL] at h1 h2 h3
  go_wp2_with fail
  refine (blocks_ok X3.T X3.M (by omega)).mono ?_
  rintro e w4 ⟨gl, cl, rfl, r4, b4⟩
  have X4 := X3.below b4
  go_wp2_with fail
  refine (blocks_ok X4.T X4.M (by omega)).mono ?_
  rintro e w5 ⟨gm, cm, rfl, r5, b5⟩
  have X5 := X4.below b5
  have s0 := t1.size
  have s1 := t2.size
  have s2 := t3.size
  have s3 := b4.size
  have s4 := b5.size
  have hGl := X.D.lt
  have tG : Turns G w w3 := (t1.trans t2 (fun _ _ r => r)).trans t3 (fun _ _ r => r)
  have tG5 : Turns G w w5 := (tG.trans (Below.turns b4 G) (fun _ _ r => r)).trans (Below.turns b5 G) (fun _ _ r => r)
  have e15 : w5.heap[g1]? = some (bl L) := by
    have a1 := heap_lt h1
    have a2 := (t2.block g1 a1 (fun r => by have := hGl _ r; omega)).trans h1
    have a3 := (t3.block g1 (heap_lt a2) (fun r => by have := hGl _ r; omega)).trans a2
    have a4 := (b4.block g1 (heap_lt a3)).trans a3
    exact (b5.block g1 (heap_lt a4)).trans a4
  have e25 : w5.heap[g2]? = some (bl L) := by
    have a3 := (t3.block g2 (heap_lt h2) (fun r => by have := hGl _ r; omega)).trans h2
    have a4 := (b4.block g2 (heap_lt a3)).trans a3
    exact (b5.block g2 (heap_lt a4)).trans a4
  have e35 : w5.heap[g3]? = some (bl L) := by
    have a4 := (b4.block g3 (heap_lt h3)).trans h3
    exact (b5.block g3 (heap_lt a4)).trans a4
  have n12 : g1 < g2 := by have := heap_lt h1; omega
  have n23 : g2 < g3 := by have := heap_lt h2; omega
  have l35 := heap_lt h3
  have r45 := own_later r4 b5
  have lgl := r4.lt gl rfl
  have lgm := r5.lt gm rfl
  obtain ⟨W, hW⟩ : ∃ W, w5.alloc (.cells #[hv g1, hv g2, hv g3] 56) = W := ⟨_, rfl⟩
  have bW : Below w5.heap.size w5 W := by rw [← hW]; exact (Below.refl _ w5).alloc (Nat.le_refl _) _
  have hq : W.heap[w5.heap.size]? = some (.cells #[hv g1, hv g2, hv g3] 56) := by rw [← hW]; exact (MapKept.heap_alloc w5 _).1
  have sW := bW.size
  have XW := X5.below bW
  have tW : Turns G w W := tG5.trans (Below.turns bW G) (fun _ _ r => r)
  have QW := Q.turns tW (fun k hk r => (hBC k r).1 hk) (fun k hk r => (hBC k r).2 hk)
  have e1W := (bW.block g1 (heap_lt e15)).trans e15
  have e2W := (bW.block g2 (heap_lt e25)).trans e25
  have e3W := (bW.block g3 (heap_lt e35)).trans e35
  have lW : Lies W wa 512 wc L := lies_block hwl (fun ad had => tW.block _ (lw ad had) (fun r => hwn ad had (Or.inl r)))
  obtain ⟨vE, es, fs, hBk, hIk, hes, hfs, hel, hfl⟩ := QW.ex
  have hbB := Q.bB
  have hbC := Q.bC
  have mAll := all_3 vE b0 bk i 512 512 512 512 wc w5.heap.size B es (some ⟨g1, 0, none⟩) (some ⟨g2, 0, none⟩) (some ⟨g3, 0, none⟩) wa L W (by omega) hBk hes hi (by omega) (by omega) (own_bl e1W (by omega) hlen (by omega)) (own_bl e2W (by omega) hlen (by omega)) (own_bl e3W (by omega) hlen (by omega)) lW hq (fun r => by have := hbB _ r; omega)
    (fun b hb r => by have h9 : g1 = b := Option.some.inj hb; have := hbB _ r; omega) (fun b hb => by have h9 : g2 = b := Option.some.inj hb; exact ⟨fun r => by have := hbB _ r; omega, fun e => by have h8 : g1 = b := Option.some.inj e; omega⟩) (fun b hb => by have h9 : g3 = b := Option.some.inj hb; exact ⟨fun r => by have := hbB _ r; omega, fun e => by have h8 : g1 = b := Option.some.inj e; omega, fun e => by have h8 : g2 = b := Option.some.inj e; omega⟩)
    (fun ad had => ⟨fun r => hwn ad had (Or.inr (Or.inl r)), fun e => by have h8 : g1 = ad.block := Option.some.inj e; have := lw ad had; omega, fun e => by have h8 : g2 = ad.block := Option.some.inj e; have := lw ad had; omega, fun e => by have h8 : g3 = ad.block := Option.some.inj e; have := lw ad had; omega⟩)
  go_wp2_with (go_at_call 15; refine (num7 _ _).mono ?_; rintro e' wn ⟨rfl, hwn⟩; subst wn)
  try rw [hW]
  refine mAll.mono ?_
  rintro e u1 ⟨rfl, ⟨es', hes9, hel9, hB1⟩, fr1⟩
  have su1 := fr1.size
  have tu1 := fr1.turns
  have hn1 : ∀ k, k < w5.heap.size → k ≠ g1 → k ≠ g2 → k ≠ g3 → ¬ B k → ¬ (B k ∨ some k ∈ [(Value.slice (some ⟨g1, 0, none⟩) 512 512).ownBlock, (Value.slice (some ⟨g2, 0, none⟩) 512 512).ownBlock, (Value.slice (some ⟨g3, 0, none⟩) 512 512).ownBlock]) := fun k _ k1 k2 k3 kb r => by
    rcases r with r | r
    · exact kb r
    · rcases (by simpa [Value.ownBlock] using r : k = g1 ∨ k = g2 ∨ k = g3) with r | r | r
      · exact k1 r
      · exact k2 r
      · exact k3 r
  have bls1 : ∀ k, k < w.heap.size → k ≠ g1 ∧ k ≠ g2 ∧ k ≠ g3 := fun k hk => ⟨by omega, by omega, by omega⟩
  have tA1 : Turns (fun k => G k ∨ B k ∨ C k) w u1 := (tW.mono (fun _ _ => Or.inl)).trans tu1 (fun k hk r => by
    have h3 := bls1 k hk
    by_cases hb : B k
    · exact Or.inr (Or.inl hb)
    · exact absurd r (hn1 k (by omega) h3.1 h3.2.1 h3.2.2 hb))
  have APZ := AP.or (X.lt w.heap.size (Nat.le_refl _))
  have APZ : Apart G jb bm a tb wm m (fun k => (B k ∨ C k) ∨ w.heap.size ≤ k) := APZ
  have sl := hbl.row.lt
  have sg := hbl.gr
  have HZ1 : ∀ k, (B k ∨ some k ∈ [(Value.slice (some ⟨g1, 0, none⟩) 512 512).ownBlock, (Value.slice (some ⟨g2, 0, none⟩) 512 512).ownBlock, (Value.slice (some ⟨g3, 0, none⟩) 512 512).ownBlock]) → (B k ∨ C k) ∨ w.heap.size ≤ k := fun k r => by
    rcases r with r | r
    · exact Or.inl (Or.inl r)
    · rcases (by simpa [Value.ownBlock] using r : k = g1 ∨ k = g2 ∨ k = g3) with r | r | r <;> exact Or.inr (by omega)
  have X6 := XW.apart tu1 (APZ.sub HZ1)
  have N1 : Ns u1 (fun _ => False) sv2 (m.map (·.1)) := ⟨own_turns (own_turns hbl.row tW (fun b hb r => sg b hb (Or.inl r))) tu1 (fun b hb r => (HZ1 b r).elim (fun r => sg b hb (Or.inr r)) (fun r => by have := (sl b hb).2; omega)), fun _ _ => id⟩
  have rlW := own_later r45 bW
  have rmW := own_later r5 bW
  have rl1 : u1.ownsRow w3.heap.size 3 1 (.slice (some ⟨gl, 0, none⟩) m.length cl) m.length (m.map fun p => .int .i64 p.1) := own_turns rlW tu1 (fun b hb r => by
    have h9 : gl = b := Option.some.inj hb
    exact hn1 b (by omega) (by omega) (by omega) (by omega) (fun q => by have := hbB _ q; omega) r)
  have rm1 : u1.ownsRow w4.heap.size 3 1 (.slice (some ⟨gm, 0, none⟩) m.length cm) m.length (m.map fun p => .int .i64 p.1) := own_turns rmW tu1 (fun b hb r => by
    have h9 : gm = b := Option.some.inj hb
    exact hn1 b (by omega) (by omega) (by omega) (by omega) (fun q => by have := hbB _ q; omega) r)
  have hI1 : Ik u1 b0 vE C fs := hIk.keep (fun k hk hc => tu1.block k hk (fun r => by
    have h9 := hbC k hc
    exact hn1 k (by omega) (by omega) (by omega) (by omega) (fun q => Q.dis k hc q) r))
  clear mAll hq lW e1W e2W e3W e15 e25 e35 h1 h2 h3 r4 r5 X1 X2 X3 X4 XW QW rlW rmW hBk hIk
  go_wp2_with fail
  refine (sameInts7 (own_ns rl1) N1 (by rw [List.length_map]; omega)).mono ?_
  rintro e u2 ⟨rfl, bu2⟩
  have su2 := bu2.size
  have gin : ¬ (B gl ∨ (Value.slice (some ⟨g1, 0, none⟩) 512 512).ownBlock = some gl ∨ (Value.slice (some ⟨g2, 0, none⟩) 512 512).ownBlock = some gl ∨ (Value.slice (some ⟨g3, 0, none⟩) 512 512).ownBlock = some gl ∨ (W.heap.size ≤ gl ∧ gl < u1.heap.size)) := fun r => by
    rcases r with r | r | r | r | r
    · have := hbB _ r; omega
    · have h8 : g1 = gl := Option.some.inj r; omega
    · have h8 : g2 = gl := Option.some.inj r; omega
    · have h8 : g3 = gl := Option.some.inj r; omega
    · omega
  have gim : ¬ (B gm ∨ (Value.slice (some ⟨g1, 0, none⟩) 512 512).ownBlock = some gm ∨ (Value.slice (some ⟨g2, 0, none⟩) 512 512).ownBlock = some gm ∨ (Value.slice (some ⟨g3, 0, none⟩) 512 512).ownBlock = some gm ∨ (W.heap.size ≤ gm ∧ gm < u1.heap.size)) := fun r => by
    rcases r with r | r | r | r | r
    · have := hbB _ r; omega
    · have h8 : g1 = gm := Option.some.inj r; omega
    · have h8 : g2 = gm := Option.some.inj r; omega
    · have h8 : g3 = gm := Option.some.inj r; omega
    · omega
  have hdis1 : ∀ k, C k → ¬ (B k ∨ (Value.slice (some ⟨g1, 0, none⟩) 512 512).ownBlock = some k ∨ (Value.slice (some ⟨g2, 0, none⟩) 512 512).ownBlock = some k ∨ (Value.slice (some ⟨g3, 0, none⟩) 512 512).ownBlock = some k ∨ (W.heap.size ≤ k ∧ k < u1.heap.size)) := fun k hc r => by
    have h9 := hbC k hc
    rcases r with r | r | r | r | r
    · exact Q.dis k hc r
    · have h8 : g1 = k := Option.some.inj r; omega
    · have h8 : g2 = k := Option.some.inj r; omega
    · have h8 : g3 = k := Option.some.inj r; omega
    · omega
  obtain ⟨B1, hB1e⟩ : ∃ B1 : Nat → Prop, (fun k => B k ∨ (Value.slice (some ⟨g1, 0, none⟩) 512 512).ownBlock = some k ∨ (Value.slice (some ⟨g2, 0, none⟩) 512 512).ownBlock = some k ∨ (Value.slice (some ⟨g3, 0, none⟩) 512 512).ownBlock = some k ∨ (W.heap.size ≤ k ∧ k < u1.heap.size)) = B1 := ⟨_, rfl⟩
  have gin : ¬ B1 gl := by rw [← hB1e]; exact gin
  have gim : ¬ B1 gm := by rw [← hB1e]; exact gim
  have hdis1 : ∀ k, C k → ¬ B1 k := by rw [← hB1e]; exact hdis1
  have hB1n : ∀ k, B1 k → B k ∨ (w.heap.size ≤ k ∧ k < u1.heap.size) := by
    rw [← hB1e]
    intro k r
    rcases r with r | r | r | r | r
    · exact Or.inl r
    · have h8 : g1 = k := Option.some.inj r; exact Or.inr ⟨by omega, by omega⟩
    · have h8 : g2 = k := Option.some.inj r; exact Or.inr ⟨by omega, by omega⟩
    · have h8 : g3 = k := Option.some.inj r; exact Or.inr ⟨by omega, by omega⟩
    · exact Or.inr ⟨by omega, r.2⟩
  rw [hB1e] at hB1
  have hbk := hB1.hbk
  have hbkl : bk < w.heap.size := (hbB bk (Q.bk)).2
  have mI1 := ints_any b0 bk j m.length cl vE B1 C (es ++ es') fs (some ⟨gl, 0, none⟩) _ u2 (by omega) (hB1.below bu2) (hI1.below bu2) hdis1 hfs (by omega) (by omega) (own_later (own_base rl1 (by omega)) bu2) (fun b hb => by have h9 : gl = b := Option.some.inj hb; subst h9; exact ⟨gin, fun q => by have := hbC _ q; omega⟩)
  go_wp2_with fail
  refine mI1.mono ?_
  rintro e u3 ⟨rfl, vE3, y1, y2, hB3, hI3, q1, q2, fr3⟩
  have su3 := fr3.size
  have tu3 := fr3.turns
  have X7 := X6.below bu2
  have HZ3 : ∀ k, ((C k ∨ k = bk) ∨ some k ∈ [(Value.slice (some ⟨gl, 0, none⟩) m.length cl).ownBlock]) → (B k ∨ C k) ∨ w.heap.size ≤ k := fun k r => by
    rcases r with (r | r) | r
    · exact Or.inl (Or.inr r)
    · exact Or.inl (Or.inl (by rw [r]; exact Q.bk))
    · have h9 : k = gl := by simpa [Value.ownBlock] using r
      exact Or.inr (by omega)
  have X8 := X7.apart tu3 (APZ.sub HZ3)
  have N3 : Ns u3 (fun _ => False) sv2 (m.map (·.1)) := ⟨own_turns (own_later N1.row bu2) tu3 (fun b hb r => (HZ3 b r).elim (fun r => sg b hb (Or.inr r)) (fun r => by have := (sl b hb).2; omega)), fun _ _ => id⟩
  have rm3 : u3.ownsRow w4.heap.size 3 1 (.slice (some ⟨gm, 0, none⟩) m.length cm) m.length (m.map fun p => .int .i64 p.1) := own_turns (own_later rm1 bu2) tu3 (fun b hb r => by
    have h9 : gm = b := Option.some.inj hb
    rcases r with (r | r) | r
    · have := hbC _ r; omega
    · omega
    · have h8 : b = gl := by simpa [Value.ownBlock] using r
      omega)
  clear mI1 X6 X7 N1 rl1 rm1 hI1 hB1
  go_wp2_with fail
  refine (sameInts7 (own_ns rm3) N3 (by rw [List.length_map]; omega)).mono ?_
  rintro e u4 ⟨rfl, bu4⟩
  have su4 := bu4.size
  have mI2 := ints_any b0 bk (j + 1) m.length cm vE3 B1 _ (es ++ es') _ (some ⟨gm, 0, none⟩) _ u4 (by omega) (hB3.below bu4) (hI3.below bu4) (fun k r q => by
      rcases r with r | r | r
      · exact hdis1 k r q
      · have h8 : gl = k := Option.some.inj r
        exact gin (h8 ▸ q)
      · rcases hB1n k q with q | q
        · have := hbB _ q; omega
        · omega) (by simp [hfs]; omega) (by omega) (by omega) (own_later (own_base rm3 (by omega)) bu4) (fun b hb => by
      have h9 : gm = b := Option.some.inj hb
      subst h9
      refine ⟨gim, fun q => ?_⟩
      rcases q with q | q | q
      · have := hbC _ q; omega
      · have h8 : gl = gm := Option.some.inj q; omega
      · omega)
  go_wp2_with fail
  refine mI2.mono ?_
  rintro e u5 ⟨rfl, vE5, z1, z2, hB5, hI5, q3, q4, fr5⟩
  have su5 := fr5.size
  have tu5 := fr5.turns
  have HZ5 : ∀ k, (((C k ∨ (Value.slice (some ⟨gl, 0, none⟩) m.length cl).ownBlock = some k ∨ (u2.heap.size ≤ k ∧ k < u3.heap.size)) ∨ k = bk) ∨ some k ∈ [(Value.slice (some ⟨gm, 0, none⟩) m.length cm).ownBlock]) → (B k ∨ C k) ∨ w.heap.size ≤ k := fun k r => by
    rcases r with ((r | r | r) | r) | r
    · exact Or.inl (Or.inr r)
    · have h8 : gl = k := Option.some.inj r
      exact Or.inr (by omega)
    · exact Or.inr (by omega)
    · exact Or.inl (Or.inl (by rw [r]; exact Q.bk))
    · have h9 : k = gm := by simpa [Value.ownBlock] using r
      exact Or.inr (by omega)
  have X9 := (X8.below bu4).apart tu5 (APZ.sub HZ5)
  go_wp2_with fail
  go_ret
  have hz : ∀ k, k < w.heap.size → ((B k ∨ C k) ∨ w.heap.size ≤ k) → G k ∨ B k ∨ C k := fun k hk r => by
    rcases r with (r | r) | r
    · exact Or.inr (Or.inl r)
    · exact Or.inr (Or.inr r)
    · omega
  refine ⟨rfl, X9, ⟨B1, _, ⟨⟨vE5, es ++ es', _, hB5, hI5, by rw [List.length_append, hes, hes9]; omega, by simp [hfs]; omega, fun e he => ?_, fun e he => ?_⟩, fun k r q => ?_, fun k r => ?_, fun k r => ?_⟩, fun k r => (hB1n k r).imp id (fun r => r.1), fun k r => ?_⟩, (((tA1.trans (Below.turns bu2 _) (fun _ _ r => r)).trans tu3 (fun k hk r => hz k hk (HZ3 k r))).trans (Below.turns bu4 _) (fun _ _ r => r)).trans tu5 (fun k hk r => hz k hk (HZ5 k r))⟩
  · rcases List.mem_append.1 he with h | h
    · exact hel e h
    · have := hel9 e h; omega
  · simp at he
    rcases he with h | rfl | rfl | rfl | rfl | rfl | rfl
    · exact hfl e h
    all_goals (try simp only) <;> omega
  · rcases r with (r | r | r) | r | r
    · exact hdis1 k r q
    · have h8 : gl = k := Option.some.inj r
      exact gin (h8 ▸ q)
    · rcases hB1n k q with q | q
      · have := hbB _ q; omega
      · omega
    · have h8 : gm = k := Option.some.inj r
      exact gim (h8 ▸ q)
    · rcases hB1n k q with q | q
      · have := hbB _ q; omega
      · omega
  · rcases hB1n k r with r | r
    · have := hbB _ r; omega
    · omega
  · rcases r with (r | r | r) | r | r
    · have := hbC _ r; omega
    · have h8 : gl = k := Option.some.inj r; omega
    · omega
    · have h8 : gm = k := Option.some.inj r; omega
    · omega
  · rcases r with (r | r | r) | r | r
    · exact Or.inl r
    · have h8 : gl = k := Option.some.inj r; exact Or.inr (by omega)
    · exact Or.inr (by omega)
    · have h8 : gm = k := Option.some.inj r; exact Or.inr (by omega)
    · exact Or.inr (by omega)
end Go.Proofs.YtnmdnglbpkpfdaaGreatDoor

/- room by its contract. -/
namespace Go.Proofs.YtnmdnglbpkpfdaaGreatDoor
open Go.RowKit Go.Maps
set_option maxRecDepth 100000
theorem cells_three (w : World) (x y z : Value) (t : TypeId) : ∀ j u, [x, y, z][j]? = some u → (w.alloc (.cells #[x, y, z] t)).cell? ((⟨w.heap.size, 0, none⟩ : Addr).add j) = some u := cells_new w #[x, y, z] t w.heap.size rfl
set_option maxHeartbeats 1000000 in
theorem room7 (ao : Option Addr) (c : Nat) (bs : List Int) (w : World) (hL : Lies w ao 512 c bs) :
    Calls Tryz.prog 42 #[.slice ao 512 c] w fun e w' => ∃ g cap, e = .returned (.slice (some ⟨g, 0, none⟩) 515 cap) ∧ w'.ownsRow w.heap.size 5 1 (.slice (some ⟨g, 0, none⟩) 515 cap) 515 ((bs ++ [161, 162, 163]).map (Value.int .u8)) ∧ Below w.heap.size w w' := by
  obtain ⟨i5, hi5, hz0, hz1, hz2⟩ := info_parts Tryz.info5
  go_enter Tryz.func42, Tryz.ntmps42
  go_wp2_with fail
  refine (bytes29_any ao 512 c bs w (by omega) hL).mono ?_
  rintro e w1 ⟨a1, c1, rfl, ho1, b1⟩
  have s1 := b1.size
  go_wp2_with (at_builtin; refine wpList_append_own_split _ rfl _ _ 56 rfl w.heap.size 5 i5 (.int .u8 0) 1 1 Tryz.underlying56 hi5 hz0 hz1 hz2 rfl (by decide) _ _ _ rfl (ho1.alloc _) ⟨w1.heap.size, 0, none⟩ 3 3 [.int .u8 161, .int .u8 162, .int .u8 163] (by decide) rfl rfl (cells_three _ _ _ _ _) (by intro u hu; simp at hu; rcases hu with rfl | rfl | rfl <;> rfl) (by unfold maxLen; omega) (by omega) (by simp; omega) ?_; intro v2 w2 hv2 hl2)
  obtain ⟨a2, c2, rfl⟩ := own_val hv2
  obtain ⟨g2, rfl⟩ : ∃ g, a2 = some ⟨g, 0, none⟩ := by
    rcases hv2.2 with ⟨_, h0⟩ | ⟨g, c, cur, hv, _⟩
    · omega
    · cases hv; exact ⟨g, rfl⟩
  go_ret
  refine ⟨g2, c2, rfl, ?_, ?_⟩
  · rw [List.map_append]
    exact hv2
  · have hg := Fr.laid (B := fun k => w.heap.size ≤ k) hl2 (fun b hb => (ho1.lt b hb).1)
    refine ⟨hg.os.trans b1.os, hg.tape.trans b1.tape, hg.output.trans b1.output, Nat.le_trans b1.size (Nat.le_trans (by simp) hg.size), fun k hk => ?_⟩
    refine (hg.block k (by simp; omega) (by omega)).trans ((Below.heap_alloc w1 _ k (by omega)).trans (b1.block k hk))
end Go.Proofs.YtnmdnglbpkpfdaaGreatDoor
