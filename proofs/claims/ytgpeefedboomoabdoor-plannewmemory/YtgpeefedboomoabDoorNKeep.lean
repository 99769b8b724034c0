/- (*book).keep by its contract. -/
import Derived.Test.YtgpeefedboomoabDoorNBook
namespace Go.Proofs.YtgpeefedboomoabDoor
open Go.RowKit
set_option maxRecDepth 100000

theorem cells_new (W : World) (C : Array Value) (t : TypeId) (k : Nat) (hk : k = W.heap.size) : ∀ j u, C.toList[j]? = some u → (W.alloc (.cells C t)).cell? ((⟨k, 0, none⟩ : Addr).add j) = some u := by
  intro j u hu
  rw [Addr.add_lit, Nat.zero_add, World.cell?_alloc_at _ _ _ _ hk]
  simpa using hu
/-- Another list of the same mark stays one, where a list is appended to. -/
theorem own_beside {w w' : World} {base n k m : Nat} {i : Int} {v v' u : Value} (hv : w.ownsRow base 5 1 v n (full n i)) (hl : Laid w w' v v' n k) (hv' : w'.ownsRow base 5 1 v' k (full k i)) (hu : w.ownsRow base 5 1 u m (full m i)) (hmk : m ≤ k) : w'.ownsRow base 5 1 u m (full m i) := by
  refine ⟨hu.1, ?_⟩
  rcases hu.2 with h0 | ⟨b, c, cur, rfl, hb, hh, hmc, hcm, hcs, ht⟩
  · exact Or.inl h0
  right
  rcases hl with ⟨g, cap, rfl, rfl, hg⟩ | ⟨cap', rfl, hg⟩
  · by_cases hbg : b = g
    · subst hbg
      rcases hv.2 with ⟨h, _⟩ | ⟨g1, c1, cur1, h, _, hh1, _, _, hcs1, _⟩
      · cases h
      cases h
      rcases hv'.2 with ⟨h, _⟩ | ⟨g2, c2, cur2, h, _, hh2, _, _, hcs2, ht2⟩
      · cases h
      cases h
      rw [hh] at hh1
      cases hh1
      refine ⟨b, c, cur2, rfl, hb, hh2, hmc, hcm, by omega, ?_⟩
      have h3 : cur2.toList.take (m * 1) = (cur2.toList.take (k * 1)).take (m * 1) := by rw [List.take_take, Nat.min_eq_left (by omega)]
      rw [h3, ht2, Nat.mul_one, full_take i hmk]
    · exact ⟨b, c, cur, rfl, hb, (hg.block b (lt_of_block hh) (by simpa using hbg)).trans hh, hmc, hcm, hcs, ht⟩
  · exact ⟨b, c, cur, rfl, hb, (hg.block b (lt_of_block hh) (by simp)).trans hh, hmc, hcm, hcs, ht⟩
theorem grown_on {w0 w w' : World} {ob row : Option Nat} (h : w0.grownBy w ob) (hg : w.grownBy w' row) (hr : ∀ b, row = some b → ob = some b ∨ w0.heap.size ≤ b) : w0.grownBy w' ob :=
  ⟨hg.os.trans h.os, hg.tape.trans h.tape, hg.output.trans h.output, Nat.le_trans h.size hg.size, fun k hk hne => by
    refine (hg.block k (Nat.lt_of_lt_of_le hk h.size) ?_).trans (h.block k hk hne)
    intro e
    rcases hr k e.symm with h1 | h1
    · exact hne h1.symm
    · omega⟩
/-- The new list lies where the old one lay, or in a new block. -/
theorem laid_grown {w0 w w' : World} {ob : Option Nat} {v v' : Value} {n k : Nat} (h : w0.grownBy w ob) (hv : ∀ b, v.ownBlock = some b → ob = some b ∨ w0.heap.size ≤ b) (hl : Laid w w' v v' n k) :
    w0.grownBy w' ob ∧ ∀ b, v'.ownBlock = some b → ob = some b ∨ w0.heap.size ≤ b := by
  rcases hl with ⟨g, cap, rfl, rfl, hg⟩ | ⟨cap', rfl, hg⟩
  · exact ⟨grown_on h hg (fun b hb => hv b hb), fun b hb => hv b hb⟩
  · refine ⟨grown_on h hg (fun b hb => by cases hb), fun b hb => ?_⟩
    cases hb
    exact .inr h.size
theorem laid_at {w w' : World} {n k : Nat} {v v' : Value} (hl : Laid w w' v v' n k) : ∀ b, v'.ownBlock = some b → v.ownBlock = some b ∨ w.heap.size ≤ b := by
  rcases hl with ⟨g, cap, rfl, rfl, _⟩ | ⟨cap', rfl, _⟩
  · exact fun b hb => .inl hb
  · intro b hb
    cases hb
    exact .inr (Nat.le_refl _)
theorem set_mark (k : Nat) (mk : Int) (xs : List Int) (h : k < xs.length) : (full k mk ++ (xs.drop k).map (Value.int .u8)).set k (.int .u8 mk) = full (k + 1) mk ++ (xs.drop (k + 1)).map (Value.int .u8) := by
  rw [List.drop_eq_getElem_cons h, full_snoc, List.set_append_right _ _ (by simp [full_length]), List.map_cons, full_length, Nat.sub_self, List.set_cons_zero, List.append_assoc]
  rfl
/-- Blocks whose elements are of the type e, but for one of them, are as they were. -/
def TyX (e : Nat) (ob : Option Nat) (w w' : World) : Prop := ∀ (b : Nat) (cs : Array Value), ob ≠ some b → w.heap[b]? = some (Obj.cells cs e) → w'.heap[b]? = some (Obj.cells cs e)
theorem TyX.trans {e : Nat} {ob : Option Nat} {a b c : World} (h : TyX e ob a b) (k : TyX e ob b c) : TyX e ob a c := fun i cs hn hi => k i cs hn (h i cs hn hi)
theorem TyX.weak {e : Nat} {ob : Option Nat} {a b : World} (h : TyX e none a b) : TyX e ob a b := fun i cs _ hi => h i cs (by simp) hi
theorem TyX.alloc (e : Nat) (ob : Option Nat) (w : World) (o : Obj) : TyX e ob w (w.alloc o) := fun b _ _ hb => (Below.heap_alloc w o b (lt_of_block hb)).trans hb
theorem TyX.laid {w w' : World} {base e e' n k : Nat} {ob : Option Nat} {v v' : Value} {xs : List Value} (hl : Laid w w' v v' n k) (ho : w.ownsRow base e' 1 v n xs) (hne : e ≠ e' ∨ v.ownBlock = ob) : TyX e ob w w' := by
  intro b cs hn hb
  rcases hl with ⟨g, cap, rfl, _, hg⟩ | ⟨_, _, hg⟩
  · rcases ho.2 with ⟨h, _⟩ | ⟨g1, c1, cur, h, _, hh, _⟩
    · cases h
    · cases h
      refine (hg.block b (lt_of_block hb) ?_).trans hb
      intro h2
      cases h2
      rcases hne with hne | hne
      · rw [hb] at hh
        simp at hh
        exact hne hh.2
      · exact hn hne.symm
  · exact (hg.block b (lt_of_block hb) (by simp)).trans hb
theorem TyX.set {w : World} {e bk j : Nat} {ob : Option Nat} {cs0 : Array Value} (hb : w.heap[bk]? = some (.cells cs0 28)) (hne : e ≠ 28) (u : Value) : TyX e ob w (w.setCell ⟨bk, j, none⟩ u) := by
  intro b cs _ h
  rw [heap_setCell_other _ _ _ _ (by
    rintro rfl
    rw [h] at hb
    simp at hb
    exact hne hb.2)]
  exact h
theorem own_tyx {w w' : World} {base e n : Nat} {ob : Option Nat} {v : Value} {xs : List Value} (h : w.ownsRow base e 1 v n xs) (t : TyX e ob w w') (hn : ∀ b, v.ownBlock = some b → ob ≠ some b) : w'.ownsRow base e 1 v n xs := by
  obtain ⟨h1, h2⟩ := h
  refine ⟨h1, ?_⟩
  rcases h2 with h2 | ⟨g, cap, cur, hv, hg, hh, r⟩
  · exact Or.inl h2
  · refine Or.inr ⟨g, cap, cur, hv, hg, t g cur (hn g ?_) hh, r⟩
    subst hv; rfl
/-- Old blocks that are not B's are as they were. -/
structure Fr (B : Nat → Prop) (w w' : World) : Prop where
  os : w'.os = w.os
  tape : w'.tape = w.tape
  output : w'.output = w.output
  size : w.heap.size ≤ w'.heap.size
  block : ∀ k, k < w.heap.size → ¬ B k → w'.heap[k]? = w.heap[k]?
theorem Fr.trans {B : Nat → Prop} {a b c : World} (h : Fr B a b) (k : Fr B b c) : Fr B a c :=
  ⟨k.os.trans h.os, k.tape.trans h.tape, k.output.trans h.output, Nat.le_trans h.size k.size, fun j hj hB => (k.block j (Nat.lt_of_lt_of_le hj h.size) hB).trans (h.block j hj hB)⟩
theorem Fr.alloc (B : Nat → Prop) (w : World) (o : Obj) : Fr B w (w.alloc o) := ⟨rfl, rfl, rfl, by simp, fun k hk _ => Below.heap_alloc w o k hk⟩
theorem Fr.laid {B : Nat → Prop} {w w' : World} {n k : Nat} {v v' : Value} (hl : Laid w w' v v' n k) (hB : ∀ b, v.ownBlock = some b → B b) : Fr B w w' := by
  rcases hl with ⟨g, cap, rfl, _, hg⟩ | ⟨_, _, hg⟩
  · exact ⟨hg.os, hg.tape, hg.output, hg.size, fun j hj hnb => hg.block j hj (fun h => hnb (by cases h; exact hB _ rfl))⟩
  · exact ⟨hg.os, hg.tape, hg.output, hg.size, fun j hj _ => hg.block j hj (by simp)⟩
theorem Fr.set {B : Nat → Prop} {w : World} {bk : Nat} (hB : B bk) (j : Nat) (u : Value) : Fr B w (w.setCell ⟨bk, j, none⟩ u) :=
  ⟨rfl, rfl, rfl, by simp, fun k _ hk => heap_setCell_other _ _ _ _ (by rintro rfl; exact hk hB)⟩

/-- The book with two lists more. -/
theorem Bk.more {w wd : World} {base bk : Nat} {B B' : Nat → Prop} {ob : Option Nat} {es : List Ent} {vL vM : Value} {e0 e1 : Ent} (hB : Bk w base bk B es) (hbb : ∀ k, B k → B' k) (ht : TyX 5 ob w wd) (hob : ∀ e ∈ es, ∀ b, e.val.ownBlock = some b → ob ≠ some b) (hbox : wd.heap[bk]? = some (.cells #[vL, vM] 28))
    (hL : wd.ownsRow base 26 1 vL (es.length + 2) (es.map Ent.val ++ [e0.val, e1.val])) (hM : wd.ownsRow base 5 1 vM (es.length + 2) ((es.map fun e => Value.int .u8 e.mark) ++ [.int .u8 e0.mark, .int .u8 e1.mark]))
    (hBL : ∀ k, vL.ownBlock = some k → B' k) (hBM : ∀ k, vM.ownBlock = some k → B' k ∧ (∀ e ∈ es, e.val.ownBlock ≠ some k) ∧ e0.val.ownBlock ≠ some k ∧ e1.val.ownBlock ≠ some k)
    (h0 : wd.ownsRow base 5 1 e0.val e0.len (full e0.len e0.mark)) (h1 : wd.ownsRow base 5 1 e1.val e1.len (full e1.len e1.mark))
    (b0 : ∀ b, e0.val.ownBlock = some b → B' b) (b1 : ∀ b, e1.val.ownBlock = some b → B' b) : Bk wd base bk B' (es ++ [e0, e1]) := by
  have hlen : (es ++ [e0, e1]).length = es.length + 2 := by simp
  refine ⟨⟨vL, vM, hbox, ?_, ?_, hBL, fun k hk => ?_⟩, ⟨hB.hbk.1, hbb _ hB.hbk.2⟩, fun e he => ?_⟩
  · rw [hlen, List.map_append]; exact hL
  · rw [hlen, List.map_append]; exact hM
  · obtain ⟨x1, x2, x3, x4⟩ := hBM k hk
    refine ⟨x1, fun e he => ?_⟩
    rcases List.mem_append.1 he with h | h
    · exact x2 e h
    · simp at h
      rcases h with rfl | rfl
      · exact x3
      · exact x4
  · rcases List.mem_append.1 he with h | h
    · obtain ⟨x1, x2⟩ := hB.lies e h
      exact ⟨own_tyx x1 ht (hob e h), fun b hb => hbb _ (x2 b hb)⟩
    · simp at h
      rcases h with rfl | rfl
      · exact ⟨h0, b0⟩
      · exact ⟨h1, b1⟩

theorem Tryd.info26 : (Tryd.prog.info? 26).map (fun i => (i.zero, i.size, i.bytes)) = some (some (.slice none 0 0), 1, 24) := by kernel_rfl

set_option maxHeartbeats 4000000 in
theorem keep_any (base bk n cl : Nat) (B : Nat → Prop) (es : List Ent) (al : Option Addr) (xs : List Int) (mk : Int) (w : World) (hbase : base ≤ w.heap.size) (hB : Bk w base bk B es) (hes : es.length ≤ 1000) (hn : n ≤ 1000)
    (hown : w.ownsRow base 5 1 (.slice al n cl) n (xs.map (Value.int .u8))) (hnB : ∀ b, (Value.slice al n cl).ownBlock = some b → ¬ B b) :
    Calls Tryd.prog 10 #[.pointer (some ⟨bk, 0, none⟩), .slice al n cl, .int .u8 mk] w fun e w' => e = .returned (.tuple #[]) ∧ ∃ e1, Bk w' base bk (fun k => B k ∨ (Value.slice al n cl).ownBlock = some k ∨ w.heap.size ≤ k) (es ++ [⟨al, n, cl, mk⟩, e1]) ∧ e1.len = n + 70 ∧ Fr (fun k => B k ∨ (Value.slice al n cl).ownBlock = some k) w w' := by
  obtain ⟨i9, hi9, hz0, hz1, hz2⟩ := info_parts Tryd.info5
  have hni : (n : Int) ≤ 1000 := by omega
  have hlx : xs.length = n := by simpa using hown.1
  go_enter Tryd.func10, Tryd.ntmps10
  go_wp2_with fail
  go_loopw [6] (fun j wr => ∃ k : Nat, k ≤ n ∧ j = .int .i64 k ∧ wr.ownsRow base 5 1 (.slice al n cl) n (full k mk ++ (xs.drop k).map (Value.int .u8)) ∧ w.grownBy wr (Value.slice al n cl).ownBlock) (fun j _ => n - (intOf j).toNat)
  case atStart => exact ⟨0, Nat.zero_le _, rfl, by simpa [full] using hown, World.grownBy.refl _ _⟩
  case round =>
    obtain ⟨k, hk, rfl, ho, hg⟩ := hrel
    by_cases hlt : k < n
    · obtain ⟨g, rfl⟩ : ∃ g, al = some ⟨g, 0, none⟩ := by
        rcases ho.2 with ⟨_, h0⟩ | ⟨g, c, cur, hv, _⟩
        · omega
        · cases hv; exact ⟨g, rfl⟩
      have hcell : ∃ z, wr.cell? ⟨g, k, none⟩ = some z := by
        rw [ho.cellAt k (by omega)]
        exact ⟨_, List.getElem?_eq_getElem (by rw [ho.1]; omega)⟩
      obtain ⟨z, hcell⟩ := hcell
      have hfz := ho.frozenAt k
      have hst := ho.stored k (.int .u8 mk)
      rw [set_mark k mk xs (by omega)] at hst
      have HST : Hid _ := hst
      clear hst
      go_wp2_with fail
      go_roundw
      case rel => exact ⟨k + 1, by omega, by go_num, HST.out.1, grown_trans hg HST.out.2⟩
      case measure => simp [intOf]; omega
    · obtain rfl : k = n := by omega
      have ho1 : wr.ownsRow base 5 1 (.slice al k cl) k (full k mk) := by
        have := ho
        rw [List.drop_of_length_le (by omega), List.map_nil, List.append_nil] at this
        exact this
      clear ho hown
      have hob : ∀ b, (Value.slice al k cl).ownBlock = some b → (Value.slice al k cl).ownBlock = some b ∨ w.heap.size ≤ b := fun b hb => .inl hb
      go_wp2_with fail
      go_loopw [7, 8] (fun v j wr => ∃ m : Nat, m ≤ 70 ∧ j = .int .i64 m ∧ wr.ownsRow base 5 1 v (k + m) (full (k + m) mk) ∧ wr.ownsRow base 5 1 (.slice al k cl) k (full k mk) ∧
          w.grownBy wr (Value.slice al k cl).ownBlock ∧ (∀ b, v.ownBlock = some b → (Value.slice al k cl).ownBlock = some b ∨ w.heap.size ≤ b)) (fun _ j _ => 70 - (intOf j).toNat)
      case atStart => exact ⟨0, Nat.zero_le _, rfl, ho1, ho1, hg, hob⟩
      case round =>
        clear ho1 hg
        obtain ⟨m, hm, rfl, hv, hlo, hg, hvb⟩ := hrel
        have hsz := hg.size
        by_cases hlt : m < 70
        · have hmi : (m : Int) < 70 := by omega
          generalize hz : k + m = z at *
          go_wp2_with (at_builtin; refine wpList_append_own_split _ rfl _ _ 26 rfl base 5 i9 (.int .u8 0) 1 1 Tryd.underlying26 hi9 hz0 hz1 hz2 rfl (by decide) _ _ _ rfl (hv.alloc _) ⟨wr.heap.size, 0, none⟩ 1 1 [.int .u8 mk] (by decide) rfl rfl (cell_one_new _ _ _) (by intro u hu; simp at hu; subst hu; rfl) (by unfold maxLen; omega) (by omega) (by simp; omega) ?_; intro v3 w3 hv3 hl3)
          rw [← full_snoc] at hv3
          have hga := grown_trans hg (World.grownBy_alloc wr (.cells #[.int .u8 mk] 5) _)
          have hg3 := laid_grown hga hvb hl3
          have hlo3 := own_beside (hv.alloc _) hl3 hv3 (hlo.alloc _) (by omega)
          subst hz
          go_roundw
          case rel => exact ⟨m + 1, by omega, by go_num, hv3, hlo3, hg3.1, hg3.2⟩
          case measure => simp [intOf]; omega
        · obtain rfl : m = 70 := by omega
          clear hlt hm
          obtain ⟨i22, hi22, hy0, hy1, hy2⟩ := info_parts Tryd.info26
          obtain ⟨⟨vL, vM, hbox, hL, hM, hBL, hBM⟩, hbk, _⟩ := id hB
          obtain ⟨aL, cL, rfl⟩ := own_val hL
          obtain ⟨aM, cM, rfl⟩ := own_val hM
          obtain ⟨a2, c2, rfl⟩ := own_val hv
          have hnk : ∀ b, B b → some b ≠ (Value.slice al k cl).ownBlock := fun b hb h => hnB b h.symm hb
          have hB2 : Bk wr base bk B es := hB.keep fun b hb hBb => hg.block b hb (hnk b hBb)
          have hboxr : wr.heap[bk]? = some (.cells #[.slice aL es.length cL, .slice aM es.length cM] 28) := (hg.block bk (lt_of_block hbox) (hnk bk hbk.2)).trans hbox
          have hLr := own_keep (w' := wr) hL (fun b hb => hg.block b (own_old hL hb).2.1 (hnk b (hBL b hb)))
          have hMr := own_keep (w' := wr) hM (fun b hb => hg.block b (own_old hM hb).2.1 (hnk b (hBM b hb).1))
          have b0 : wr.cell? ⟨bk, 0, none⟩ = some (.slice aL es.length cL) := by rw [cell_of_row wr bk 0 _ _ (0, 0) hboxr]; rfl
          have hFA := Fr.alloc B wr (.cells #[.slice al k cl, .slice a2 (k + 70) c2] 26)
          have hLra := hLr.alloc (.cells #[.slice al k cl, .slice a2 (k + 70) c2] 26)
          have HB : Hid (Bk wr base bk B es) := hB2
          clear hB2 hB
          go_wp2_with (first
            | (at_builtin; refine wpList_append_own_split _ rfl _ _ 25 rfl base 26 i22 (.slice none 0 0) 1 24 Tryd.underlying25 hi22 hy0 hy1 hy2 rfl (by decide) _ _ _ rfl hLra ⟨wr.heap.size, 0, none⟩ 2 2 [.slice al k cl, .slice a2 (k + 70) c2] (by decide) rfl rfl (cells_new _ _ _ _ rfl) (by intro u hu; simp at hu; rcases hu with rfl | rfl <;> rfl) (by unfold maxLen; omega) (by omega) (by simp; omega) ?_; intro vA wA hoA hlA; have hboxA := ((TyX.alloc 28 none wr (.cells #[.slice al k cl, .slice a2 (k + 70) c2] 26)).trans (TyX.laid hlA hLra (Or.inl (by decide)))) bk _ (by simp) hboxr; obtain ⟨aA, cA, rfl⟩ := own_val hoA; have f0 : wA.cell? ⟨bk, 0, none⟩ = some (.slice aL es.length cL) := (cell_of_row wA bk 0 _ _ (0, 0) hboxA).trans rfl; have z0 := frozen_of_row wA bk 0 _ _ hboxA; have f1 : (wA.setCell ⟨bk, 0, none⟩ (.slice aA (es.length + 2) cA)).cell? ⟨bk, 1, none⟩ = some (.slice aM es.length cM) := (World.cell?_setCell_other _ _ _ _ (by simp)).trans ((cell_of_row wA bk 1 _ _ (0, 0) hboxA).trans rfl); have hboxB : (wA.setCell ⟨bk, 0, none⟩ (.slice aA (es.length + 2) cA)).heap[bk]? = some (.cells #[.slice aA (es.length + 2) cA, .slice aM es.length cM] 28) := heap_setCell_same wA bk 0 _ _ _ hboxA; have hTB : TyX 5 none wr (wA.setCell ⟨bk, 0, none⟩ (.slice aA (es.length + 2) cA)) := (TyX.alloc 5 none wr (.cells #[.slice al k cl, .slice a2 (k + 70) c2] 26)).trans ((TyX.laid hlA hLra (Or.inl (by decide))).trans (TyX.set (j := 0) hboxA (by decide) (.slice aA (es.length + 2) cA))); have hMb := (own_tyx hMr hTB (by simp)).alloc (.cells #[.int .u8 mk, .int .u8 mk] 5); have hszA : wr.heap.size ≤ wA.heap.size := Nat.le_trans hFA.size (Fr.laid hlA hBL).size)
            | (at_builtin; refine wpList_append_own_split _ rfl _ _ 26 rfl base 5 i9 (.int .u8 0) 1 1 Tryd.underlying26 hi9 hz0 hz1 hz2 rfl (by decide) _ _ _ rfl hMb ⟨wA.heap.size, 0, none⟩ 2 2 [.int .u8 mk, .int .u8 mk] (by decide) rfl rfl (cells_new _ _ _ _ (by simp)) (by intro u hu; simp at hu; subst hu; rfl) (by unfold maxLen; omega) (by omega) (by simp; omega) ?_; intro vC wC hoC hlC; have hboxC := ((TyX.alloc 28 none _ (.cells #[.int .u8 mk, .int .u8 mk] 5)).trans (TyX.laid hlC hMb (Or.inl (by decide)))) bk _ (by simp) hboxB; obtain ⟨aC, cC, rfl⟩ := own_val hoC; have f2 : wC.cell? ⟨bk, 1, none⟩ = some (.slice aM es.length cM) := (cell_of_row wC bk 1 _ _ (0, 0) hboxC).trans rfl; have z1 := frozen_of_row wC bk 1 _ _ hboxC))
          first | go_end0 | refine bodyPost_ret (results_none rfl _ _ _) rfl ?_
          have hboxD : (wC.setCell ⟨bk, 1, none⟩ (.slice aC (es.length + 2) cC)).heap[bk]? = some (.cells #[.slice aA (es.length + 2) cA, .slice aC (es.length + 2) cC] 28) := heap_setCell_same wC bk 1 _ _ _ hboxC
          have hT9 : TyX 5 (Value.slice aM es.length cM).ownBlock wr (wC.setCell ⟨bk, 1, none⟩ (.slice aC (es.length + 2) cC)) := hTB.weak.trans ((TyX.alloc 5 _ _ _).trans ((TyX.laid hlC hMb (Or.inr rfl)).trans (TyX.set (j := 1) hboxC (by decide) _)))
          have hs22 : TyX 26 none wA (wC.setCell ⟨bk, 1, none⟩ (.slice aC (es.length + 2) cC)) := (TyX.set (j := 0) hboxA (by decide) (.slice aA (es.length + 2) cA)).trans ((TyX.alloc 26 _ _ _).trans ((TyX.laid hlC hMb (Or.inl (by decide))).trans (TyX.set (j := 1) hboxC (by decide) _)))
          have hF : Fr B wr (wC.setCell ⟨bk, 1, none⟩ (.slice aC (es.length + 2) cC)) := hFA.trans ((Fr.laid hlA hBL).trans ((Fr.set hbk.2 0 _).trans ((Fr.alloc B _ _).trans ((Fr.laid hlC (fun b hb => (hBM b hb).1)).trans (Fr.set hbk.2 1 _)))))
          have hszB : wr.heap.size ≤ ((wA.setCell ⟨bk, 0, none⟩ (.slice aA (es.length + 2) cA)).alloc (.cells #[.int .u8 mk, .int .u8 mk] 5)).heap.size := by simp; omega
          have hne2 : ∀ b, (Value.slice a2 (k + 70) c2).ownBlock = some b → (Value.slice aM es.length cM).ownBlock ≠ some b := fun b hb h => by
            rcases hvb b hb with h1 | h1
            · exact hnB b h1 (hBM b h).1
            · have := (own_old hM h).2.1
              omega
          refine ⟨rfl, ⟨a2, k + 70, c2, mk⟩, ?_, rfl, ⟨hF.os.trans hg.os, hF.tape.trans hg.tape, hF.output.trans hg.output, Nat.le_trans hg.size hF.size, fun b hb hn => (hF.block b (Nat.lt_of_lt_of_le hb hg.size) (fun h => hn (.inl h))).trans (hg.block b hb (fun h => hn (.inr h.symm)))⟩⟩
          refine HB.out.more (fun b hb => .inl hb) hT9 (fun e he b hb h => (hBM b h).2 e he hb) hboxD (own_tyx hoA hs22 (by simp)) (own_tyx hoC (TyX.set (j := 1) (ob := none) hboxC (by decide) _) (by simp)) (fun b hb => ?_) (fun b hb => ?_) (own_tyx hlo hT9 (fun b hb h => hnB b hb (hBM b h).1)) (own_tyx hv hT9 hne2) (fun b hb => .inr (.inl hb)) (fun b hb => .inr (hvb b hb))
          · rcases laid_at hlA b hb with h | h
            · exact .inl (hBL b h)
            · exact .inr (.inr (by simp at h; omega))
          · rcases laid_at hlC b hb with h | h
            · exact ⟨.inl (hBM b h).1, (hBM b h).2, fun h0 => hnB b h0 (hBM b h).1, fun h1 => hne2 b h1 h⟩
            · have hbb := Nat.le_trans hszB h
              refine ⟨.inr (.inr (by omega)), fun e he h1 => ?_, fun h1 => ?_, fun h1 => ?_⟩
              · have := HB.out.old he h1
                omega
              · have := (own_old hlo h1).2.1
                omega
              · have := (own_old hv h1).2.1
                omega
end Go.Proofs.YtgpeefedboomoabDoor
