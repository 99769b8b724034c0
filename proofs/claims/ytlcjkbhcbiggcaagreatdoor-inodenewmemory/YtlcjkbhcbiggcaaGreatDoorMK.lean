/- Lists of inodes that were handed out: keep. -/
import Derived.Test.YtlcjkbhcbiggcaaGreatDoorMA
namespace Go.Proofs.YtlcjkbhcbiggcaaGreatDoor
open Go.RowKit Go.Maps
set_option maxRecDepth 100000
attribute [local go_sem ↓ 100000] in_load in_ex in_store
theorem InStore.newM (x : Int) (o : Oper) (a : Act) (w : World) (next : Act → World → Prop) (Q : Exit → Act → World → Prop) :
    InStore (.pointer (some ⟨w.heap.size, 0, none⟩)) (.agg #[.int .i64 x, .int .i64 0, .int .i64 0, .int .i64 0, .int .i64 0, .int .i64 0, .int .i64 0, .int .i64 0, .int .i64 0, .int .i64 0, .int .i64 0, .int .i64 0, .int .i64 0]) o a (w.alloc (.cells #[.int .i64 0, .int .i64 0, .int .i64 0, .int .i64 0, .int .i64 0, .int .i64 0, .int .i64 0, .int .i64 0, .int .i64 0, .int .i64 0, .int .i64 0, .int .i64 0, .int .i64 0] 38)) next Q = next (a.put o.dst undef) (w.alloc (.cells (inA (mrkI x)) 38)) :=
  InStore.new (inA (mrkI x)) _ _ rfl rfl (inA_one _) w o a next Q
attribute [local go_sem] InStore.newM build_in build_in2
theorem Tryz.infoSI : (Tryz.prog.info? 27).map (fun i => (i.zero, i.size, i.bytes)) = some (some (.slice none 0 0), 1, 24) := by kernel_rfl
theorem infoSI_parts : ∃ i, Tryz.prog.info? 27 = some i ∧ i.zero = some (.slice none 0 0) ∧ i.size = 1 ∧ i.bytes = 24 := by
  have := Tryz.infoSI
  cases h : Tryz.prog.info? 27 with
  | none => rw [h] at this; cases this
  | some i =>
    rw [h] at this
    simp only [Option.map_some, Option.some.injEq, Prod.mk.injEq] at this
    exact ⟨i, rfl, this.1, this.2.1, this.2.2⟩
theorem cells_2I (w : World) (x y : Value) (t : TypeId) : ∀ j u, [x, y][j]? = some u → (w.alloc (.cells #[x, y] t)).cell? ((⟨w.heap.size, 0, none⟩ : Addr).add j) = some u := by
  intro j u hj
  match j, hj with
  | 0, hj => simp at hj; subst hj; simp [Addr.add]
  | 1, hj => simp at hj; subst hj; simp [Addr.add]
theorem Laid.box9 {wr w3 : World} {gv g' v : Value} {N k B : Nat} {o : Obj} (hB : B < wr.heap.size) (hvB : v.ownBlock ≠ some B) (hgb : ∀ b, gv.ownBlock = some b → v.ownBlock = some b ∨ B < b) (l : Laid (wr.alloc o) w3 gv g' N k) : w3.heap[B]? = wr.heap[B]? ∧ ∀ b, g'.ownBlock = some b → v.ownBlock = some b ∨ B < b := by
  have hA : (wr.alloc o).heap[B]? = wr.heap[B]? := Below.heap_alloc wr o B hB
  have hs : B < (wr.alloc o).heap.size := by simp; omega
  rcases l with ⟨g, cap, h1, h2, h3⟩ | ⟨cap', h1, h2⟩
  · subst h1 h2
    have hne : g ≠ B := fun e => by
      subst e
      rcases hgb g rfl with q | q
      · exact hvB q
      · omega
    exact ⟨(h3.block B hs (by simpa using fun e => hne e.symm)).trans hA, fun b hb => hgb b hb⟩
  · subst h1
    refine ⟨(h2.block B hs (by simp)).trans hA, fun b hb => Or.inr ?_⟩
    cases hb
    exact hs
set_option maxHeartbeats 8000000 in
theorem mkeep_any {w : World} {bb : Nat} {kv : Value} {es : List (Value × Nat)} {D : Nat → Prop} (h : Mk w bb kv es D) (q : Nat) (hq : es.length = 2 * q) (v : Value) (n : Nat) (ls : List Ino) (hv : w.ownsRow 0 38 13 v n (inLs ls)) (hls : ls.length = n) (hvD : ∀ b, v.ownBlock = some b → ¬ D b) (hn : n ≤ 256) (hes : es.length + 2 ≤ 1000) :
    Calls Tryz.prog 12 #[.pointer (some ⟨bb, 0, none⟩), v] w fun e w' => e = .returned (.tuple #[]) ∧ KepR w w' bb es D v n := by
  obtain ⟨i0, hi, hz0, hz1, hz2⟩ := infoI_parts
  obtain ⟨j0, ji, jz0, jz1, jz2⟩ := infoSI_parts
  obtain ⟨va, vc, hvv⟩ := own_slice9 hv
  subst hvv
  have HH : Hid (Mk w bb kv es D) := h
  obtain ⟨La, Lc, hLv⟩ := own_slice9 h.row
  obtain ⟨M, hM⟩ : ∃ M, es.length = M := ⟨_, rfl⟩
  have c0 : w.cell? ⟨bb, 0, none⟩ = some (.slice La M Lc) := by rw [← hM, ← hLv]; simp [World.cell?, h.box]
  have HLv : Hid (kv = .slice La es.length Lc) := hLv
  have HM : Hid (es.length = M) := hM
  have HV : Hid (w.ownsRow 0 38 13 (.slice va n vc) n (inLs ls)) := hv
  have HXL : Hid (ls.length = n) := hls
  have HvD : Hid (∀ b, (Value.slice va n vc).ownBlock = some b → ¬ D b) := hvD
  rw [hM] at hq hes
  have b0 : (M : Int) ≤ 1000 := by omega
  have b1 : (q : Int) ≤ 1000 := by omega
  have b2 : (n : Int) ≤ 256 := by omega
  have hdiv : (M : Int) / 2 = q := by omega
  have HQ : Hid (M = 2 * q) := hq
  have hbl := heap_lt h.box
  clear h hv hM hLv hvD hq hls
  go_enter Tryz.func12, Tryz.ntmps12
  go_wp2_with fail
  have HA : Hid (∀ a : Int, a = -1 - (q : Int) → a = -1 - (q : Nat)) := fun _ e => e
  obtain ⟨a, ha⟩ : ∃ a : Int, -1 - (q : Int) = a := ⟨_, rfl⟩
  rw [ha]
  have Ha : Hid (-1 - (q : Int) = a) := ha
  clear ha HA hdiv b1
  obtain ⟨X, hX⟩ : ∃ X, mrkI a = X := ⟨_, rfl⟩
  rw [hX]
  have HX : Hid (mrkI a = X) := hX
  clear hX
  obtain ⟨W, hW⟩ : ∃ W, w.alloc (.cells (inA X) 38) = W := ⟨_, rfl⟩
  have bW : Below w.heap.size w W := by rw [← hW]; exact (Below.refl _ w).alloc (Nat.le_refl _) _
  have IB : InBox W w.heap.size X := by rw [← hW]; exact heap_alloc_last w _
  have hwlt : w.heap.size < W.heap.size := heap_lt IB
  rw [hW]
  go_loopw [5] (fun u wr => ∃ i : Nat, i ≤ n ∧ u = .int .i64 i ∧ wr.ownsRow 0 38 13 (.slice va n vc) n (inLs (List.replicate i X ++ ls.drop i)) ∧ Turns (fun i => (Value.slice va n vc).ownBlock = some i) w wr ∧ InBox wr w.heap.size X) (fun u _ => n + 1 - (intOf u).toNat)
  case atStart => exact ⟨0, Nat.zero_le _, rfl, by simpa using own_turns HV.out (Below.turns bW (fun _ => False)) (fun _ _ q => q), Below.turns bW _, IB⟩
  case round =>
  obtain ⟨i, hin, rfl, o1, t1, I1⟩ := hrel
  by_cases hlt : i < n
  · have a1 : (i : Int) < n := by omega
    have a2 : (0 : Int) ≤ i := by omega
    obtain ⟨g, rfl, hvc⟩ : ∃ g, va = some ⟨g, 0, none⟩ ∧ n ≤ vc := by
      rcases own_shape9 o1 with ⟨_, r⟩ | ⟨g, cap', r, r2, _⟩
      · omega
      · cases r; exact ⟨g, rfl, r2⟩
    have hll : (List.replicate i X ++ ls.drop i).length = n := by have := HXL.out; simp; omega
    have th : wr.there g (i * 13) 13 := fun d hd => ⟨by rw [o1.cellAt (i * 13 + d) (by omega)]; have := HXL.out; simp [inLs_len]; omega, o1.frozenAt _⟩
    have o2 := own_setCells (inA X).toList _ (i * 13) wr o1 (by show i * 13 + 13 ≤ n * 13; omega)
    rw [inLs_set _ i X (by rw [hll]; exact hlt), rep_setI _ i _ (by rw [HXL.out]; exact hlt)] at o2
    have hgw : g ≠ w.heap.size := fun e => by have := own_lt9 HV.out (b := g) rfl; omega
    have ts : Turns (fun j => j = g) wr (wr.setCells g (i * 13) (inA X).toList) := turns_setCells g (inA X).toList (i * 13) wr
    have t2 := t1.trans ts (fun j _ r => by rw [r]; rfl)
    have I2 : InBox (wr.setCells g (i * 13) (inA X).toList) w.heap.size X := (ts.block w.heap.size (heap_lt I1) (fun e => hgw e.symm)).trans I1
    have e1 := InLoad.row I1 rfl
    have e2 := InStore.mid (cs := inA X) th rfl (inA_one _)
    clear o1 t1 I1 th hll
    go_wp2_with fail
    exact ⟨⟨i + 1, by omega, rfl, o2, t2, I2⟩, by simp [intOf]; omega⟩
  · obtain rfl : i = n := by omega
    rw [List.drop_eq_nil_of_le (by rw [HXL.out]; exact Nat.le_refl _), List.append_nil] at o1
    have g0 : ∀ b, (Value.slice va i vc).ownBlock = some b → (Value.slice va i vc).ownBlock = some b ∨ w.heap.size ≤ b := fun b hb => Or.inl hb
    have e1 := InLoad.row I1 rfl
    obtain ⟨W0, hW0⟩ : ∃ W0, W0 = wr := ⟨wr, rfl⟩
    subst hW0
    go_wp2_with fail
    clear e1
    go_loopw [6, 7] (fun gv u wr => ∃ r : Nat, r ≤ 70 ∧ u = .int .i64 r ∧ wr.ownsRow 0 38 13 gv (i + r) (mrk (i + r) X) ∧ wr.ownsRow 0 38 13 (.slice va i vc) i (mrk i X) ∧ Turns (fun j => (Value.slice va i vc).ownBlock = some j) w wr ∧ InBox wr w.heap.size X ∧ Hid (∀ b, gv.ownBlock = some b → (Value.slice va i vc).ownBlock = some b ∨ w.heap.size < b)) (fun _ u _ => 71 - (intOf u).toNat)
    case atStart => exact ⟨0, Nat.zero_le _, rfl, o1, o1, t1, I1, fun b hb => Or.inl hb⟩
    case round =>
    clear o1 t1 I1
    obtain ⟨r, hr, rfl, o3, p3, t3, I3, gb⟩ := hrel
    obtain ⟨ga, gc, hgv⟩ := own_slice9 o3
    subst hgv
    by_cases hr6 : r < 70
    · have a1 : (r : Int) < 70 := by omega
      obtain ⟨W4, hW4⟩ : ∃ W4, W4 = wr := ⟨wr, rfl⟩
      subst hW4
      have e1 := InLoad.row I3 rfl
      have hs13 := inA_size X
      have hvB : (Value.slice va i vc).ownBlock ≠ some w.heap.size := fun e => by have := own_lt9 HV.out e; omega
      have gw : ∀ b, (Value.slice ga (i + r) gc).ownBlock = some b → (Value.slice va i vc).ownBlock = some b ∨ w.heap.size ≤ b := fun b hb => (gb.out b hb).imp id (fun q => Nat.le_of_lt q)
      have hIl := heap_lt I3
      go_wp2_with (at_builtin; refine wpList_append_own_split _ rfl _ _ 27 rfl 0 38 i0 (.agg #[.int .i64 0, .int .i64 0, .int .i64 0, .int .i64 0, .int .i64 0, .int .i64 0, .int .i64 0, .int .i64 0, .int .i64 0, .int .i64 0, .int .i64 0, .int .i64 0, .int .i64 0]) 13 104 Tryz.underlying27 hi hz0 hz1 hz2 rfl (by decide) _ (i + r) _ rfl (World.ownsRow.alloc o3 _) ⟨W4.heap.size, 0, none⟩ 1 1 (inA X).toList (by decide) rfl rfl (World.news_of_block (heap_alloc_last W4 _)) (by intro u hu; exact (Array.all_eq_true_iff_forall_mem.1 (inA_one X)) u (by simpa using hu)) (by unfold maxLen; omega) (by omega) (Nat.zero_le _) ?_; intro v5 w5 o5 l5; rw [mrk_succ] at o5; have p5 := own_after9 (World.ownsRow.alloc p3 _) (World.ownsRow.alloc o3 _) o5 l5 (by omega); have s5 := Laid.step9 gw t3 l5; have I5 := Laid.box9 hIl hvB gb.out l5; clear l5)
      have H5 : Hid (∀ b, v5.ownBlock = some b → (Value.slice va i vc).ownBlock = some b ∨ w.heap.size < b) := I5.2
      have J5 : InBox w5 w.heap.size X := I5.1.trans I3
      have T5 := s5.1
      clear o3 p3 t3 gb s5 I5 e1 gw
      exact ⟨⟨r + 1, by omega, rfl, o5, p5, T5, J5, H5⟩, by simp [intOf]; omega⟩
    · obtain rfl : r = 70 := by omega
      obtain ⟨W6, hW6⟩ : ∃ W6, W6 = wr := ⟨wr, rfl⟩
      subst hW6
      have L6 : W6.ownsRow 0 27 1 (.slice La M Lc) M (es.map (·.1)) := by
        have := own_turns HH.out.row t3 (fun b hb e => HvD.out b e (HH.out.dr b hb))
        rw [HLv.out, HM.out] at this; exact this
      have bx6 : W6.heap[bb]? = some (.cells #[.slice La M Lc] 34 (0, 0)) := by
        have := (t3.block bb hbl (fun e => HvD.out bb e HH.out.db)).trans HH.out.box
        rw [HLv.out, HM.out] at this; exact this
      have d0 : W6.cell? ⟨bb, 0, none⟩ = some (.slice La M Lc) := by simp [World.cell?, bx6]
      have hbk : (Value.slice La M Lc).ownBlock ≠ some bb := own_typeJ L6 bx6 (by decide)
      clear I3
      go_wp2_with (at_builtin; refine wpList_append_own_split _ rfl _ _ 32 rfl 0 27 j0 (.slice none 0 0) 1 24 Tryz.underlying32 ji jz0 jz1 jz2 rfl (by decide) _ M _ rfl (World.ownsRow.alloc L6 _) ⟨W6.heap.size, 0, none⟩ 2 2 [.slice va i vc, .slice ga (i + 70) gc] (by decide) rfl rfl (cells_2I _ _ _ _) (by intro u hu; simp at hu; rcases hu with rfl | rfl <;> rfl) (by unfold maxLen; omega) (by omega) (Nat.zero_le _) ?_; intro v7 w7 o7 l7; have e7 := l7.turns9; have T7 := (Turns.alloc _ W6 _).trans e7.1 (fun _ _ e => e); have n7 : ∀ b, v7.ownBlock = some b → (Value.slice La M Lc).ownBlock = some b ∨ W6.heap.size ≤ b := (fun b hb => (by { rcases e7.2 b hb with e | e; · { exact Or.inl e }; · { right; simp at e; omega } })); have bx7 := (T7.block bb (heap_lt bx6) hbk).trans bx6; have k7 : w7.cell? ⟨bb, 0, none⟩ = some (.slice La M Lc) := (by simp [World.cell?, bx7]); have f7 : w7.frozen? ⟨bb, 0, none⟩ = false := (by simp [World.frozen?, bx7]); obtain ⟨La7, Lc7, hL7⟩ := own_slice9 o7; subst hL7; clear l7 e7)
      have gw : ∀ b, (Value.slice ga (i + 70) gc).ownBlock = some b → (Value.slice va i vc).ownBlock = some b ∨ w.heap.size ≤ b := fun b hb => (gb.out b hb).imp id (fun q => Nat.le_of_lt q)
      have hXq : X = mrkI (-1 - (q : Nat)) := by rw [← HX.out, ← Ha.out]
      have K := mk_kept (h := HH.out) (q := q) (n := i) (v := .slice va i vc) (g := .slice ga (i + 70) gc) (L' := .slice La7 (M + 2) Lc7) (by rw [HM.out]; exact HQ.out) (by rw [HM.out]; exact hes) hn HvD.out t3 (by rw [← hXq]; exact p3) (by rw [← hXq]; exact o3) gw (by rw [HLv.out, HM.out]; exact T7) (by rw [HM.out]; exact o7) (by rw [HLv.out, HM.out]; exact n7)
      first | go_end0 | refine bodyPost_ret (results_none rfl _ _ _) rfl ?_
      exact ⟨rfl, K⟩
end Go.Proofs.YtlcjkbhcbiggcaaGreatDoor
