/- The book: takes. -/
import Derived.Test.YtlcjkbhcbiggcaaGreatDoorBM
namespace Go.Proofs.YtlcjkbhcbiggcaaGreatDoor
open Go.RowKit Go.Maps
set_option maxRecDepth 100000

attribute [local go_sem ↓ 100000] in_store in_load d8_load
attribute [local go_sem] InStore.newI build_in build_in2
set_option maxHeartbeats 8000000 in
theorem takes_any {w0 w : World} {wb N kb : Nat} {c : Kc} {i : Nat} {ks : List Nat} {m : Nat} {T : Nat → Rec} {L : List Ino} {G : List Int} {F : Nat → Prop} {v : Nat → List Int} {lv gv : Value} (h : Sk w0 w wb N kb c i ks m T L G F v lv gv) (k : Int) (hsq : (c.seq : Int) ≤ 4611686018427387904) (hks : ks.length < 24) (hm : m ≤ 1000000) (hG : G.length ≤ 1000) :
    Calls Tryz.prog 26 #[.pointer (some ⟨kb, 0, none⟩), .pointer (some ⟨wb, 0, none⟩), .int .i64 k] w fun e w' => e = .returned (.bool true) ∧ SkR w0 w w' wb N kb c i ks m T G F lv gv := by
  have hN := h.st.n2
  have hgen := h.ok.gen
  obtain ⟨i0, hi, hy0, hy1, hy2⟩ := infoI_parts
  obtain ⟨i3, hi3, hx0, hx1, hx2⟩ := info_parts Tryz.info3
  go_enter Tryz.func26, Tryz.ntmps26
  go_wp2_with fail
  refine (news9_any h.st k hsq (fun _ _ _ _ => Or.inr hks) hm).mono ?_
  rintro e w1 ⟨x, q, o, rfl, HO, z1⟩
  have hcan : ∀ n, n < N → canT (T n) = false → (T n).kind ≠ 0 := fun n hn hc hk => by
    have := hgen n hn
    have : canT (T n) = true := by simp [canT, hk]; omega
    rw [hc] at this
    cases this
  have X2 : InBox (w1.alloc (.cells (inA x) 38)) w1.heap.size x := heap_alloc_last w1 _
  have b2 : Below w1.heap.size w1 (w1.alloc (.cells (inA x) 38)) := (Below.refl _ w1).alloc (Nat.le_refl _) _
  obtain ⟨W2, hW2⟩ : ∃ W, w1.alloc (.cells (inA x) 38) = W := ⟨_, rfl⟩
  rw [hW2] at X2 b2
  rcases HO.out with ⟨ho, hx, ⟨hq, hk⟩ | ⟨hq, hk, hfull⟩⟩ | ⟨n, hk, hn, hc, hb, ho, hx, hq⟩
  · clear HO
    subst ho hq
    have c0 : W2.cell? ⟨w1.heap.size, 0, none⟩ = some (.int .i64 0) := by have := X2.cells.c0; rwa [hx] at this
    have kd1 : (k != 1) = true := by simpa using fun e : k = 1 => by simp [kindB, e] at hk
    have kd2 : (k != 2) = true := by simpa using fun e : k = 2 => by simp [kindB, e] at hk
    clear hk hx
    go_wp2_with fail
    go_ret
    exact ⟨rfl, h.same z1 b2⟩
  · clear HO
    subst ho hq
    have k12 : k = 1 ∨ k = 2 := by simpa [kindB] using hk
    have S2 := h.same z1 (Below.drew b2)
    obtain ⟨F1, v1, s1, bo1, nF1, t1, f1⟩ := h.stepO (o := none) (fun _ _ q => by cases q) z1
    have s2 := s1.below b2
    have bo2 := bo1.below b2
    have B2 := s2.B.cells
    have c16 : W2.cell? ⟨wb, 16, none⟩ = some (.int .i64 (N : Nat)) := by have := B2.c16; rwa [h.st.geo.ino] at this
    have l0 := bo2.c0
    have HS : Hid (SkR w0 w W2.drew wb N kb c i ks m T G F lv gv) := S2
    have HF : Hid (∀ s, LwR L N s → s = N) := fun s hs => by
      have := h.ok.low hs
      apply Classical.byContradiction
      intro hne
      have hlt : s < N := by omega
      exact hcan s hlt (hfull s hlt) (this.2.2 hlt)
    have hln : L.length ≤ 100000 := by have := h.ok.len; omega
    have hpos := h.ok.pos
    have lo2 := bo2.lo
    clear S2 hx hfull hk hcan
    rcases k12 with rfl | rfl
    all_goals
      go_wp2_with fail
      go_region_law ((go_simp; go_at_call 58; refine (lowest_any lo2.drew hln hpos N hN).mono ?_; rintro e w3 ⟨s, rfl, hw3, HL⟩; have hsN := HF.out s HL.out; subst hw3 hsN; dsimp only))
      all_goals go_wp2_with fail
      all_goals go_ret
      all_goals exact ⟨rfl, HS.out⟩
  · clear HO
    subst hq
    have k12 : k = 1 ∨ k = 2 := by simpa [kindB] using hk
    have hgn := hgen n hn
    have hk0 : (T n).kind = 0 := by simp [canT] at hc; exact hc.1
    have hk2 : k ≠ 0 := by rcases k12 with rfl | rfl <;> decide
    have hit : Rit (lay9 N) (recOf ((T n).gen + 1) (inoN ((T n).gen + 1) n k c.seq)) := rit_new (by omega) (by omega) hk hsq
    obtain ⟨F1, v1, s1, bo1, nF1, t1, f1⟩ := h.stepO (fun a r e => by rw [ho] at e; cases e; exact ⟨hn, hit⟩) z1
    have s2 := s1.below b2
    have bo2 := bo1.below b2
    have c16 : W2.cell? ⟨wb, 16, none⟩ = some (.int .i64 (N : Nat)) := by have := s2.B.cells.c16; rwa [h.st.geo.ino] at this
    have l0 := bo2.c0
    have hbk : ∀ j, j < n → (T j).kind ≠ 0 := fun j hj => hcan j (by omega) (hb j hj)
    have HF : Hid (∀ s, LwR L N s → s = n) := fun s hs => by
      have q := h.ok.low hs
      apply Classical.byContradiction
      intro hne
      by_cases hlt : s < n
      · exact hbk s hlt (q.2.2 (by omega))
      · exact q.2.1 n (by omega) hk0
    have HB := h.ok.new hn hk0 k c.seq hk2
    have hfr := h.ok.fresh hn
    rw [← hx] at HB
    have hid : x.id = ((T n).gen + 1) * 256 + (n : Int) := by rw [hx]; rfl
    obtain ⟨id, hide⟩ : ∃ id, ((T n).gen + 1) * 256 + (n : Int) = id := ⟨_, rfl⟩
    have hlo : 256 ≤ id ∧ id ≤ 1000000 := by omega
    have hmod : Int.tmod id 256 = (n : Nat) := by rw [Int.tmod_eq_emod_of_nonneg (by omega)]; omega
    rw [hide] at HB hfr hid
    have HK : Hid (Bok N (updT T o) (L ++ [x]) (G ++ [id])) := by show Bok _ _ _ _; rw [ho, ← hx]; exact HB
    have HO2 : Hid (∀ a r, o = some (a, r) → a < N ∧ ((T a).kind ≠ 0 ∨ ((G ++ [id]).length = G.length + 1 ∧ ∀ j, j < a → (T j).kind ≠ 0))) := fun a r e => by
      rw [ho] at e
      cases e
      exact ⟨hn, Or.inr ⟨by simp, hbk⟩⟩
    have hxk : x.kind = k ∧ x.size = 0 ∧ x.change = (c.seq : Nat) ∧ x.ind = 0 ∧ ∀ j, x.dir j = 0 := by rw [hx]; exact ⟨rfl, rfl, rfl, rfl, fun _ => rfl⟩
    have hln : L.length ≤ 100000 := by have := h.ok.len; omega
    have hpos := h.ok.pos
    have lo2 := bo2.lo
    have hnN : ((n : Int) == (N : Int)) = false := beq_eq_false_iff_ne.2 (by omega)
    have hGf : ∀ (j : Nat) (y : Int), G[j]? = some y → (y == id) = false := fun j y hy => beq_eq_false_iff_ne.2 (fun e => hfr (by rw [← e]; exact List.mem_of_getElem? hy))
    clear hk hcan hx ho HB hfr hide hb hbk hc hit hk0
    rcases k12 with rfl | rfl
    all_goals
      go_wp2_with fail
      go_region_law ((go_simp; go_at_call 58; refine (lowest_any lo2.drew hln hpos N hN).mono ?_; rintro e w3 ⟨s, rfl, hw3, HL⟩; have hsN := HF.out s HL.out; subst hw3 hsN; dsimp only))
      all_goals
        go_wp2_with fail
        go_loopw [10] (fun y wr => ∃ j : Nat, j ≤ G.length ∧ y = .int .i64 j ∧ Below W2.heap.size W2 wr) (fun y _ => G.length - (intOf y).toNat)
        case atStart => exact ⟨0, by omega, rfl, (Below.refl _ W2).drew⟩
        case round =>
          obtain ⟨j, hj, rfl, b3⟩ := hrel
          have bo3 := bo2.below b3
          obtain ⟨p, cap, hgv, hp⟩ := own_form bo3.go
          have g1 := bo3.c1
          by_cases hjG : j = G.length
          · subst hjG
            have X3 := X2.below b3
            have s3 := s2.below b3
            have t3 := s3.B.cells.c23
            subst hgv
            obtain ⟨x0, x1, x2, x3, x12, _, xd⟩ := X3.cells
            rw [hid] at x0
            rw [hxk.1] at x1
            rw [hxk.2.1] at x2
            rw [hxk.2.2.1] at x3
            rw [hxk.2.2.2.1] at x12
            have xd8 : wr.rangeAt w1.heap.size 4 (List.replicate 8 (.int .i64 0)) := by
              have e : ((List.range 8).map fun i => Value.int .i64 (x.dir i)) = List.replicate 8 (.int .i64 0) := by simp [List.range, List.range.loop, hxk.2.2.2.2]
              rwa [e] at xd
            have d8 := D8Load.mid xd8 rfl
            go_wp2_with fail
            refine (Tv.seq s3.tv).mono ?_
            rintro e w4 ⟨rfl, hw4⟩
            subst hw4
            have hlo1 : ¬ id < 256 := by omega
            have hEq := eq_d8
            have X3d := InLoad.row (w := w4.drew) X3 (inA_size _)
            have l0 := bo3.c0
            have l0b := (bo3.below ((Below.refl _ w4).alloc (Nat.le_refl _) (.cells (inA x) 38))).c0
            have lo3 := bo3.lo
            have hLl : L.length ≤ 256 := by have := h.ok.len; omega
            have hz0w : w0.heap.size ≤ w4.heap.size := by have := bo3.lt (Or.inl rfl); omega
            have bq : Below w4.heap.size w4 (w4.drew.alloc (.cells (inA x) 38)) := (Below.refl _ w4).drew.alloc (Nat.le_refl _) _
            have hs13 := inA_size x
            have b34 : Below w1.heap.size w1 w4 := b2.trans (b3.mono b2.size)
            go_wp2_with fail
            clear hEq d8
            go_region_law
              (refine step_append_lies _ rfl (.tmp 122) (.tmp 124) 27 rfl w0.heap.size 38 i0 (.agg #[.int .i64 0, .int .i64 0, .int .i64 0, .int .i64 0, .int .i64 0, .int .i64 0, .int .i64 0, .int .i64 0, .int .i64 0, .int .i64 0, .int .i64 0, .int .i64 0, .int .i64 0]) 13 104 Tryz.underlying27 hi hy0 hy1 hy2 rfl (by decide) lv L.length _ rfl (lo3.drew.alloc _) ⟨w4.heap.size, 0, none⟩ 1 1 (inA x).toList rfl rfl (World.news_of_block (heap_alloc_last w4.drew _)) (by intro u hu; exact (Array.all_eq_true_iff_forall_mem.1 (inA_one x)) u (by simpa using hu)) (by decide) (by unfold maxLen; omega) (by omega) (by simp; omega) _ rfl ?_; intro g5 c5 w5 o5 gr5 at5 lt5; have t5 : Turns (fun b => lv.ownBlock = some b) w4 w5 := (Below.turns bq _).trans (Turns.grown gr5 (fun b hb => hb)) (fun _ _ q => q); have bx5 := (t5.block kb (heap_lt bo3.box) (fun q => own_typeJ bo3.lo bo3.box (by decide) q)).trans bo3.box; have f5 : w5.cell? ⟨kb, 0, none⟩ = some lv := (by simp [World.cell?, bx5]); have fz5 : w5.frozen? ⟨kb, 0, none⟩ = false := (by simp [World.frozen?, bx5]))
            all_goals
              have bo6 : Bo (w5.setCell ⟨kb, 0, none⟩ (.slice (some ⟨g5, 0, none⟩) (L.length + 1) c5)) w0.heap.size kb (.slice (some ⟨g5, 0, none⟩) (L.length + 1) c5) (.slice p G.length cap) (L ++ [x]) G := bo3.setL t5 (fun _ q => q) (by rw [List.length_append, inLs_snoc]; exact o5)
              have t6 := bo3.turnsL (lv5 := .slice (some ⟨g5, 0, none⟩) (L.length + 1) c5) t5 0
              obtain ⟨W6, hW6⟩ : ∃ W, w5.setCell ⟨kb, 0, none⟩ (.slice (some ⟨g5, 0, none⟩) (L.length + 1) c5) = W := ⟨_, rfl⟩
              rw [hW6] at bo6 t6
              have nX : ¬ boS kb lv (.slice p G.length cap) w1.heap.size := fun q => (by have := (bo1.lt q).2; omega)
              have X6 : InBox W6 w1.heap.size x := (t6.block _ (heap_lt X3) nX).trans X3
              have y0 := X6.cells.c0
              rw [hid] at y0
              have y0b := (X6.below ((Below.refl _ W6).alloc (Nat.le_refl _) (.cells #[.int .i64 id] 3))).cells.c0
              have m1 := bo6.c1
              have m1b := (bo6.below ((Below.refl _ W6).alloc (Nat.le_refl _) (.cells #[.int .i64 id] 3))).c1
              have go6 := bo6.go
              have z6 := t6.size
              have hg5 : lv.ownBlock = some g5 ∨ w4.heap.size ≤ g5 := at5.imp (fun q => q) (fun q => by rw [q]; simp)
              clear l0 l0b f5 fz5 bx5 gr5 at5 X3d
              rw [hW6]
              go_wp2_with fail
              go_region_law
                (refine step_append_lies _ rfl (.tmp 132) (.tmp 135) 28 rfl w0.heap.size 3 i3 (.int .i64 0) 1 8 Tryz.underlying28 hi3 hx0 hx1 hx2 rfl (by decide) (.slice p G.length cap) G.length _ rfl (go6.drew.alloc _) ⟨W6.heap.size, 0, none⟩ 1 1 [.int .i64 id] rfl rfl (cell_one_new W6.drew _ _) (by intro u hu; simp at hu; subst hu; rfl) (by decide) (by unfold maxLen; omega) (by omega) (by simp; omega) _ rfl ?_; intro g7 c7 w7 o7 gr7 at7 lt7; have t7 : Turns (fun b => (Value.slice p G.length cap).ownBlock = some b) (w5.setCell ⟨kb, 0, none⟩ (.slice (some ⟨g5, 0, none⟩) (L.length + 1) c5)) w7 := hW6 ▸ show Turns (fun b => (Value.slice p G.length cap).ownBlock = some b) W6 w7 from (Below.turns ((Below.refl _ W6).drew.alloc (Nat.le_refl _) (.cells #[.int .i64 id] 3)) _).trans (Turns.grown gr7 (fun b hb => hb)) (fun _ _ q => q); have t7' : Turns (fun b => (Value.slice p G.length cap).ownBlock = some b) W6 w7 := hW6 ▸ t7; have bx7 := (t7'.block kb (heap_lt bo6.box) (fun q => own_typeJ bo6.go bo6.box (by decide) q)).trans bo6.box; have f7 : w7.cell? ⟨kb, 1, none⟩ = some (.slice p G.length cap) := (by simp [World.cell?, bx7]); have fz7 : w7.frozen? ⟨kb, 1, none⟩ = false := (by simp [World.frozen?, bx7]))
              all_goals
                have hg7 : (Value.slice p G.length cap).ownBlock = some g7 ∨ w4.heap.size ≤ g7 := at7.imp (fun q => q) (fun q => by rw [q]; simp; omega)
                have hR := h.grew s1 nF1 t1 f1 b34 bo3 t5 o5 hg5 t7 o7 hg7 HK.out HO2.out
                clear f7 fz7 bx7 gr7 at7 m1 m1b y0 y0b
                go_wp2_with fail
                go_ret
                exact ⟨rfl, hR⟩
          · have hlt : j < G.length := by omega
            have hlti : (j : Int) < (G.length : Int) := by omega
            obtain ⟨g, rfl⟩ := hp j hlt
            obtain ⟨y, hy⟩ : ∃ y, G[j]? = some y := ⟨_, List.getElem?_eq_getElem hlt⟩
            have hne := hGf j y hy
            subst hgv
            have gj : wr.cell? ⟨g, j, none⟩ = some (.int .i64 y) := by rw [bo3.go.cellAt j (by omega)]; simp [hy]
            have x0 : wr.cell? ⟨w1.heap.size, 0, none⟩ = some (.int .i64 id) := by have := (X2.below b3).cells.c0; rwa [hid] at this
            go_wp2_with fail
            go_region
            all_goals go_wp2_with fail
            all_goals exact ⟨⟨j + 1, by omega, rfl, b3.drew⟩, by simp [intOf]; omega⟩
end Go.Proofs.YtlcjkbhcbiggcaaGreatDoor
