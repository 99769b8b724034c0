/- The document's own net: Take, Drop. -/
import Derived.Test.YtpbanjgjljdepaaD2
namespace Go.Proofs.Ytpbanjgjljdepaa
open Go.RowKit Go.Maps
set_option maxRecDepth 100000
variable {w w' : World} {lab lab' : Nat → Nat} {k j xb : Nat} {v : Value} {last : Int} {es : List En} {F : Nat → Prop} {S : St}

theorem erase_les {no : Int} : ∀ {es : List En} {i : Nat} {e : En}, es.Pairwise (fun a b => a.no < b.no) → es[i]? = some e → e.no = no → es.eraseIdx i = les es no
  | [], _, _, _, h, _ => by simp at h
  | x :: es, 0, e, hr, h, hno => by
    simp at h; subst h
    obtain ⟨p1, _⟩ := List.pairwise_cons.1 hr
    have h1 : les (x :: es) no = les es no := by simp [les, hno]
    rw [h1]
    exact (List.filter_eq_self.2 fun y hy => by have := p1 y hy; simp; omega).symm
  | x :: es, i + 1, e, hr, h, hno => by
    obtain ⟨p1, p2⟩ := List.pairwise_cons.1 hr
    have h' : es[i]? = some e := by simpa using h
    have hx := p1 e (List.mem_of_getElem? h')
    have h1 : les (x :: es) no = x :: les es no := by
      have : x.no ≠ no := by omega
      simp [les, this]
    rw [h1, List.eraseIdx_cons_succ, erase_les p2 h' hno]
theorem erase_take {α : Type} (es : List α) (i t : Nat) (e : α) (he : es[t]? = some e) : (es.take (t + 1)).eraseIdx i = (es.take t).eraseIdx i ++ (if t = i then [] else [e]) := by
  have hl := (List.getElem?_eq_some_iff.1 he).1
  have h1 : es.take (t + 1) = es.take t ++ [e] := by rw [List.take_add_one, he]; rfl
  rw [h1]
  by_cases q : i < t
  · rw [List.eraseIdx_append_of_lt_length (by rw [List.length_take]; omega), if_neg (by omega)]
  · have e1 : (es.take t).eraseIdx i = es.take t := List.eraseIdx_of_length_le (by rw [List.length_take]; omega)
    rw [List.eraseIdx_append_of_length_le (by rw [List.length_take]; omega), List.length_take, Nat.min_eq_left (by omega), e1]
    by_cases r : t = i
    · rw [if_pos r, r, Nat.sub_self]; rfl
    · rw [if_neg r, List.eraseIdx_of_length_le (by simp; omega)]
/-- One is taken out. -/
theorem DnX.took (h : DnX w lab k xb v last es) {no : Int} {e : En} (he : fnd es no = some e) {u : Value} (t : Turns (fun i => i = xb) w w') (hb : w'.heap[xb]? = some (.cells #[u, .int .i64 last] 83 (0, 0))) (hr : w'.ownsRow w.heap.size 42 3 u (les es no).length ((les es no).flatMap flC)) (j : Nat) :
    DnX w' (tl lab w k j e.v) k xb u last (les es no) ∧ Da w' (tl lab w k j e.v) j e.d e.v := by
  obtain ⟨hmem, hno⟩ := fnd_mem he
  have hd := h.row.en.da e hmem
  have hxe : e.v.ownBlock ≠ some xb := hd.ne_cells h.box (by decide)
  have hne : ∀ x ∈ les es no, ∀ b, x.v.ownBlock = some b → e.v.ownBlock ≠ some b := fun x hx b hb q => by
    have h1 := List.mem_filter.1 hx
    exact Ens.sep_at h.row.en.sep hmem h1.1 (by have := h1.2; simp at this; omega) b q hb
  refine ⟨⟨hb, ⟨ownsRow_mono hr (Nat.zero_le _), ⟨fun x hx => ?_, h.row.en.sep.sublist (les_sub es no)⟩, fun b q => ?_⟩, ?_⟩, ?_⟩
  · have hx1 := h.row.en.da x ((les_sub es no).subset hx)
    exact ⟨own_turns hx1.own t (fun b hb2 q => hx1.ne_cells h.box (by decide) (by rw [← q]; exact hb2)), fun b hb => by rw [tl_off (hne x hx b hb), rl_old (hx1.lt b hb)]; exact hx1.lb b hb, hx1.len⟩
  · have h1 := own_ge hr q
    rw [tl_off (fun r => by have := hd.lt b r; omega)]
    exact rl_new h1
  · rw [tl_off hxe, rl_old (heap_lt h.box)]; exact h.lx
  · exact ⟨own_turns hd.own t (fun b hb2 q => hxe (by rw [← q]; exact hb2)), fun b hb => tl_at hb, hd.len⟩
set_option maxHeartbeats 4000000 in
theorem dtake_ok (h : DnX w lab k xb v last es) (hf : es.length ≤ 4096) (hr : es.Pairwise (fun a b => a.no < b.no)) {no : Int} {e : En} (he : fnd es no = some e) (j : Nat) :
    Calls Try.prog 22 #[.pointer (some ⟨xb, 0, none⟩), .int .i64 no] w fun en w' => en = .returned (.tuple #[.agg #[.int .i64 e.to, e.v], .int .i64 0]) ∧ (∃ u, DnX w' (tl lab w k j e.v) k xb u last (les es no)) ∧ Da w' (tl lab w k j e.v) j e.d e.v ∧ Turns (fun i => lab i = k) w w' := by
  obtain ⟨i0, hi, hz0, hz1, hz2⟩ := info_parts Try.infoFL
  obtain ⟨i, hat, hpre⟩ := fnd_at he
  have hno := (fnd_mem he).2
  obtain ⟨n, hn⟩ : ∃ n, es.length = n := ⟨_, rfl⟩
  obtain ⟨g, cv, hv, x0, x1, x2⟩ := h.row.at hat
  have hil := (List.getElem?_eq_some_iff.1 hat).1
  rw [hn] at hv hf hil
  subst hv
  obtain ⟨W1, hW1⟩ : ∃ W, w.alloc (.cells #[.int .i64 0, .slice none 0 0] 28) = W := ⟨_, rfl⟩
  have z1 : W1.heap[w.heap.size]? = some (.cells #[.int .i64 0, .slice none 0 0] 28) := by rw [← hW1]; exact heap_alloc_new w _
  have b1 : Below w.heap.size w W1 := by rw [← hW1]; exact (Below.refl _ w).alloc (Nat.le_refl _) _
  have s1 : W1.heap.size = w.heap.size + 1 := by rw [← hW1]; simp
  have h1 := h.below b1 (lab' := lab) (fun _ _ q => q)
  have c0 := h1.c0
  have hA := at_some h1 (by rw [hn]; exact hf) hat hno hpre
  have y0 := cell_later b1 x0
  have y1 := cell_later b1 x1
  have y2 := cell_later b1 x2
  have HE : Hid (fnd es no = some e) := he
  have HAt : Hid (es[i]? = some e) := hat
  obtain ⟨eno, eto, ed, ev⟩ := e
  obtain ⟨ao, cc, hev⟩ := (h.row.en.da _ (fnd_mem he).1).slice
  change ev = .slice ao ed.length cc at hev
  obtain ⟨m, hm⟩ : ∃ m, ed.length = m := ⟨_, rfl⟩
  rw [hm] at hev
  subst hev
  simp only at x0 x1 x2 y0 y1 y2 hno
  obtain ⟨W2, hW2⟩ : ∃ W, W1.alloc (.cells #[.int .i64 eno, .int .i64 eto, .slice ao m cc] 42) = W := ⟨_, rfl⟩
  have z2 : W2.heap[W1.heap.size]? = some (.cells #[.int .i64 eno, .int .i64 eto, .slice ao m cc] 42) := by rw [← hW2]; exact heap_alloc_new W1 _
  have b2 : Below W1.heap.size W1 W2 := by rw [← hW2]; exact (Below.refl _ W1).alloc (Nat.le_refl _) _
  have q1 : W2.heap[w.heap.size]? = some (.cells #[.int .i64 0, .slice none 0 0] 28) := (b2.block _ (by omega)).trans z1
  have hb2 : Below w.heap.size w W2 := b1.trans (b2.mono b1.size)
  have HB2 : Hid (Below w.heap.size w W2) := hb2
  have HN : Hid (es.length = n) := hn
  have HH : Hid (DnX w lab k xb (.slice (some ⟨g, 0, none⟩) n cv) last es) := h
  have HR : Hid (es.Pairwise (fun a b => a.no < b.no)) := hr
  have HS1 : Hid (W1.heap.size = w.heap.size + 1) := s1
  have HZ2 : Hid (W2.heap[W1.heap.size]? = some (.cells #[.int .i64 eno, .int .i64 eto, .slice ao m cc] 42)) := z2
  have HQ1 : Hid (W2.heap[w.heap.size]? = some (.cells #[.int .i64 0, .slice none 0 0] 28)) := q1
  have HNo : Hid (eno = no) := hno
  have HS : Hid (W2.heap.size = w.heap.size + 2) := by show _ = _; rw [← hW2]; simp [s1]
  have hni : (n : Int) ≤ 4096 := by omega
  have hii : (i : Int) < n := by omega
  clear h h1 he hat hpre hn hr b1 b2 z1 z2 q1 hb2 hm x0 x1 x2 hno s1
  go_enter Try.func22, Try.ntmps22
  go_wp2_with fail
  refine hA.mono ?_
  rintro en w3 ⟨rfl, hw3⟩
  subst w3
  go_wp2_with fail
  go_loopw [8, 9] (fun u ii wr => ∃ t : Nat, t ≤ n ∧ ii = .int .i64 t ∧ wr.ownsRow W2.heap.size 42 3 u ((es.take t).eraseIdx i).length (((es.take t).eraseIdx i).flatMap flC) ∧ Below W2.heap.size W2 wr) (fun _ ii _ => n - (intOf ii).toNat)
  case atStart => exact ⟨0, Nat.zero_le _, rfl, by simpa using World.ownsRow_nil _ _ _ _, Below.refl _ _⟩
  case round =>
    obtain ⟨t, ht, rfl, hrow, hB⟩ := hrel
    have hsW : w.heap.size ≤ W2.heap.size := HB2.out.size
    have bB : Below w.heap.size w wr := HB2.out.trans (hB.mono hsW)
    have hr' := HH.out.below bB (lab' := lab) (fun _ _ q => q)
    have d0 := hr'.c0
    by_cases htn : t < n
    · have hti : (t : Int) < n := by omega
      obtain ⟨y, hy⟩ : ∃ y, es[t]? = some y := ⟨_, List.getElem?_eq_getElem (by rw [HN.out]; exact htn)⟩
      obtain ⟨g', c', hv', p0, p1, p2⟩ := hr'.row.at hy
      obtain ⟨rfl, rfl⟩ : g = g' ∧ cv = c' := by cases hv'; exact ⟨rfl, rfl⟩
      have het := erase_take es i t y hy
      by_cases hti2 : t = i
      · subst hti2
        rw [if_pos rfl, List.append_nil] at het
        have HRow : Hid (wr.ownsRow W2.heap.size 42 3 u8 ((es.take (t + 1)).eraseIdx t).length (((es.take (t + 1)).eraseIdx t).flatMap flC)) := by rw [het]; exact hrow
        clear hr' hrow het hv' hy
        go_wp2_with fail
        go_roundw
        case rel => exact ⟨t + 1, by omega, by go_num, HRow.out, hB⟩
        case measure => simp [intOf]; omega
      · rw [if_neg hti2] at het
        have hne : ((t : Int) != (i : Int)) = true := by simp; omega
        have hne2 : ¬ (t : Int) = (i : Int) := by omega
        have hyd := (hr'.row.en.da y (List.mem_of_getElem? hy)).slice
        obtain ⟨yno, yto, yd, yv⟩ := y
        obtain ⟨ya, yc, hyv⟩ := hyd
        change yv = .slice ya yd.length yc at hyv
        obtain ⟨yn, hyn⟩ : ∃ yn, yd.length = yn := ⟨_, rfl⟩
        rw [hyn] at hyv
        subst hyv
        simp only at p0 p1 p2
        obtain ⟨q, hq⟩ : ∃ q, ((es.take t).eraseIdx i).length = q := ⟨_, rfl⟩
        have hqn : q ≤ n := by
          have := List.length_eraseIdx_le (l := es.take t) (i := i)
          rw [List.length_take] at this; omega
        rw [hq] at hrow
        obtain ⟨au, cu, hu⟩ := own_slice hrow
        subst hu
        have hnews : ∀ (i : Nat) (u : Value), ([.int .i64 yno, .int .i64 yto, .slice ya yn yc] : List Value)[i]? = some u → (wr.alloc (.cells #[.int .i64 yno, .int .i64 yto, .slice ya yn yc] 42)).cell? ((⟨wr.heap.size, 0, none⟩ : Addr).add i) = some u := World.news_of_block (heap_alloc_new _ _)
        have HET : Hid ((es.take (t + 1)).eraseIdx i = (es.take t).eraseIdx i ++ [⟨yno, yto, yd, .slice ya yn yc⟩]) := het
        have HQ : Hid (((es.take t).eraseIdx i).length = q) := hq
        have hBs := hB.size
        clear hr' het hv' hy hyn hq hti2
        go_wp2_with (at_builtin; refine wpList_append_own_at _ rfl _ _ 34 rfl W2.heap.size 42 i0 (.agg #[.int .i64 0, .int .i64 0, .slice none 0 0]) 3 40 Try.underlying34 hi hz0 hz1 hz2 rfl (by decide) _ q _ rfl (World.ownsRow.alloc hrow _) ⟨wr.heap.size, 0, none⟩ 1 1 [.int .i64 yno, .int .i64 yto, .slice ya yn yc] rfl rfl hnews (by intro u hu; simp at hu; rcases hu with rfl | rfl | rfl <;> rfl) (by unfold maxLen; omega) (by omega) (by simp; omega) ?_; intro v5 w5 hv5 hg5 hn5 hb5)
        have HV5 : Hid (w5.ownsRow W2.heap.size 42 3 v5 ((es.take (t + 1)).eraseIdx i).length (((es.take (t + 1)).eraseIdx i).flatMap flC)) := by
          rw [HET.out, List.length_append, HQ.out, List.flatMap_append]; exact hv5
        have hB5 : Below W2.heap.size W2 w5 := (hB.alloc hBs _).grown hg5 (by simp; omega) (fun b e => own_ge hrow e)
        clear hv5 hg5 hn5 hb5 hrow hnews
        go_wp2_with fail
        go_roundw
        case rel => exact ⟨t + 1, by omega, by go_num, HV5.out, hB5⟩
        case measure => simp [intOf]; omega
    · obtain rfl : t = n := by omega
      have hL : (es.take t).eraseIdx i = les es no := by
        rw [List.take_of_length_le (by rw [HN.out]; exact Nat.le_refl _)]
        exact erase_les HR.out HAt.out HNo.out
      rw [hL] at hrow
      obtain ⟨q, hq⟩ : ∃ q, (les es no).length = q := ⟨_, rfl⟩
      rw [hq] at hrow
      obtain ⟨au, cu, hu⟩ := own_slice hrow
      subst hu
      have z2 := (hB.block _ (heap_lt HZ2.out)).trans HZ2.out
      have q1 := (hB.block _ (heap_lt HQ1.out)).trans HQ1.out
      have fz := hr'.fz
      have bx := hr'.box
      obtain ⟨W5, hW5⟩ : ∃ W, wr.setCell ⟨xb, 0, none⟩ (.slice au q cu) = W := ⟨_, rfl⟩
      have x5 : W5.heap[xb]? = some (.cells #[.slice au q cu, .int .i64 last] 83 (0, 0)) := by rw [← hW5]; exact heap_setCell_same _ _ _ _ _ _ bx
      have u5 : Turns (fun i => i = xb) wr W5 := by rw [← hW5]; exact Turns.cell wr xb 0 _
      have hxl := heap_lt HH.out.box
      have z5 := (u5.block _ (heap_lt z2) (by have := HS1.out; omega)).trans z2
      have q5 := (u5.block _ (heap_lt q1) (by omega)).trans q1
      have k1 : W5.cell? ⟨W1.heap.size, 1, none⟩ = some (.int .i64 eto) := by simp [World.cell?, z5]
      have k2 : W5.cell? ⟨W1.heap.size, 2, none⟩ = some (.slice ao m cc) := by simp [World.cell?, z5]
      have p0 : W5.cell? ⟨w.heap.size, 0, none⟩ = some (.int .i64 0) := by simp [World.cell?, q5]
      have p1 : W5.cell? ⟨w.heap.size, 1, none⟩ = some (.slice none 0 0) := by simp [World.cell?, q5]
      have fp : ∀ i, W5.frozen? ⟨w.heap.size, i, none⟩ = false := fun i => by simp [World.frozen?, q5]
      have hR5 := own_turns hrow u5 (fun b hb e => own_typ hrow bx (by decide) (by rw [← e]; exact hb))
      have hT5 : Turns (fun i => i = xb) w W5 := (Below.turns bB _).trans u5 (fun _ _ q => q)
      have HR5 : Hid (W5.ownsRow W2.heap.size 42 3 (.slice au q cu) q ((les es no).flatMap flC)) := hR5
      have HT5 : Hid (Turns (fun i => i = xb) w W5) := hT5
      have HX5 : Hid (W5.heap[xb]? = some (.cells #[.slice au q cu, .int .i64 last] 83 (0, 0))) := x5
      have HQL : Hid ((les es no).length = q) := hq
      have HQ5 : Hid (W5.heap[w.heap.size]? = some (.cells #[.int .i64 0, .slice none 0 0] 28)) := q5
      clear hrow hB bB hr' z2 q1 bx x5 u5 z5 q5 hR5 hT5 hL hq
      go_wp2_with fail
      obtain ⟨W6, hW6⟩ : ∃ W, (W5.setCell ⟨w.heap.size, 0, none⟩ (.int .i64 eto)).setCell ⟨w.heap.size, 1, none⟩ (.slice ao m cc) = W := ⟨_, rfl⟩
      rw [hW6]
      have y6 : W6.heap[w.heap.size]? = some (.cells #[.int .i64 eto, .slice ao m cc] 28) := by rw [← hW6]; exact heap_setCell_same _ _ _ _ _ _ (heap_setCell_same _ _ _ _ _ _ HQ5.out)
      have u6 : Turns (fun i => i = w.heap.size) W5 W6 := by rw [← hW6]; exact (Turns.cell W5 w.heap.size 0 _).trans (Turns.cell _ w.heap.size 1 _) (fun _ _ q => q)
      have g0 : W6.cell? ⟨w.heap.size, 0, none⟩ = some (.int .i64 eto) := by simp [World.cell?, y6]
      have g1 : W6.cell? ⟨w.heap.size, 1, none⟩ = some (.slice ao m cc) := by simp [World.cell?, y6]
      have T6 : Turns (fun i => i = xb) w W6 := HT5.out.trans u6 (fun i hi e => by omega)
      have X6 := (u6.block xb (heap_lt HX5.out) (by omega)).trans HX5.out
      have R6 := own_turns HR5.out u6 (fun b hb e => by have := own_ge HR5.out hb; have := HS.out; omega)
      have hF := HH.out.took HE.out T6 X6 (u := .slice au q cu) (by rw [HQL.out]; exact ownsRow_mono R6 hsW) j
      have HU : Turns (fun i => lab i = k) w W6 := T6.mono (fun i _ q => by rw [q]; exact HH.out.lx)
      exact bodyPost_ret (v := .tuple #[.agg #[.int .i64 eto, .slice ao m cc], .int .i64 0]) (by simp [results, Try.results22, go_sem, g0, g1]) rfl ⟨rfl, ⟨_, hF.1⟩, hF.2, HU⟩
end Go.Proofs.Ytpbanjgjljdepaa
