/- The document's own net: Take, Drop, Copy, Flip, in the document's words. -/
import Derived.Test.YtpbanjgjljdepaaD3
namespace Go.Proofs.Ytpbanjgjljdepaa
open Go.RowKit Go.Maps
set_option maxRecDepth 100000
variable {w w' : World} {lab lab' : Nat → Nat} {k j xb : Nat} {v : Value} {last : Int} {es : List En} {F : Nat → Prop} {S : St}

set_option maxHeartbeats 2000000 in
theorem dtake_no (h : DnX w lab k xb v last es) (hf : es.length ≤ 4096) {no : Int} (he : fnd es no = none) :
    Calls Try.prog 22 #[.pointer (some ⟨xb, 0, none⟩), .int .i64 no] w fun en w' => en = .returned (.tuple #[.agg #[.int .i64 0, .slice none 0 0], .int .i64 201]) ∧ Below w.heap.size w w' := by
  obtain ⟨W1, hW1⟩ : ∃ W, w.alloc (.cells #[.int .i64 0, .slice none 0 0] 28) = W := ⟨_, rfl⟩
  have z1 : W1.heap[w.heap.size]? = some (.cells #[.int .i64 0, .slice none 0 0] 28) := by rw [← hW1]; exact heap_alloc_new w _
  have b1 : Below w.heap.size w W1 := by rw [← hW1]; exact (Below.refl _ w).alloc (Nat.le_refl _) _
  have hA := at_none (h.below b1 (lab' := lab) (fun _ _ q => q)) hf (fnd_no he)
  have q0 : W1.cell? ⟨w.heap.size, 0, none⟩ = some (.int .i64 0) := by simp [World.cell?, z1]
  have q1 : W1.cell? ⟨w.heap.size, 1, none⟩ = some (.slice none 0 0) := by simp [World.cell?, z1]
  have fz : ∀ i, W1.frozen? ⟨w.heap.size, i, none⟩ = false := fun i => by simp [World.frozen?, z1]
  obtain ⟨W4, hW4⟩ : ∃ W, (W1.setCell ⟨w.heap.size, 0, none⟩ (.int .i64 0)).setCell ⟨w.heap.size, 1, none⟩ (.slice none 0 0) = W := ⟨_, rfl⟩
  have y4 : W4.heap[w.heap.size]? = some (.cells #[.int .i64 0, .slice none 0 0] 28) := by rw [← hW4]; exact heap_setCell_same _ _ _ _ _ _ (heap_setCell_same _ _ _ _ _ _ z1)
  have u4 : Turns (fun i => i = w.heap.size) W1 W4 := by rw [← hW4]; exact (Turns.cell W1 w.heap.size 0 _).trans (Turns.cell _ w.heap.size 1 _) (fun _ _ q => q)
  have g0 : W4.cell? ⟨w.heap.size, 0, none⟩ = some (.int .i64 0) := by simp [World.cell?, y4]
  have g1 : W4.cell? ⟨w.heap.size, 1, none⟩ = some (.slice none 0 0) := by simp [World.cell?, y4]
  have HB : Hid (Below w.heap.size w W4) := b1.trans (u4.below (fun i q => (by omega : w.heap.size ≤ i)) b1.size)
  clear h b1 he u4 y4 z1
  go_enter Try.func22, Try.ntmps22
  go_wp2_with fail
  refine hA.mono ?_
  rintro en w3 ⟨rfl, hw3⟩
  subst w3
  go_wp2_with fail
  exact bodyPost_ret (v := .tuple #[.agg #[.int .i64 0, .slice none 0 0], .int .i64 201]) (by simp [results, Try.results22, go_sem, g0, g1]) rfl ⟨rfl, HB.out⟩
theorem Dn.find (_h : DnX w lab k xb v S.last es) (hl : es.map En.fl = S.l) (no : Int) : findS S no = (fnd es no).map En.fl := by
  have := find_fnd S.last no es
  rw [hl] at this; exact this
theorem ok_ris (ok : S.Ok) (hl : es.map En.fl = S.l) : es.Pairwise (fun a b => a.no < b.no) := by
  have := ok.ris; rw [← hl, List.pairwise_map] at this; exact this
theorem ok_few (ok : S.Ok) (hl : es.map En.fl = S.l) : es.length ≤ 4096 := by
  have := ok.few; rw [← hl, List.length_map] at this; exact this
theorem dtakeN (h : Dn w lab k xb S) (no : Int) (j : Nat) :
    Calls Try.prog 22 #[.pointer (some ⟨xb, 0, none⟩), .int .i64 no] w fun en w' => ∃ v, en = .returned (.tuple #[.agg #[.int .i64 (takeT S no), v], .int .i64 (takeE S no)]) ∧ Dn w' (tl lab w k j v) k xb (takeS S no) ∧ Da w' (tl lab w k j v) j (takeD S no) v ∧ Turns (fun i => lab i = k) w w' ∧ ∀ b, v.ownBlock = some b → lab b = k ∧ b < w.heap.size := by
  obtain ⟨lv, es, h, hl, ok⟩ := h
  have hfd := Dn.find h hl no
  cases he : fnd es no with
  | none =>
    rw [he] at hfd
    obtain ⟨q1, q2, q3, q4, _⟩ := findS_none hfd
    rw [q1, q2, q3, q4]
    refine (dtake_no h (ok_few ok hl) he).mono ?_
    rintro e w' ⟨rfl, b⟩
    refine ⟨_, rfl, ?_, Da.nil _ _ _, Below.turns b _, fun b q => by cases q⟩
    rw [tl_nil]
    exact Dn.below ⟨lv, es, h, hl, ok⟩ b k
  | some e =>
    rw [he] at hfd
    obtain ⟨q1, q2, q3, _⟩ := findS_some hfd
    rw [q1, q2, q3]
    refine (dtake_ok h (ok_few ok hl) (ok_ris ok hl) he j).mono ?_
    rintro en w' ⟨rfl, ⟨u, h'⟩, d', t⟩
    have hd := h.row.en.da e (fnd_mem he).1
    refine ⟨_, rfl, ⟨u, les es no, h', ?_, ok.take no⟩, d', t, fun b q => ⟨hd.lb b q, hd.lt b q⟩⟩
    have := take_les S.last no es
    rw [hl] at this; exact this.symm
set_option maxHeartbeats 1000000 in
theorem ddropN (h : Dn w lab k xb S) (no : Int) :
    Calls Try.prog 39 #[.pointer (some ⟨xb, 0, none⟩), .int .i64 no] w fun en w' => en = .returned (.int .i64 (takeE S no)) ∧ Dn w' (rl lab w k) k xb (takeS S no) ∧ Turns (fun i => lab i = k) w w' := by
  have HT := dtakeN h no k
  clear h
  go_enter Try.func39, Try.ntmps39
  go_wp2_with fail
  refine HT.mono ?_
  rintro e w1 ⟨v, rfl, h1, d1, t1, hv⟩
  rw [tl_same hv] at h1
  obtain ⟨ao, c, rfl⟩ := d1.slice
  have HN : Hid (Dn w1 (rl lab w k) k xb (takeS S no)) := h1
  clear h1 d1 hv HT
  go_wp2_with fail
  go_ret
  refine ⟨rfl, HN.out.turns (Turns.alloc (fun _ => False) w1 _) (fun _ _ _ q => q) (fun _ _ q => q), t1.trans (Turns.alloc (fun _ => False) w1 _) (fun _ _ q => q.elim)⟩
set_option maxHeartbeats 2000000 in
theorem dcopyN (h : Dn w lab k xb S) (hlast : S.last < 4611686018427387904) (no : Int) :
    Calls Try.prog 40 #[.pointer (some ⟨xb, 0, none⟩), .int .i64 no] w fun en w' => en = .returned (.tuple #[.int .i64 (copyA S no), .int .i64 (takeE S no)]) ∧ Dn w' (rl lab w k) k xb (copyS S no) ∧ Turns (fun i => lab i = k) w w' := by
  have H0 := h
  obtain ⟨lv, es, h, hl, ok⟩ := h
  have hfd := Dn.find h hl no
  cases he : fnd es no with
  | none =>
    rw [he] at hfd
    obtain ⟨q1, q2, q3, q4, q5, q6⟩ := findS_none hfd
    rw [q1, q5, q6]
    have hA := at_none h (ok_few ok hl) (fnd_no he)
    have HN : Hid (Dn w lab k xb S) := H0
    clear h H0 hl ok hfd he q1 q2 q3 q4 q5 q6
    go_enter Try.func40, Try.ntmps40
    go_wp2_with fail
    refine hA.mono ?_
    rintro en w3 ⟨rfl, hw3⟩
    subst w3
    go_wp2_with fail
    go_ret2
    exact ⟨rfl, HN.out.below (Below.refl _ _) k, Turns.refl _ _⟩
  | some e =>
    rw [he] at hfd
    obtain ⟨q1, q2, q3, q4, q5⟩ := findS_some hfd
    rw [q1, q4, q5]
    obtain ⟨i, hat, hpre⟩ := fnd_at he
    have hA := at_some h (ok_few ok hl) hat (fnd_mem he).2 hpre
    have hd := h.row.en.da _ (fnd_mem he).1
    obtain ⟨ao, cc, hev, hL⟩ := Lies.da hd
    have hln : e.d.length ≤ 140737488355328 := hd.len
    obtain ⟨g, cv, hv, x0, x1, x2⟩ := h.row.at hat
    have hil := (List.getElem?_eq_some_iff.1 hat).1
    obtain ⟨n, hn⟩ : ∃ n, es.length = n := ⟨_, rfl⟩
    have hf := ok_few ok hl
    rw [hn] at hv hil hf
    subst hv
    have c0 := h.c0
    obtain ⟨eno, eto, ed, ev⟩ := e
    change ev = .slice ao ed.length cc at hev
    change Lies w ao ed.length cc ed at hL
    obtain ⟨m, hm⟩ : ∃ m, ed.length = m := ⟨_, rfl⟩
    rw [hm] at hev hL
    simp only [hm] at hln
    subst hev
    simp only at x0 x1 x2
    have HS := fun mm => dsendN (H0.turns (Turns.drewN (fun _ => False) w mm) (fun _ _ _ q => q) (lab' := lab) (fun _ _ q => q)) hlast eto ao m cc ed (hL.below (below_drewN w mm) (Nat.le_refl _)) hln
    have hii : (i : Int) < n := by omega
    have hni : (n : Int) ≤ 4096 := by omega
    clear h H0 hl ok hfd he q1 q2 q3 q4 q5 hd hL hat hpre hn hm
    go_enter Try.func40, Try.ntmps40
    go_wp2_with fail
    refine hA.mono ?_
    rintro en w3 ⟨rfl, hw3⟩
    subst w3
    go_wp2_with fail
    go_region_with (go_at_call 24; refine (HS 1).mono ?_; rintro e w2 ⟨rfl, h2, t2⟩)
    all_goals
      have HN : Hid (Dn w2 (rl lab w k) k xb (sendS S eto ed)) := by
        have : rl lab (w.drewN 1) k = rl lab w k := rl_same rfl
        rw [this] at h2; exact h2
      have HT : Hid (Turns (fun i => lab i = k) w w2) := (Turns.drewN _ w 1).trans t2 (fun i _ q => q)
      clear h2 t2 HS
      go_wp2_with fail
      go_ret2
      exact ⟨rfl, HN.out, HT.out⟩
end Go.Proofs.Ytpbanjgjljdepaa
