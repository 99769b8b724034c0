/- The document's own net: at, Under. -/
import Derived.Test.YtpbanjgjljdepaaD1
namespace Go.Proofs.Ytpbanjgjljdepaa
open Go.RowKit Go.Maps
set_option maxRecDepth 100000
variable {w w' : World} {lab lab' : Nat → Nat} {k j xb : Nat} {v : Value} {last : Int} {es : List En} {F : Nat → Prop} {S : St}

theorem fnd_at {no : Int} : ∀ {es : List En} {e : En}, fnd es no = some e → ∃ i, es[i]? = some e ∧ ∀ (t : Nat) (y : En), t < i → es[t]? = some y → y.no ≠ no
  | [], _, h => by cases h
  | x :: es, e, h => by
    by_cases q : x.no = no
    · have : fnd (x :: es) no = some x := by simp [fnd, q]
      rw [this] at h; cases h
      exact ⟨0, rfl, fun t y ht => by omega⟩
    · have h' : fnd es no = some e := by
        unfold fnd at h ⊢
        rwa [List.find?_cons_of_neg (by simp [q])] at h
      obtain ⟨i, h1, h2⟩ := fnd_at h'
      refine ⟨i + 1, by simpa using h1, fun t y ht hy => ?_⟩
      cases t with
      | zero => simp at hy; subst hy; exact q
      | succ t => exact h2 t y (by omega) (by simpa using hy)
theorem fnd_no {no : Int} (h : fnd es no = none) : ∀ (t : Nat) (y : En), es[t]? = some y → y.no ≠ no := fun t y hy => by
  have := List.find?_eq_none.1 h y (List.mem_of_getElem? hy); simpa using this
set_option maxHeartbeats 1000000 in
theorem at_some (h : DnX w lab k xb v last es) (hf : es.length ≤ 4096) {no : Int} {e : En} {i : Nat} (he : es[i]? = some e) (hno : e.no = no) (hpre : ∀ (t : Nat) (y : En), t < i → es[t]? = some y → y.no ≠ no) :
    Calls Try.prog 36 #[.pointer (some ⟨xb, 0, none⟩), .int .i64 no] w fun en w' => en = .returned (.int .i64 i) ∧ w' = w := by
  have hil := (List.getElem?_eq_some_iff.1 he).1
  have c0 := h.c0
  obtain ⟨n, hn⟩ : ∃ n, es.length = n := ⟨_, rfl⟩
  obtain ⟨g, cv, hv, _⟩ := h.row.at he
  rw [hn] at hv hf hil
  rw [hv] at c0
  have hcl : ∀ t y, es[t]? = some y → w.cell? ⟨g, t * 3, none⟩ = some (.int .i64 y.no) := fun t y hy => by
    obtain ⟨g', c', hv', q1, _⟩ := h.row.at hy
    rw [hv] at hv'
    cases hv'; exact q1
  have HN : Hid (es.length = n) := hn
  have hli : (n : Int) ≤ 4096 := by omega
  clear h hv hn
  go_enter Try.func36, Try.ntmps36
  go_wp2_with fail
  go_loopw [5] (fun u wr => ∃ t : Nat, t ≤ i ∧ u = .int .i64 t ∧ wr = w) (fun u _ => n - (intOf u).toNat)
  case atStart => exact ⟨0, Nat.zero_le _, rfl, rfl⟩
  case round =>
    obtain ⟨t, ht, rfl, rfl⟩ := hrel
    have htn : t < n := by omega
    have hti : (t : Int) < n := by omega
    obtain ⟨y, hy⟩ : ∃ y, es[t]? = some y := ⟨_, List.getElem?_eq_getElem (by rw [HN.out]; exact htn)⟩
    have k0 := hcl t y hy
    obtain ⟨z, hz⟩ : ∃ z, y.no = z := ⟨_, rfl⟩
    rw [hz] at k0
    by_cases hlt : t < i
    · have hne : ¬ z = no := by rw [← hz]; exact hpre t y hlt hy
      have hnb : (z == no) = false := by simpa using hne
      clear hz hcl hpre
      go_wp2_with fail
      go_roundw
      case rel => exact ⟨t + 1, by omega, by go_num, by first | trivial | rfl⟩
      case measure => simp [intOf]; omega
    · obtain rfl : t = i := by omega
      rw [he] at hy
      cases hy
      obtain rfl : z = no := by rw [← hz]; exact hno
      clear hz hcl hpre he
      go_wp2_with fail
      go_ret
      exact ⟨rfl, rfl⟩
set_option maxHeartbeats 1000000 in
theorem at_none (h : DnX w lab k xb v last es) (hf : es.length ≤ 4096) {no : Int} (hpre : ∀ (t : Nat) (y : En), es[t]? = some y → y.no ≠ no) :
    Calls Try.prog 36 #[.pointer (some ⟨xb, 0, none⟩), .int .i64 no] w fun en w' => en = .returned (.int .i64 (-1)) ∧ w' = w := by
  have c0 := h.c0
  obtain ⟨n, hn⟩ : ∃ n, es.length = n := ⟨_, rfl⟩
  obtain ⟨av, cv, hv⟩ := own_slice h.row.row
  rw [hn] at hv hf
  rw [hv] at c0
  have hcl : ∀ t y, es[t]? = some y → ∃ g, av = some ⟨g, 0, none⟩ ∧ w.cell? ⟨g, t * 3, none⟩ = some (.int .i64 y.no) := fun t y hy => by
    obtain ⟨g', c', hv', q1, _⟩ := h.row.at hy
    rw [hv] at hv'
    cases hv'; exact ⟨_, rfl, q1⟩
  have HN : Hid (es.length = n) := hn
  have hli : (n : Int) ≤ 4096 := by omega
  clear h hv hn
  go_enter Try.func36, Try.ntmps36
  go_wp2_with fail
  go_loopw [5] (fun u wr => ∃ t : Nat, t ≤ n ∧ u = .int .i64 t ∧ wr = w) (fun u _ => n - (intOf u).toNat)
  case atStart => exact ⟨0, Nat.zero_le _, rfl, rfl⟩
  case round =>
    obtain ⟨t, ht, rfl, rfl⟩ := hrel
    by_cases htn : t < n
    · have hti : (t : Int) < n := by omega
      obtain ⟨y, hy⟩ : ∃ y, es[t]? = some y := ⟨_, List.getElem?_eq_getElem (by rw [HN.out]; exact htn)⟩
      obtain ⟨g, rfl, k0⟩ := hcl t y hy
      obtain ⟨z, hz⟩ : ∃ z, y.no = z := ⟨_, rfl⟩
      rw [hz] at k0
      have hne : ¬ z = no := by rw [← hz]; exact hpre t y hy
      have hnb : (z == no) = false := by simpa using hne
      clear hz hcl hpre
      go_wp2_with fail
      go_roundw
      case rel => exact ⟨t + 1, by omega, by go_num, by first | trivial | rfl⟩
      case measure => simp [intOf]; omega
    · obtain rfl : t = n := by omega
      clear hcl hpre
      go_wp2_with fail
      go_ret
      exact ⟨rfl, rfl⟩
/-- What the loop of Under holds. -/
structure DuI (w wr : World) (lab : Nat → Nat) (j : Nat) (es fs : List En) (u : Value) (t : Nat) : Prop where
  row : FRow wr (rl lab w j) j u fs
  len : fs.length = t
  fl : fs.map En.fl = (es.take t).map En.fl
  b : Below w.heap.size w wr
  ge : ∀ b, u.ownBlock = some b → w.heap.size ≤ b
theorem own_apart2 {b1 b2 e1 e2 s1 s2 n m : Nat} {v u : Value} {xs ys : List Value} (h : w.ownsRow b1 e1 s1 v n xs) (k : w.ownsRow b2 e2 s2 u m ys) (hne : e1 ≠ e2) {b : Nat} (hb : v.ownBlock = some b) : u.ownBlock ≠ some b := fun hu => by
  rcases k.2 with ⟨rfl, _⟩ | ⟨g, cap, cur, rfl, _, hh, _⟩
  · cases hu
  · cases hu; exact own_typ h hh hne hb
theorem box_flight (w : World) (a b c : Value) : (w.alloc (.cells #[a, b, c] 42)).heap[w.heap.size]? = some (.cells #[a, b, c] 42) := heap_alloc_new w _
set_option maxHeartbeats 4000000 in
theorem dunder_X (h : DnX w lab k xb v last es) (hf : es.length ≤ 4096) (j : Nat) :
    Calls Try.prog 25 #[.pointer (some ⟨xb, 0, none⟩)] w fun e w' => ∃ v fs, e = .returned v ∧ FRow w' (rl lab w j) j v fs ∧ fs.map En.fl = es.map En.fl ∧ Below w.heap.size w w' := by
  obtain ⟨i0, hi, hz0, hz1, hz2⟩ := info_parts Try.infoFL
  obtain ⟨n, hn⟩ : ∃ n, es.length = n := ⟨_, rfl⟩
  obtain ⟨av, cv, hv⟩ := own_slice h.row.row
  rw [hn] at hv hf
  subst hv
  have c0 := h.c0
  have HN : Hid (es.length = n) := hn
  have HH : Hid (DnX w lab k xb (.slice av n cv) last es) := h
  have hli : (n : Int) ≤ 4096 := by omega
  clear h hn
  go_enter Try.func25, Try.ntmps25
  go_wp2_with fail
  go_loopw [3, 4] (fun u i wr => ∃ (t : Nat) (fs : List En), t ≤ n ∧ i = .int .i64 t ∧ DuI w wr lab j es fs u t) (fun _ i _ => n - (intOf i).toNat)
  case atStart => exact ⟨0, [], Nat.zero_le _, rfl, FRow.nil _ _ _, rfl, by simp, Below.refl _ _, fun b e => by cases e⟩
  case round =>
    obtain ⟨t, fs, ht, rfl, I⟩ := hrel
    have hr := HH.out.below I.b (lab' := lab) (fun _ _ q => q)
    have d0 := hr.c0
    by_cases htn : t < n
    · have hti : (t : Int) < n := by omega
      obtain ⟨e, he⟩ : ∃ e, es[t]? = some e := ⟨_, List.getElem?_eq_getElem (by rw [HN.out]; exact htn)⟩
      obtain ⟨g, c', hv', x0, x1, x2⟩ := hr.row.at he
      obtain ⟨rfl, rfl⟩ : av = some ⟨g, 0, none⟩ ∧ cv = c' := by cases hv'; exact ⟨rfl, rfl⟩
      have hd := hr.row.en.da e (List.mem_of_getElem? he)
      obtain ⟨eno, eto, ed, ev⟩ := e
      obtain ⟨ao, cc, hev, hL⟩ := Lies.da hd
      change ev = .slice ao ed.length cc at hev
      change Lies wr ao ed.length cc ed at hL
      have hln : ed.length ≤ 140737488355328 := hd.len
      obtain ⟨m, hm⟩ : ∃ m, ed.length = m := ⟨_, rfl⟩
      rw [hm] at hev hL hln
      subst hev
      simp only at x0 x1 x2
      obtain ⟨W1, hW1⟩ : ∃ W, wr.alloc (.cells #[.int .i64 eno, .int .i64 eto, .slice ao m cc] 42) = W := ⟨_, rfl⟩
      have z1 : W1.heap[wr.heap.size]? = some (.cells #[.int .i64 eno, .int .i64 eto, .slice ao m cc] 42) := by rw [← hW1]; exact heap_alloc_new wr _
      have b1 : Below wr.heap.size wr W1 := by rw [← hW1]; exact (Below.refl _ wr).alloc (Nat.le_refl _) _
      have y0 := cell_later b1 d0
      have y2 := cell_later b1 x2
      have f0 : ∀ i, W1.frozen? ⟨wr.heap.size, i, none⟩ = false := fun i => by simp [World.frozen?, z1]
      obtain ⟨au, cu, hu⟩ := own_slice I.row.row
      have hfl := I.len
      rw [hfl] at hu
      subst hu
      have HI : Hid (DuI w wr lab j es fs (.slice au t cu) t) := I
      have HB1 : Hid (Below wr.heap.size wr W1) := b1
      have HZ1 : Hid (W1.heap[wr.heap.size]? = some (.cells #[.int .i64 eno, .int .i64 eto, .slice ao m cc] 42)) := z1
      have HM : Hid (ed.length = m) := hm
      have HE : Hid (es[t]? = some ⟨eno, eto, ed, .slice ao m cc⟩) := he
      have hbs := bytes29_any ao m cc ed W1 hln (hL.below b1 (Nat.le_refl _))
      clear hr I hd he hL hm b1 z1 hv'
      go_wp2_with fail
      refine hbs.mono ?_
      rintro e w2 ⟨aU, cU, rfl, hoU, b2⟩
      have z2 := (b2.block _ (heap_lt HZ1.out)).trans HZ1.out
      have g2 : w2.cell? ⟨wr.heap.size, 2, none⟩ = some (.slice ao m cc) := by simp [World.cell?, z2]
      have f2 : ∀ i, w2.frozen? ⟨wr.heap.size, i, none⟩ = false := fun i => by simp [World.frozen?, z2]
      obtain ⟨W3, hW3⟩ : ∃ W, w2.setCell ⟨wr.heap.size, 2, none⟩ (.slice aU m cU) = W := ⟨_, rfl⟩
      have z3 : W3.heap[wr.heap.size]? = some (.cells #[.int .i64 eno, .int .i64 eto, .slice aU m cU] 42) := by rw [← hW3]; exact heap_setCell_same _ _ _ _ _ _ z2
      have u3' : Turns (fun i => i = wr.heap.size) w2 W3 := by rw [← hW3]; exact Turns.cell w2 wr.heap.size 2 _
      have l0 : W3.cell? ⟨wr.heap.size, 0, none⟩ = some (.int .i64 eno) := by simp [World.cell?, z3]
      have l1 : W3.cell? ⟨wr.heap.size, 1, none⟩ = some (.int .i64 eto) := by simp [World.cell?, z3]
      have l2 : W3.cell? ⟨wr.heap.size, 2, none⟩ = some (.slice aU m cU) := by simp [World.cell?, z3]
      have I := HI.out
      have U : Turns (fun i => i = wr.heap.size) wr W3 := ((Below.turns HB1.out (fun i => i = wr.heap.size)).trans (Below.turns b2 (fun i => i = wr.heap.size)) (fun _ _ q => q)).trans u3' (fun _ _ q => q)
      have BW : Below wr.heap.size wr W3 := U.below (fun i q => by omega) (Nat.le_refl _)
      have hr3 : W3.ownsRow 0 42 3 (.slice au t cu) t (fs.flatMap flC) := by
        have := own_turns I.row.row (Below.turns BW (fun _ => False)) (fun _ _ q => q)
        rw [hfl] at this; exact this
      have hE3 : Ens W3 (rl lab w j) j fs := I.row.en.turns (Below.turns BW (fun _ => False)) (fun _ _ _ q => q) (fun _ _ q => q)
      have hoU3 := own_turns hoU u3' (fun b hb e => own_typ hoU z2 (by decide) (by rw [← e]; exact hb))
      have HE3 : Hid (Ens W3 (rl lab w j) j fs) := hE3
      have HR3 : Hid (W3.ownsRow 0 42 3 (.slice au t cu) t (fs.flatMap flC)) := hr3
      have HU3 : Hid (W3.ownsRow W1.heap.size 5 1 (.slice aU m cU) m (ed.map (Value.int .u8))) := hoU3
      have HB3 : Hid (Below w.heap.size w W3) := I.b.trans (BW.mono I.b.size)
      have hge := I.ge
      have hws : wr.heap.size ≤ W1.heap.size := HB1.out.size
      have hwr0 : w.heap.size ≤ wr.heap.size := I.b.size
      have hnews : ∀ (i : Nat) (u : Value), ([.int .i64 eno, .int .i64 eto, .slice aU m cU] : List Value)[i]? = some u → (W3.alloc (.cells #[.int .i64 eno, .int .i64 eto, .slice aU m cU] 42)).cell? ((⟨W3.heap.size, 0, none⟩ : Addr).add i) = some u := World.news_of_block (heap_alloc_new _ _)
      clear I hE3 hoU hoU3 b2 U BW u3' z2 hbs
      go_wp2_with (at_builtin; refine wpList_append_own_at _ rfl _ _ 34 rfl 0 42 i0 (.agg #[.int .i64 0, .int .i64 0, .slice none 0 0]) 3 40 Try.underlying34 hi hz0 hz1 hz2 rfl (by decide) _ t _ rfl (World.ownsRow.alloc hr3 _) ⟨W3.heap.size, 0, none⟩ 1 1 [.int .i64 eno, .int .i64 eto, .slice aU m cU] rfl rfl hnews (by intro u hu; simp at hu; rcases hu with rfl | rfl | rfl <;> rfl) (by unfold maxLen; omega) (by omega) (Nat.zero_le _) ?_; intro v5 w5 hv5 hg5 hn5 hb5)
      have hT5 : Turns (fun i => (Value.slice au t cu).ownBlock = some i) W3 w5 := (Turns.alloc _ W3 _).trans (Turns.grown (F := fun i => (Value.slice au t cu).ownBlock = some i) hg5 (fun b hb => hb)) (fun _ _ h => h)
      have hdl : ed.length = m := HM.out
      have hI5 : DuI w w5 lab j es (fs ++ [⟨eno, eto, ed, .slice aU m cU⟩]) v5 (t + 1) := by
        have e5 := HE3.out.rowed HR3.out hT5 (by decide)
        have hoU5 := own_turns HU3.out hT5 (fun b hb e => own_apart2 HU3.out HR3.out (by decide) hb e)
        refine ⟨⟨?_, e5.snoc ⟨?_, fun b e => ?_, ?_⟩ (fun g hg x hx r => ?_), fun b e => ?_⟩, by simp [hfl], ?_, ?_, fun b e => ?_⟩
        · rw [List.length_append, hfl, List.flatMap_append]; simpa [flC] using hv5
        · show World.ownsRow w5 0 _ 1 (.slice aU m cU) ed.length _
          rw [hdl]; exact ownsRow_mono hoU5 (Nat.zero_le _)
        · have : W1.heap.size ≤ b := own_ge hoU5 e
          exact rl_new (by omega)
        · show ed.length ≤ _; omega
        · have h1 : W1.heap.size ≤ g := own_ge hoU5 hg
          have h2 : g < wr.heap.size := (HI.out.row.en.da x hx).lt g r
          omega
        · rcases hb5 with q | q
          · rw [q] at e; exact rl_new (hge b e)
          · rw [q] at e; cases e; exact rl_new (by have := HB3.out.size; simp; omega)
        · rw [List.map_append, HI.out.fl, List.take_add_one, HE.out]; simp
        · exact HB3.out.trans (hT5.below (fun i q => hge i q) HB3.out.size)
        · rcases hb5 with q | q
          · rw [q] at e; exact hge b e
          · rw [q] at e; cases e; have := HB3.out.size; simp; omega
      have HI5 : Hid (DuI w w5 lab j es (fs ++ [⟨eno, eto, ed, .slice aU m cU⟩]) v5 (t + 1)) := hI5
      clear hI5 hv5 hg5 hn5 hb5 hT5
      go_wp2_with fail
      go_roundw
      case rel => exact ⟨t + 1, _, by omega, by go_num, HI5.out⟩
      case measure => simp [intOf]; omega
    · obtain rfl : t = n := by omega
      have HR : Hid (FRow wr (rl lab w j) j u3 fs) := I.row
      have HF : Hid (fs.map En.fl = es.map En.fl) := by
        have := I.fl; rw [List.take_of_length_le (by rw [HN.out]; exact Nat.le_refl _)] at this; exact this
      have HB : Hid (Below w.heap.size w wr) := I.b
      clear hr I
      go_wp2_with fail
      go_ret
      exact ⟨_, _, rfl, HR.out, HF.out, HB.out⟩
theorem dunderN (h : Dn w lab k xb S) (j : Nat) :
    Calls Try.prog 25 #[.pointer (some ⟨xb, 0, none⟩)] w fun e w' => ∃ v fs, e = .returned v ∧ FRow w' (rl lab w j) j v fs ∧ fs.map En.fl = S.l ∧ Below w.heap.size w w' := by
  obtain ⟨v, es, h, hl, ok⟩ := h
  rw [← hl]
  exact dunder_X h (by have := ok.few; rw [← hl, List.length_map] at this; exact this) j
end Go.Proofs.Ytpbanjgjljdepaa
