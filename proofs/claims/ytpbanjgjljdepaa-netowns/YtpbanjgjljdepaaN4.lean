/- Send, Take, Drop, Copy of a net, in the document's words. -/
import Derived.Test.YtpbanjgjljdepaaN3
namespace Go.Proofs.Ytpbanjgjljdepaa
open Go.RowKit Go.Maps
set_option maxRecDepth 100000
variable {w w' : World} {lab lab' : Nat → Nat} {k j xb bm : Nat} {last : Int} {es : List En} {F : Nat → Prop} {S : St}

theorem St.Ok.send (h : S.Ok) (to : Int) (d : List Int) (hl : S.last < 4611686018427387904) : (sendS S to d).Ok := by
  unfold sendS
  split
  · exact h
  · rename_i hf
    have hf' : S.l.length < 4096 := by unfold fullS at hf; simpa using hf
    refine ⟨List.pairwise_append.2 ⟨h.ris, List.pairwise_singleton _ _, fun a ha b hb => ?_⟩, fun f hf => ?_, by simp; omega, by have := h.l0; simp only; omega, by simp only; omega⟩
    · rw [List.mem_singleton] at hb; subst hb
      have := (h.nos a ha).2; simp only; omega
    · have := h.l0
      rcases List.mem_append.1 hf with q | q
      · have := h.nos f q; simp only; omega
      · rw [List.mem_singleton] at q; subst q; simp only; omega
theorem St.Ok.take (h : S.Ok) (no : Int) : (takeS S no).Ok :=
  ⟨h.ris.sublist List.filter_sublist, fun f hf => h.nos f (List.mem_filter.1 hf).1, Nat.le_trans (List.length_filter_le _ _) h.few, h.l0, h.ll⟩
theorem St.Ok.copy (h : S.Ok) (no : Int) (hl : S.last < 4611686018427387904) : (copyS S no).Ok := by
  unfold copyS; split
  · exact h.send _ _ hl
  · exact h
theorem map_keys_ris (f : Fl → Fl) (hf : ∀ x, (f x).no = x.no) {l : List Fl} (h : l.Pairwise (fun a b => a.no < b.no)) : (l.map f).Pairwise (fun a b => a.no < b.no) := by
  rw [List.pairwise_map]
  exact h.imp (fun {a b} q => by rw [hf, hf]; exact q)
theorem St.Ok.flip (h : S.Ok) (no at_ v : Int) : (flipS S no at_ v).Ok := by
  unfold flipS
  split
  · have hf : ∀ x : Fl, (if x.no = no then (⟨x.no, x.to, flipD x.d at_ v⟩ : Fl) else x).no = x.no := fun x => by split <;> rfl
    refine ⟨map_keys_ris _ hf h.ris, fun f hf' => ?_, by rw [List.length_map]; exact h.few, h.l0, h.ll⟩
    obtain ⟨x, hx, rfl⟩ := List.mem_map.1 hf'
    rw [hf]; exact h.nos x hx
  · exact h
theorem findS_take (no : Int) (S : St) : (findS S no).isSome = true → takeE S no = 0 := fun h => by unfold takeE; rw [if_pos h]
theorem findS_none {no : Int} (h : findS S no = none) : takeE S no = 201 ∧ takeD S no = [] ∧ takeT S no = 0 ∧ takeS S no = S ∧ copyS S no = S ∧ copyA S no = 0 := by
  refine ⟨by unfold takeE; rw [h]; rfl, by unfold takeD; rw [h]; rfl, by unfold takeT; rw [h]; rfl, ?_, by unfold copyS; rw [h]; rfl, by unfold copyA; rw [h]; rfl⟩
  unfold takeS
  have : S.l.filter (fun f => f.no != no) = S.l := List.filter_eq_self.2 fun f hf => by have := List.find?_eq_none.1 h f hf; simpa using this
  rw [this]
theorem findS_some {no : Int} {f : Fl} (h : findS S no = some f) : takeE S no = 0 ∧ takeD S no = f.d ∧ takeT S no = f.to ∧ copyS S no = sendS S f.to f.d ∧ copyA S no = sendA S := by
  have d : takeD S no = f.d := by unfold takeD; rw [h]; rfl
  have t : takeT S no = f.to := by unfold takeT; rw [h]; rfl
  refine ⟨by unfold takeE; rw [h]; rfl, d, t, by unfold copyS; rw [h, d, t]; rfl, by unfold copyA; rw [h]; rfl⟩
theorem Nt.ok (h : Nt w lab k xb S) : S.Ok := by obtain ⟨bm, es, _, _, h⟩ := h; exact h
theorem Nt.below (h : Nt w lab k xb S) (b : Below w.heap.size w w') (j : Nat) : Nt w' (rl lab w j) k xb S :=
  h.turns (Below.turns b (fun _ => False)) (fun _ _ _ q => q) (fun _ hi q => (rl_old hi).trans q)
theorem Nt.find (_h : NtX w lab k xb bm S.last es) (hl : es.map En.fl = S.l) (no : Int) : findS S no = (fnd es no).map En.fl := by
  have := find_fnd S.last no es
  rw [hl] at this; exact this
/-- Send. -/
theorem sendN (h : Nt w lab k xb S) (hlast : S.last < 4611686018427387904) (to : Int) (ao : Option Addr) (n c : Nat) (d : List Int) (hL : Lies w ao n c d) (hn : n ≤ 140737488355328) :
    Calls Try.prog 11 #[.pointer (some ⟨xb, 0, none⟩), .agg #[.int .i64 to, .slice ao n c]] w fun e w' => e = .returned (.int .i64 (sendA S)) ∧ Nt w' (rl lab w k) k xb (sendS S to d) ∧ Turns (fun i => lab i = k) w w' := by
  obtain ⟨bm, es, h, hl, ok⟩ := h
  have hlen : es.length = S.l.length := by rw [← hl]; simp
  by_cases hf : es.length < 4096
  · have hF : ¬ fullS S = true := by unfold fullS; simp; omega
    refine (send_ok h hf ok.l0 hlast (fun e he => (ok.nos e.fl (by rw [← hl]; exact List.mem_map_of_mem he)).2) to ao n c d hL hn).mono ?_
    rintro e w' ⟨rfl, v, h', t⟩
    refine ⟨by unfold sendA; rw [if_neg hF], ⟨bm, es ++ [⟨S.last + 1, to, d, v⟩], ?_, ?_, ok.send to d hlast⟩, t⟩
    · unfold sendS; rw [if_neg hF]; exact h'
    · unfold sendS; rw [if_neg hF]; simp [hl]
  · have hF : fullS S = true := by unfold fullS; simp; omega
    refine (send_full h (by omega) (by have := ok.few; omega) to _).mono ?_
    rintro e w' ⟨rfl, b⟩
    refine ⟨by unfold sendA; rw [if_pos hF], ?_, Below.turns b _⟩
    unfold sendS; rw [if_pos hF]
    exact Nt.below ⟨bm, es, h, hl, ok⟩ b k
/-- Take. -/
theorem takeN (h : Nt w lab k xb S) {no : Int} (hk : KeyI no) (j : Nat) :
    Calls Try.prog 16 #[.pointer (some ⟨xb, 0, none⟩), .int .i64 no] w fun en w' => ∃ v, en = .returned (.tuple #[.agg #[.int .i64 (takeT S no), v], .int .i64 (takeE S no)]) ∧ Nt w' (tl lab w k j v) k xb (takeS S no) ∧ Da w' (tl lab w k j v) j (takeD S no) v ∧ Turns (fun i => lab i = k) w w' ∧ ∀ b, v.ownBlock = some b → lab b = k ∧ b < w.heap.size := by
  obtain ⟨bm, es, h, hl, ok⟩ := h
  have hfd := Nt.find h hl no
  cases he : fnd es no with
  | none =>
    rw [he] at hfd
    obtain ⟨q1, q2, q3, q4, _⟩ := findS_none hfd
    rw [q1, q2, q3, q4]
    refine (take_no h hk he).mono ?_
    rintro e w' ⟨rfl, b⟩
    refine ⟨_, rfl, ?_, Da.nil _ _ _, Below.turns b _, fun b q => by cases q⟩
    rw [tl_nil]
    exact Nt.below ⟨bm, es, h, hl, ok⟩ b k
  | some e =>
    rw [he] at hfd
    obtain ⟨q1, q2, q3, _⟩ := findS_some hfd
    rw [q1, q2, q3]
    refine (take_ok h hk he j).mono ?_
    rintro en w' ⟨rfl, h', d', t⟩
    have hd := h.en.da e (fnd_mem he).1
    refine ⟨_, rfl, ⟨bm, les es no, h', ?_, ok.take no⟩, d', t, fun b q => ⟨hd.lb b q, hd.lt b q⟩⟩
    have := take_les S.last no es
    rw [hl] at this; exact this.symm
theorem tl_same {v : Value} (h : ∀ b, v.ownBlock = some b → lab b = k ∧ b < w.heap.size) : tl lab w k k v = rl lab w k := by
  funext i
  by_cases e : v.ownBlock = some i
  · rw [tl_at e, rl_old (h i e).2]; exact (h i e).1.symm
  · exact tl_off e
set_option maxHeartbeats 1000000 in
theorem dropN (h : Nt w lab k xb S) {no : Int} (hk : KeyI no) :
    Calls Try.prog 14 #[.pointer (some ⟨xb, 0, none⟩), .int .i64 no] w fun en w' => en = .returned (.int .i64 (takeE S no)) ∧ Nt w' (rl lab w k) k xb (takeS S no) ∧ Turns (fun i => lab i = k) w w' := by
  have HT := takeN h hk k
  clear h
  go_enter Try.func14, Try.ntmps14
  go_wp2_with fail
  refine HT.mono ?_
  rintro e w1 ⟨v, rfl, h1, d1, t1, hv⟩
  rw [tl_same hv] at h1
  obtain ⟨ao, c, rfl⟩ := d1.slice
  have HN : Hid (Nt w1 (rl lab w k) k xb (takeS S no)) := h1
  clear h1 d1 hv HT
  go_wp2_with fail
  go_ret
  refine ⟨rfl, HN.out.turns (Turns.alloc (fun _ => False) w1 _) (fun _ _ _ q => q) (fun _ _ q => q), t1.trans (Turns.alloc (fun _ => False) w1 _) (fun _ _ q => q.elim)⟩
set_option maxHeartbeats 1000000 in
theorem copyN (h : Nt w lab k xb S) (hlast : S.last < 4611686018427387904) {no : Int} (hk : KeyI no) :
    Calls Try.prog 12 #[.pointer (some ⟨xb, 0, none⟩), .int .i64 no] w fun en w' => en = .returned (.tuple #[.int .i64 (copyA S no), .int .i64 (takeE S no)]) ∧ Nt w' (rl lab w k) k xb (copyS S no) ∧ Turns (fun i => lab i = k) w w' := by
  have H0 := h
  obtain ⟨bm, es, h, hl, ok⟩ := h
  have hfd := Nt.find h hl no
  have c0 := h.c0
  cases he : fnd es no with
  | none =>
    rw [he] at hfd
    obtain ⟨q1, q2, q3, q4, q5, q6⟩ := findS_none hfd
    rw [q1, q5, q6]
    have hlk : (Instr.lookup 74 (.map (some bm)) (.int .i64 no) true).run Try.prog w = .ok (.tuple #[.agg #[.int .i64 0, .slice none 0 0], .bool false]) w := by
      have := Mv.look2 h.map hk
      rw [vlk_fnd, he] at this; exact this
    have HN : Hid (Nt w lab k xb S) := H0
    clear h H0 hl ok hfd he q1 q2 q3 q4 q5 q6
    go_enter Try.func12, Try.ntmps12
    go_wp2_with fail
    go_ret2
    exact ⟨rfl, HN.out.below ((Below.refl _ w).alloc (Nat.le_refl _) _) k, Turns.alloc _ _ _⟩
  | some e =>
    rw [he] at hfd
    obtain ⟨q1, q2, q3, q4, q5⟩ := findS_some hfd
    rw [q1, q4, q5]
    obtain ⟨eno, eto, ed, ev⟩ := e
    have hd := h.en.da _ (fnd_mem he).1
    obtain ⟨ao, cc, hev, hL⟩ := Lies.da hd
    change ev = .slice ao ed.length cc at hev
    change Lies w ao ed.length cc ed at hL
    have hln : ed.length ≤ 140737488355328 := hd.len
    obtain ⟨n, hn⟩ : ∃ n, ed.length = n := ⟨_, rfl⟩
    rw [hn] at hev hL hln
    subst hev
    have hlk : (Instr.lookup 74 (.map (some bm)) (.int .i64 no) true).run Try.prog w = .ok (.tuple #[.agg #[.int .i64 eto, .slice ao n cc], .bool true]) w := by
      have := Mv.look2 h.map hk
      rw [vlk_fnd, he] at this; exact this
    obtain ⟨W1, hW1⟩ : ∃ W, w.alloc (.cells #[.int .i64 eto, .slice ao n cc] 28) = W := ⟨_, rfl⟩
    have z1 : W1.heap[w.heap.size]? = some (.cells #[.int .i64 eto, .slice ao n cc] 28) := by rw [← hW1]; exact heap_alloc_new w _
    have b1 : Below w.heap.size w W1 := by rw [← hW1]; exact (Below.refl _ w).alloc (Nat.le_refl _) _
    have k0 : W1.cell? ⟨w.heap.size, 0, none⟩ = some (.int .i64 eto) := by simp [World.cell?, z1]
    have k1 : W1.cell? ⟨w.heap.size, 1, none⟩ = some (.slice ao n cc) := by simp [World.cell?, z1]
    have HS := sendN (H0.below b1 k) hlast eto ao n cc ed (hL.below b1 (Nat.le_refl _)) hln
    have HE : ∀ i, i < w.heap.size → rl lab w k i = lab i := fun i hi => rl_old hi
    have HR : Hid (rl (rl lab w k) W1 k = rl lab w k) := by
      show _ = _
      funext i; unfold rl
      by_cases q : i < W1.heap.size
      · rw [if_pos q]
      · rw [if_neg q, if_neg (by have := b1.size; omega)]
    have HB : Hid (Below w.heap.size w W1) := b1
    clear h H0 hl ok hfd he q1 q2 q3 q4 q5 hd b1 hL hn
    go_enter Try.func12, Try.ntmps12
    go_wp2_with fail
    refine HS.mono ?_
    rintro e w2 ⟨rfl, h2, t2⟩
    rw [HR.out] at h2
    have HN : Hid (Nt w2 (rl lab w k) k xb (sendS S eto ed)) := h2
    have HT : Hid (Turns (fun i => lab i = k) w w2) := (Below.turns HB.out _).trans t2 (fun i hi q => by rw [HE i hi] at q; exact q)
    clear h2 t2 HS
    go_wp2_with fail
    go_ret2
    exact ⟨rfl, HN.out, HT.out⟩
end Go.Proofs.Ytpbanjgjljdepaa
