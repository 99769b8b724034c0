/- NetFates: what its loop holds. -/
import Derived.Test.YtpbanjgjljdepaaR1
import Derived.Test.YtpbanjgjljdepaaF2
namespace Go.Proofs.Ytpbanjgjljdepaa
open Go.RowKit Go.Maps
set_option maxRecDepth 100000
variable {w w' w0 : World} {lab lab' : Nat → Nat} {k j xb : Nat} {v : Value} {F : Nat → Prop} {S : St} {fs es : List En}

theorem mod_wide (x : Int) (m : Nat) (hm : 0 < m) (hm2 : m ≤ 140737488355328) : ∃ q : Nat, q < m ∧ (wrap64 ((x.tmod m) + m)).tmod m = q := by
  have h1 := Int.tmod_lt_of_pos (a := x) (b := m) (by omega)
  have h2 := Int.lt_tmod_of_pos x (b := m) (by omega)
  have e : wrap64 ((x.tmod m) + m) = (x.tmod m) + m := by unfold wrap64; omega
  rw [e]; exact mod_nat x m hm
theorem Nf.moreM (h : Nf w0 w lab xb S v fs) (b : Below w.heap.size w w') (m : Nat) : Nf w0 w' (rl lab w m) xb S v fs := ⟨h.nt.below b m, h.wk.below b m, h.fr.more b m⟩
/-- One more in the list. -/
theorem Nf.push {w5 : World} {v5 u : Value} {n : Nat} {o : Obj} {no to : Int} {d : List Int} (h : Nf w0 w lab xb S v fs) (hn : fs.length = n) (hd : Da w lab 2 d u) (hu : ∀ g, u.ownBlock = some g → ∀ x ∈ fs, x.v.ownBlock ≠ some g)
    (hv5 : w5.ownsRow 0 42 3 v5 (n + 1) (fs.flatMap flC ++ [.int .i64 no, .int .i64 to, u])) (hg5 : (w.alloc o).grownBy w5 v.ownBlock) (hb5 : v5.ownBlock = v.ownBlock ∨ v5.ownBlock = some (w.alloc o).heap.size) :
    Nf w0 w5 (rl lab w 2) xb S v5 (fs ++ [⟨no, to, d, u⟩]) := by
  have hT : Turns (fun i => v.ownBlock = some i) w w5 := (Turns.alloc _ w o).trans (Turns.grown (F := fun i => v.ownBlock = some i) hg5 (fun b hb => hb)) (fun _ _ h => h)
  have hT2 : Turns (fun i => lab i = 2) w w5 := hT.mono (fun i _ q => h.fr.lv i q)
  have e1 : Ens w lab 2 (fs ++ [⟨no, to, d, u⟩]) := h.fr.en.snoc hd hu
  have e5 := e1.rowed h.fr.row hT (by decide)
  refine ⟨h.nt.turns hT2 (fun _ _ q r => by rw [q] at r; cases r) (fun _ hi q => (rl_old hi).trans q), h.wk.step hT2 (by decide), ⟨?_, ?_, fun b q => ?_⟩⟩
  · rw [List.length_append, hn, List.flatMap_append]; exact hv5
  · exact ⟨fun x hx => ⟨(e5.da x hx).own, fun b q => by rw [rl_old ((e1.da x hx).lt b q)]; exact (e5.da x hx).lb b q, (e5.da x hx).len⟩, e5.sep⟩
  · rcases hb5 with r | r
    · rw [r] at q
      rw [rl_old (own_lt h.fr.row q)]; exact h.fr.lv b q
    · rw [r] at q; cases q
      exact rl_new (by simp)
/-- The list has become another one, in new memory. -/
theorem Nf.cut {w5 : World} {u : Value} {gs : List En} (h : Nf w0 w lab xb S v fs) (hs : List.Sublist gs fs) (hr : w5.ownsRow w.heap.size 42 3 u gs.length (gs.flatMap flC)) (b : Below w.heap.size w w5) : Nf w0 w5 (rl lab w 2) xb S u gs :=
  ⟨h.nt.below b 2, h.wk.below b 2, ⟨ownsRow_mono hr (Nat.zero_le _), (h.fr.en.sub hs).turns (Below.turns b (fun _ => False)) (fun _ _ _ q => q) (fun _ hi q => (rl_old hi).trans q), fun _ q => rl_new (own_ge hr q)⟩⟩
/-- What the loop holds. -/
def FtI (w0 w : World) (xb : Nat) (v : Value) (la : Int) (t : Nat) : Prop := ∃ S lab fs, Nf w0 w lab xb S v fs ∧ fs.map En.fl = S.l ∧ S.last = la ∧ la ≤ t ∧ S.l.length ≤ t
theorem FtI.at {la : Int} {t : Nat} (h : FtI w0 w xb v la t) : Below w0.heap.size w0 w := by obtain ⟨S, lab, fs, h, _⟩ := h; exact h.wk.b
theorem FtI.later {la : Int} {t t' : Nat} (h : FtI w0 w xb v la t) (ht : t ≤ t') : FtI w0 w xb v la t' := by
  obtain ⟨S, lab, fs, h, h1, h2, h3, h4⟩ := h; exact ⟨S, lab, fs, h, h1, h2, by omega, by omega⟩
theorem FtI.new (hW : Wk w0 lab w) : Calls Try.prog 10 #[] w fun e w' => ∃ xb, e = .returned (.pointer (some ⟨xb, 0, none⟩)) ∧ FtI w0 w' xb (.slice none 0 0) 0 0 := by
  refine (new_any w lab 1).mono ?_
  rintro e w' ⟨xb, rfl, h, b⟩
  exact ⟨xb, rfl, S0, _, [], ⟨h, hW.below b 1, FRow.nil _ _ _⟩, rfl, rfl, by decide, by simp [S0]⟩
theorem FtI.end {la : Int} {t : Nat} (h : FtI w0 w xb v la t) (ht : t ≤ 1000) :
    Calls Try.prog 15 #[.pointer (some ⟨xb, 0, none⟩)] w fun e w' => ∃ u, e = .returned u ∧ Below w0.heap.size w0 w' ∧ Calls Try.prog 18 #[u, v] w' fun e w'' => e = .returned (.bool true) ∧ Below w'.heap.size w' w'' := by
  obtain ⟨S, lab, fs, N, h1, h2, h3, h4⟩ := h
  exact N.under h1 (by have := congrArg List.length h1; simp at this; omega)
theorem Ft.Lie.at {W : World} {ao : Option Addr} {n i : Nat} {os : List Ft} (h : Ft.Lie W ao n os) (hi : i < n) : ∃ (g a : Nat) (o : Ft), ao = some ⟨g, a, none⟩ ∧ o.In W ∧ W.cell? ⟨g, a + i * 5, none⟩ = some (.int .i64 o.k) ∧ W.cell? ⟨g, a + i * 5 + 1, none⟩ = some (.int .i64 o.K) ∧ W.cell? ⟨g, a + i * 5 + 2, none⟩ = some (.int .i64 o.a) ∧ W.cell? ⟨g, a + i * 5 + 3, none⟩ = some (.int .i64 o.v) ∧ W.cell? ⟨g, a + i * 5 + 4, none⟩ = some (.slice o.da o.dn o.dc) := by
  obtain ⟨o, ho⟩ : ∃ o, os[i]? = some o := ⟨_, List.getElem?_eq_getElem (by rw [h.hlen]; exact hi)⟩
  obtain ⟨h1, g, a, e, h2⟩ := h.hat i o ho
  exact ⟨g, a, o, e, h1, h2 0 _ rfl, h2 1 _ rfl, h2 2 _ rfl, h2 3 _ rfl, h2 4 _ rfl⟩
theorem Ft.Lie.at2 {W : World} {ao : Option Addr} {n i : Nat} {os : List Ft} (h : Ft.Lie w ao n os) (b : Below w.heap.size w W) (hi : i < n) : ∃ (g a : Nat) (o : Ft), ao = some ⟨g, a, none⟩ ∧ o.In W ∧ (∀ w', Below w.heap.size w w' → Lies w' o.da o.dn o.dc o.Z) ∧ W.cell? ⟨g, a + i * 5, none⟩ = some (.int .i64 o.k) ∧ W.cell? ⟨g, a + i * 5 + 1, none⟩ = some (.int .i64 o.K) ∧ W.cell? ⟨g, a + i * 5 + 2, none⟩ = some (.int .i64 o.a) ∧ W.cell? ⟨g, a + i * 5 + 3, none⟩ = some (.int .i64 o.v) ∧ W.cell? ⟨g, a + i * 5 + 4, none⟩ = some (.slice o.da o.dn o.dc) := by
  obtain ⟨g, a, o, e, h1, q⟩ := h.at hi
  refine ⟨g, a, o, e, h1.below b, fun w' b' => h1.li.below b' (Nat.le_refl _), ?_⟩
  obtain ⟨q0, q1, q2, q3, q4⟩ := q
  exact ⟨cell_later b q0, cell_later b q1, cell_later b q2, cell_later b q3, cell_later b q4⟩
/-- One of the list: it is under way. -/
theorem Nf.one {i : Nat} {e : En} (h : Nf w0 w lab xb S v fs) (hl : fs.map En.fl = S.l) (he : fs[i]? = some e) : findS S e.no = some e.fl ∧ fnd fs e.no = some e ∧ fs.Pairwise (fun a b => a.no < b.no) ∧ fs.eraseIdx i = les fs e.no ∧ KeyI e.no := by
  have hr := ok_ris h.nt.ok hl
  have hm := List.mem_of_getElem? he
  have hfn : fnd fs e.no = some e := by
    obtain ⟨y, hy⟩ : ∃ y, fnd fs e.no = some y := Option.isSome_iff_exists.1 (List.find?_isSome.2 ⟨e, hm, by simp⟩)
    obtain ⟨r1, r2⟩ := fnd_mem hy
    have h1 := nos_inj h.nt.ok.ris (a := y.fl) (b := e.fl) (by rw [← hl]; exact List.mem_map_of_mem r1) (by rw [← hl]; exact List.mem_map_of_mem hm) r2
    have h2 : ∀ {l : List En}, l.Pairwise (fun a b => a.no < b.no) → ∀ {a b : En}, a ∈ l → b ∈ l → a.no = b.no → a = b := fun {l} hl => by
      induction l with
      | nil => intro a b ha; cases ha
      | cons z l ih =>
        obtain ⟨p1, p2⟩ := List.pairwise_cons.1 hl
        intro a b ha hb hab
        rcases List.mem_cons.1 ha with r | r <;> rcases List.mem_cons.1 hb with s | s
        · rw [r, s]
        · have := p1 b s; rw [r] at hab; omega
        · have := p1 a r; rw [s] at hab; omega
        · exact ih p2 r s hab
    rw [h2 hr r1 hm r2] at hy; exact hy
  have hf : findS S e.no = some e.fl := by
    have := find_fnd S.last e.no fs
    rw [hl, hfn] at this; exact this
  refine ⟨hf, hfn, hr, erase_les hr he rfl, ?_⟩
  have := h.nt.ok.nos e.fl (by rw [← hl]; exact List.mem_map_of_mem hm)
  have h2 := h.nt.ok.ll
  simp only at this
  constructor <;> omega
theorem take_gone (S : St) (no : Int) : findS (takeS S no) no = none := by
  unfold findS takeS
  exact List.find?_eq_none.2 fun f hf => by have := (List.mem_filter.1 hf).2; simpa using this
theorem les_fl {no : Int} (hl : fs.map En.fl = S.l) : (les fs no).map En.fl = (takeS S no).l := by
  have := take_les S.last no fs
  rw [hl] at this; exact this.symm
end Go.Proofs.Ytpbanjgjljdepaa
