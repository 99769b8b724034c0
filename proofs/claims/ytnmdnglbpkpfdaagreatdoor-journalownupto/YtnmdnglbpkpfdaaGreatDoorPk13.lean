/- holds once more: which blocks it turns. -/
import Derived.Test.YtnmdnglbpkpfdaaGreatDoorPk12
import Derived.Test.YtnmdnglbpkpfdaaGreatDoorPk03
import Derived.Test.YtnmdnglbpkpfdaaGreatDoorPk10
import Derived.Test.YtnmdnglbpkpfdaaGreatDoorPk09
import Derived.Lib.LazyBuf
namespace Go.Proofs.YtnmdnglbpkpfdaaGreatDoor
open Go.RowKit Go.Maps
set_option maxRecDepth 100000
set_option maxHeartbeats 1000000 in
theorem holdsT {w : World} {S : DevS} {N : Nat} {G : Nat → Prop} {jb : Nat} {seq : Int} {place : Nat} {free : Int} {bm nd : Nat} {a : List (Nat × Nat)} {fa : Nat → List Int} {tw db : Nat} {ov wv : Value} {xs : List It} (h : Jn w db S 40 N G jb 2 30 seq place free bm nd a fa) (ho : S.off = false) (t : Tn w G tw db ov wv (outs 40) xs) (hx : xs.length = 10) (hxo : ∀ (k o : Nat) (x : It), (outs 40)[k]? = some o → xs[k]? = some x → x.bs = seesF S [] fa a fa o) :
    Calls Tryz.prog 22 #[.pointer (some ⟨tw, 0, none⟩), .pointer (some ⟨jb, 0, none⟩)] w fun e w' => e = .returned (.bool true) ∧ Turns (fun i => G i ∨ i = jb) w w' := by
  obtain ⟨go, co, gw, cw, rfl, rfl⟩ := t.form hx
  go_enter Tryz.func22, Tryz.ntmps22
  go_wp2_with fail
  refine (Tx.begin h ho fa).mono ?_
  rintro e w1 ⟨tb, wm, rfl, l1, l2, X1, t1⟩
  have T1 := t.kp (Kp.turns t1 (fun x cs ty fz g hx ht e => e.elim g (jty_jb h.J hx ht)))
  have B1 := t1
  clear t1 t h
  go_wp2_with fail
  go_loopw [6] (fun i wr => ∃ k : Nat, k ≤ 10 ∧ i = .int .i64 k ∧ Tx wr db S 40 N G jb 2 30 seq place free bm nd a fa tb wm 0 [] fa (.slice none 0 0) 0 ∧ Tn wr G tw db (.slice (some ⟨go, 0, none⟩) 10 co) (.slice (some ⟨gw, 0, none⟩) 10 cw) (outs 40) xs ∧ Turns (fun i => G i ∨ i = jb) w wr) (fun i _ => 10 - (intOf i).toNat)
  case atStart => exact ⟨0, by omega, rfl, X1, T1, B1⟩
  case round =>
    clear X1 T1
    obtain ⟨k, hk, rfl, X, T, Br⟩ := hrel
    by_cases hlt : k < 10
    · obtain ⟨o, hok⟩ : ∃ o, (outs 40)[k]? = some o := ⟨_, List.getElem?_eq_getElem (by rw [outs_len]; exact hlt)⟩
      obtain ⟨x, hxk⟩ : ∃ x, xs[k]? = some x := ⟨_, List.getElem?_eq_getElem (by rw [hx]; exact hlt)⟩
      have HX : Hid (x.bs = seesF S [] fa a fa o) := hxo k o x hok hxk
      have HO : Hid (o < 40 ∧ (o < 2 ∨ 2 + 30 ≤ o)) := outs_in (List.mem_of_getElem? hok)
      obtain ⟨y3, _, yk, _⟩ := T.cells hx hlt hok hxk
      have hki : (k : Int) < 10 := by omega
      have hI := T.x.it x (List.mem_of_getElem? hxk)
      have hlen := hI.len
      go_wp2_with fail
      refine (Tx.read X ho (by omega) o HO.out.1 HO.out.2 (by rw [← HX.out]; exact hlen)).mono ?_
      rintro e w2 ⟨g2, rfl, lg2, h2, X2, t2⟩
      have T2 := T.kp (Kp.same t2)
      have B2 := Br.trans t2 (fun _ _ r => Or.inl r)
      obtain ⟨y3', y4, _, yx⟩ := T2.cells hx hlt hok hxk
      rw [← HX.out] at h2
      have Lx : Lies w2 (some ⟨x.g, 0, none⟩) 512 x.cap x.bs := (T2.x.it x (List.mem_of_getElem? hxk)).lies
      clear T X t2 y3 yk hI
      go_wp2_with fail
      refine (same7 (some ⟨g2, 0, none⟩) (some ⟨x.g, 0, none⟩) 512 x.cap x.bs w2 (Lies.full h2 hlen) Lx).mono ?_
      rintro e w3 ⟨rfl, b3⟩
      have X3 := X2.below b3
      have T3 := T2.kp (Kp.below b3)
      have B3 := B2.trans (Below.turns b3 (fun i => G i ∨ i = jb)) (fun _ _ r => r)
      clear X2 T2 b3 h2 Lx y3' y4 yx
      go_wp2_with (go_at_call 15; refine (num7 _ _).mono ?_; rintro e wn ⟨rfl, hwn⟩; subst wn)
      go_roundw
      case rel => exact ⟨k + 1, by omega, by simp, X3, T3, B3⟩
      case measure => simp [intOf]; omega
    · have y3 : wr.cell? ⟨tw, 3, none⟩ = some (.slice (some ⟨go, 0, none⟩) 10 co) := by simp [World.cell?, T.box]
      obtain rfl : k = 10 := by omega
      go_wp2_with fail
      refine (Tx.drop X).mono ?_
      rintro e w2 ⟨rfl, _, _, t2⟩
      have B2 := Br.trans t2 (fun i hi r => r.elim (fun e => by omega) Or.inr)
      go_wp2_with fail
      go_ret
      exact ⟨rfl, B2⟩
end Go.Proofs.YtnmdnglbpkpfdaaGreatDoor

/- A device behind a commit, read outside the journal's region; Commit of any transaction on the new journal; open. -/
namespace Go.Proofs.YtnmdnglbpkpfdaaGreatDoor
open Go.RowKit Go.Maps
set_option maxRecDepth 100000
theorem Good.putL {S : DevS} {k : Nat} (h : Good S k) {st sz : Nat} (place i : Nat) {bs : List Int} (hs : 2 ≤ sz) (hst : st + sz ≤ k) (hl : bs.length = 512) (hy : ∀ x ∈ bs, 0 ≤ x ∧ x ≤ 255) : Good (putL S st sz place i bs) k := by
  have := Nat.mod_lt (place + i) (show 0 < sz - 1 by omega)
  exact h.burnt.wrote (by omega) hl hy
theorem rdB_putL (S : DevS) (st sz place i : Nat) (bs : List Int) (x : Nat) (hs : 2 ≤ sz) (hx : x < st ∨ st + sz ≤ x) : rdB (putL S st sz place i bs) x = rdB S x := by
  have := Nat.mod_lt (place + i) (show 0 < sz - 1 by omega)
  unfold putL
  rw [rdB_wrote, if_neg (by omega), rdB_burnt]
theorem rdB_hid (S : DevS) (st sz place : Nat) (seq : Int) (f : Nat → List Int) (m : List (Nat × Nat)) (x : Nat) (hs : 2 ≤ sz) (hx : x < st ∨ st + sz ≤ x) : ∀ i, rdB (hidS S st sz place seq f m i) x = rdB S x
  | 0 => rdB_putL _ _ _ _ _ _ x hs hx
  | i + 1 => (rdB_putL _ _ _ _ _ _ x hs hx).trans (rdB_hid S st sz place seq f m x hs hx i)
theorem Good.hid {S : DevS} {k st sz : Nat} (h : Good S k) (place : Nat) (seq : Int) (f : Nat → List Int) (m : List (Nat × Nat)) (hs : 2 ≤ sz) (hst : st + sz ≤ k) (hm : m.length ≤ 24) (hV : ∀ p ∈ m, (f p.1).length = 512 ∧ ∀ x ∈ f p.1, 0 ≤ x ∧ x ≤ 255) : ∀ i, i ≤ m.length → Good (hidS S st sz place seq f m i) k
  | 0, _ => h.putL _ _ hs hst (desB_len _ _ (by rw [lnsOf_len]; exact hm)) (desB_by _ _)
  | i + 1, hi => by
    have hg : (m.map (·.1)).getD i 0 = m[i].1 := by simp [List.getD, show i < m.length by omega]
    have hv := hV m[i] (List.getElem_mem _)
    refine (Good.hid h place seq f m hs hst hm hV i (by omega)).putL _ _ hs hst ?_ ?_
    · rw [hg]; exact hidB_len hv.1 _
    · rw [hg]; exact hidB_by hv.2 _
theorem rdB_com {S : DevS} {k st sz : Nat} (h : Good S k) (place : Nat) (seq : Int) (f : Nat → List Int) (m : List (Nat × Nat)) (hs : 2 ≤ sz) (hst : st + sz ≤ k) (hm : m.length ≤ 24) (hV : ∀ p ∈ m, (f p.1).length = 512 ∧ ∀ x ∈ f p.1, 0 ≤ x ∧ x ≤ 255) (x : Nat) (hx : x < st ∨ st + sz ≤ x) : rdB (comS S st sz place seq f m) x = rdB S x := by
  have g1 := h.hid place seq f m hs hst hm hV m.length (Nat.le_refl _)
  have g2 := g1.burnt.flushed.putL place (m.length + 1) hs hst (comB_len seq) (comB_by seq)
  unfold comS
  rw [rdB_flushed g2.burnt, rdB_burnt, rdB_putL _ _ _ _ _ _ x hs hx, rdB_flushed g1.burnt, rdB_burnt, rdB_hid _ _ _ _ _ _ _ x hs hx]
/-- A town at a device that has grown. -/
theorem Tn.to {w w' : World} {G G' : Nat → Prop} {tw db : Nat} {ov wv : Value} {os : List Nat} {xs : List It} (h : Tn w G tw db ov wv os xs) (k : Kp G w w') (hG : ∀ i, G' i → G i ∨ w.heap.size ≤ i) : Tn w' G' tw db ov wv os xs := by
  have n : ∀ i, i < w.heap.size → ¬ G i → ¬ G' i := fun i hi hg r => (hG i r).elim hg (fun q => by omega)
  have T := h.kp k
  refine ⟨T.box, ⟨T.o.row, fun b hb => n b (h.o.row.lt b hb).2 (h.o.gr b hb)⟩, ⟨T.x.row, fun b hb => n b (h.x.row.lt b hb).2 (h.x.gr b hb), fun x hx => ?_⟩, n tw (heap_lt h.box) h.gt⟩
  have hI := h.x.it x hx
  exact ⟨(T.x.it x hx).own, n x.g (hI.own.lt x.g rfl).2 hI.ng, hI.by_⟩
theorem Wt.to {w w' : World} {G G' : Nat → Prop} {v : Value} {xs : List It} (h : Wt w G v xs) (k : Kp G w w') (hG : ∀ i, G' i → G i ∨ w.heap.size ≤ i) : Wt w' G' v xs := by
  have n : ∀ i, i < w.heap.size → ¬ G i → ¬ G' i := fun i hi hg r => (hG i r).elim hg (fun q => by omega)
  have T := h.kp k
  refine ⟨T.row, fun b hb => n b (h.row.lt b hb).2 (h.gr b hb), fun x hx => ?_⟩
  have hI := h.it x hx
  exact ⟨(T.it x hx).own, n x.g (hI.own.lt x.g rfl).2 hI.ng, hI.by_⟩
set_option maxHeartbeats 1000000 in
theorem open7 {w : World} {N : Nat} {F : Nat → Prop} {tw db : Nat} {ov wv : Value} {xs : List It} {er : Nat → Addr} (t : Tn w F tw db ov wv (outs 40) xs) (hD : Dev w db 0 F40 40 N F) (hEF : ∀ w', Turns F w w' → Errs w' er) (fa : Nat → List Int) :
    Calls Tryz.prog 11 #[.pointer (some ⟨tw, 0, none⟩)] w fun e w' => ∃ jb bm, e = .returned (.tuple #[.pointer (some ⟨jb, 0, none⟩), .int .i64 0, .int .i64 0]) ∧ w.heap.size ≤ jb ∧ w.heap.size ≤ bm ∧ ∃ G, Jn w' db F40 40 N G jb 2 30 1 0 29 bm 0 [] fa ∧ (∀ i, G i → F i ∨ w.heap.size ≤ i) ∧ Tn w' G tw db ov wv (outs 40) xs ∧ Turns F w w' := by
  go_enter Tryz.func11, Tryz.ntmps11
  have dr : Turns F w w.drew := Turns.drewN F w 1
  have hDd : Dev w.drew db 0 F40 40 N F := hD.below ⟨rfl, rfl, rfl, Nat.le_refl _, fun _ _ => rfl⟩
  have hcs : ∀ w' : World, w'.heap[tw]? = w.heap[tw]? → w'.cell? ⟨tw, 0, none⟩ = some (.pointer (some ⟨db, 0, none⟩)) ∧ w'.cell? ⟨tw, 1, none⟩ = some (.int .i64 2) ∧ w'.cell? ⟨tw, 2, none⟩ = some (.int .i64 30) := fun w' e => by
    rw [t.box] at e
    exact ⟨by simp [World.cell?, e], by simp [World.cell?, e], by simp [World.cell?, e]⟩
  have k0 := hcs w.drew rfl
  go_wp2_with fail
  go_region_held3 (fun w' => w'.cell? ⟨tw, 0, none⟩ = some (.pointer (some ⟨db, 0, none⟩)) ∧ w'.cell? ⟨tw, 1, none⟩ = some (.int .i64 2) ∧ w'.cell? ⟨tw, 2, none⟩ = some (.int .i64 30))
    (first | exact k0 | exact k1)
    (first
      | (go_at_call 48; refine (open40 hDd (fun w' t' => hEF w' (dr.trans t' (fun _ _ h => h))) fa).mono ?_; rintro e w1 ⟨jb, bm, rfl, lj, lb, ⟨G, J, hG⟩, t1⟩; replace t1 := dr.trans t1 (fun _ _ h => h); have k1 := hcs w1 (t1.block tw (heap_lt t.box) t.gt)))
  have HT : Hid (Tn w1 G tw db ov wv (outs 40) xs) := t.to (Kp.same t1) hG
  go_wp2_with (go_at_call 15; refine (num7 _ _).mono ?_; rintro e wn ⟨rfl, hwn⟩; subst wn)
  all_goals refine bodyPost_ret (results_tmp3 rfl _ _ _) rfl ?_
  exact ⟨jb, bm, rfl, lj, lb, G, J, hG, HT.out, t1⟩
end Go.Proofs.YtnmdnglbpkpfdaaGreatDoor

/- JournalSaves: what its loop holds. -/
namespace Go.Proofs.YtnmdnglbpkpfdaaGreatDoor
open Go.RowKit Go.Maps
set_option maxRecDepth 100000
theorem Wt.form {w : World} {G : Nat → Prop} {v : Value} {xs : List It} (h : Wt w G v xs) (hx : xs.length = 10) : ∃ g c, v = .slice (some ⟨g, 0, none⟩) 10 c := by
  have r := h.row
  rw [hx] at r
  obtain ⟨g, c, e, _⟩ := (row_nat r).resolve_left (fun q => by cases q.2)
  exact ⟨g, c, e⟩
theorem sorted_le : ∀ (r l : List Nat), l.Pairwise (· < ·) → r.Pairwise (· < ·) → (∀ x ∈ l, x ∈ r) → l.length ≤ r.length
  | [], [], _, _, _ => Nat.le_refl _
  | [], x :: l, _, _, h => by have := h x List.mem_cons_self; cases this
  | b :: r, [], _, _, _ => Nat.zero_le _
  | b :: r, a :: l, hl, hr, h => by
    obtain ⟨l1, l2⟩ := List.pairwise_cons.1 hl
    obtain ⟨r1, r2⟩ := List.pairwise_cons.1 hr
    rcases List.mem_cons.1 (h a List.mem_cons_self) with e | e
    · have := sorted_le r l l2 r2 (fun x hx => (List.mem_cons.1 (h x (List.mem_cons_of_mem _ hx))).elim (fun q => by have := l1 x hx; omega) id)
      simpa using this
    · have := sorted_le r (a :: l) hl r2 (fun x hx => by
        have h1 := r1 a e
        rcases List.mem_cons.1 (h x hx) with q | q
        · rcases List.mem_cons.1 hx with p | p
          · omega
          · have := l1 x p; omega
        · exact q)
      simp only [List.length_cons] at this ⊢
      omega
/-- A transaction that writes but blocks outside writes ten at most. -/
theorem outs_few {m : List (Nat × Nat)} (hr : Rising m) (h : ∀ p ∈ m, p.1 ∈ outs 40) : m.length ≤ 10 := by
  have := sorted_le (outs 40) (m.map (·.1)) (by rw [List.pairwise_map]; exact hr) (by rw [outs_40]; decide) (fun x hx => by
    obtain ⟨p, hp, rfl⟩ := List.mem_map.1 hx
    exact h p hp)
  rw [outs_len] at this
  simpa using this
theorem outs_low {m : List (Nat × Nat)} (h : ∀ p ∈ m, p.1 ∈ outs 40) : Low m := fun p hp => by have := outs_in (h p hp); omega
/-- A state of the statement's: its mark, its two lists. -/
structure St where
  mark : Nat
  v : Value
  u : Value
  xs : List It
def St.cells (s : St) : List Value := [.int .i64 (s.mark : Nat), s.v, s.u]
def stC (l : List St) : List Value := l.flatMap St.cells
/-- It is as a transaction is that has written so much. -/
structure StOk (w : World) (G : Nat → Prop) (s : St) (m : List (Nat × Nat)) (f : Nat → List Int) : Prop where
  x : Wt w G s.v s.xs
  len : s.xs.length = 10
  n : Ns w G s.u (m.map (·.1))
  see : ∀ (k o : Nat) (x : It), (outs 40)[k]? = some o → s.xs[k]? = some x → x.bs = seesF F40 m f [] (fun _ => []) o
theorem StOk.kp {w w' : World} {G : Nat → Prop} {s : St} {m : List (Nat × Nat)} {f : Nat → List Int} (h : StOk w G s m f) (k : Kp G w w') : StOk w' G s m f := ⟨h.x.kp k, h.len, h.n.kp k, h.see⟩
/-- What the loop holds, but for the state itself. -/
structure SvY (B : Nat) (w : World) (G : Nat → Prop) (jb bm tb db q N K : Nat) (wv svv : Value) (la wm ns : Nat) (m : List (Nat × Nat)) (f : Nat → List Int) (sv : Value) (l : List SvI) (s : St) (ss : List St) : Prop where
  X : Tx w db F40 40 N G jb 2 30 1 0 29 bm 0 [] (fun _ => []) tb wm ns m f sv (la : Int)
  V : Svs w G tb wm sv l la
  box : w.heap[q]? = some (.cells #[.int .i64 0, s.v, s.u] 54)
  gq : ¬ G q
  mo : ∀ p ∈ m, p.1 ∈ outs 40
  row : w.ownsRow 0 54 3 svv ss.length (stC ss)
  gr : ∀ b, svv.ownBlock = some b → ¬ G b
  len : ss.length = l.length
  all : ∀ (i : Nat) t e, ss[i]? = some t → l[i]? = some e → t.mark = e.mark ∧ StOk w G t e.m e.f ∧ (∀ p ∈ e.m, p.1 ∈ outs 40) ∧ e.hn ≤ K
  ap : ∀ t ∈ ss, t.v.ownBlock ≠ s.v.ownBlock
  aw : wv.ownBlock ≠ s.v.ownBlock
  qs : svv.ownBlock ≠ some q
  lw : B ≤ wm
  lv : ∀ b, sv.ownBlock = some b → B ≤ b
  ls : ∀ b, s.v.ownBlock = some b → B ≤ b
  lr : ∀ b, svv.ownBlock = some b → B ≤ b
  kn : ns ≤ K ∧ la ≤ K ∧ l.length ≤ K
section
variable {B : Nat} {w w' : World} {G : Nat → Prop} {jb bm tb db q N K : Nat} {wv svv : Value} {la wm ns : Nat} {m : List (Nat × Nat)} {f : Nat → List Int} {sv : Value} {l : List SvI} {s : St} {ss : List St}
/-- The statement's own part, where it is kept. -/
theorem SvY.kept (h : SvY B w G jb bm tb db q N K wv svv la wm ns m f sv l s ss) (k : Kp G w w') {wm' ns' la' : Nat} {m' : List (Nat × Nat)} {f' : Nat → List Int} {sv' : Value} (X' : Tx w' db F40 40 N G jb 2 30 1 0 29 bm 0 [] (fun _ => []) tb wm' ns' m' f' sv' (la' : Int)) (V' : Svs w' G tb wm' sv' l la') (mo' : ∀ p ∈ m', p.1 ∈ outs 40) (lw' : B ≤ wm') (lv' : ∀ b, sv'.ownBlock = some b → B ≤ b) {K' : Nat} (hK : K ≤ K') (kn' : ns' ≤ K' ∧ la' ≤ K' ∧ l.length ≤ K') : SvY B w' G jb bm tb db q N K' wv svv la' wm' ns' m' f' sv' l s ss :=
  ⟨X', V', k.block _ _ _ _ h.gq h.box (by decide), h.gq, mo', k.row h.row (by decide) h.gr, h.gr, h.len, fun i t e ht he => by
    obtain ⟨a, b, c, d⟩ := h.all i t e ht he
    exact ⟨a, b.kp k, c, by omega⟩, h.ap, h.aw, h.qs, lw', lv', h.ls, h.lr, kn'⟩
theorem SvY.same (h : SvY B w G jb bm tb db q N K wv svv la wm ns m f sv l s ss) (r : Same0 w w' db F40 40 N G) : SvY B w' G jb bm tb db q N K wv svv la wm ns m f sv l s ss :=
  h.kept (Kp.same r.2) (h.X.same r) (h.V.same r.2) h.mo h.lw h.lv (Nat.le_refl _) h.kn
theorem SvY.below (h : SvY B w G jb bm tb db q N K wv svv la wm ns m f sv l s ss) (b : Below w.heap.size w w') : SvY B w' G jb bm tb db q N K wv svv la wm ns m f sv l s ss :=
  h.same ⟨h.X.D.below b, Below.turns b G⟩
/-- Behind a Write. -/
theorem SvY.wrote (h : SvY B w G jb bm tb db q N K wv svv la wm ns m f sv l s ss) {b g : Nat} {ds : List Int} (X' : Tx w' db F40 40 N G jb 2 30 1 0 29 bm 0 [] (fun _ => []) tb wm (ns + 1) (mput m b g) (updF f b ds) sv (la : Int)) (t : Turns (fun i => G i ∨ i = wm) w w') (ho : b ∈ outs 40) : SvY B w' G jb bm tb db q N (K + 1) wv svv la wm (ns + 1) (mput m b g) (updF f b ds) sv l s ss :=
  h.kept (Kp.turns t (fun x cs ty fz gx hx ht e => e.elim gx (fun e => mp_cells h.X.M hx e))) X' (h.V.step h.X.M t) (fun p hp => (mput_mem hp).elim (fun e => by rw [e]; exact ho) (h.mo p)) h.lw h.lv (by omega) (by have := h.kn; omega)
end
/-- A block of another type has turned: the transaction and its savepoints stay. -/
theorem Tx.turn1 {w w' : World} {d : Nat} {S : DevS} {k N : Nat} {G : Nat → Prop} {jb st sz : Nat} {seq : Int} {place : Nat} {free : Int} {bm nd : Nat} {a : List (Nat × Nat)} {fa : Nat → List Int} {tb wm ns : Nat} {m : List (Nat × Nat)} {f : Nat → List Int} {sv : Value} {last : Int} (h : Tx w d S k N G jb st sz seq place free bm nd a fa tb wm ns m f sv last) {g : Nat} {cs : Array Value} {t : Nat} {fz : Nat × Nat} (hg : w.heap[g]? = some (.cells cs t fz)) (ht : t ∉ jty) (hu : t ≠ 5) (gG : ¬ G g) (u : Turns (fun i => i = g) w w') : Tx w' d S k N G jb st sz seq place free bm nd a fa tb wm ns m f sv last := by
  have hb : ∀ (x : Nat) (ys : List Int), w.heap[x]? = some (bl ys) → ¬ x = g := fun x ys hx e => by
    rw [e, hg] at hx
    simp [bl] at hx
    exact hu hx.2.1
  exact h.move u (fun i hi e => gG (e ▸ hi)) (fun e => jty_jb h.J hg ht e.symm) (fun e => mp_cells h.A hg e.symm) (fun e => mp_cells h.M hg e.symm) (fun p hp => hb _ _ (h.V p hp).1) (fun p hp => hb _ _ (h.VA p hp).1) ((u.block tb (heap_lt h.T) (fun e => jty_tb h.T hg ht e.symm)).trans h.T)
theorem Svs.turn1 {w w' : World} {G : Nat → Prop} {tb wm : Nat} {sv : Value} {l : List SvI} {la : Nat} (h : Svs w G tb wm sv l la) {g : Nat} {cs : Array Value} {t : Nat} {fz : Nat × Nat} (hg : w.heap[g]? = some (.cells cs t fz)) (ht : t ∉ jty) (hu : t ≠ 5) (h1 : t ≠ 99) (h2 : t ≠ 31) (u : Turns (fun i => i = g) w w') : Svs w' G tb wm sv l la := by
  have hx : ∀ (x : Nat) (c : Array Value) (t' : Nat), w.heap[x]? = some (.cells c t') → t ≠ t' → ¬ x = g := fun x c t' hx n e => by
    rw [e, hg] at hx
    simp at hx
    exact n hx.2.1
  exact h.turns u (fun b hb e => own_typeJ h.row hg (fun q => ht (by simp [q])) (by rw [hb, e])) (fun s hs => ⟨hx _ _ _ (h.sp s hs).h h1, hx _ _ _ (h.sp s hs).q h2, fun e => mp_cells (h.sp s hs).M hg e.symm, fun p hp => hx _ _ _ ((h.sp s hs).V p hp).1 hu⟩)
/-- A row of lists has turned; another one stays. -/
theorem Wt.turnN {G : Nat → Prop} {w w' : World} {v : Value} {xs : List It} {g : Nat} {cs : Array Value} {fz : Nat × Nat} (h : Wt w G v xs) (hg : w.heap[g]? = some (.cells cs 56 fz)) (hn : v.ownBlock ≠ some g) (u : Turns (fun i => i = g) w w') : Wt w' G v xs := ⟨own_turns h.row u (fun b hb e => hn (by rw [hb, e])), h.gr, fun x hx => (h.it x hx).turn1 hg (by decide) u⟩
theorem Tn.turnN {w w' : World} {G : Nat → Prop} {tw db : Nat} {ov wv : Value} {os : List Nat} {xs : List It} {g : Nat} {cs : Array Value} {fz : Nat × Nat} (h : Tn w G tw db ov wv os xs) (hg : w.heap[g]? = some (.cells cs 56 fz)) (hn : wv.ownBlock ≠ some g) (u : Turns (fun i => i = g) w w') : Tn w' G tw db ov wv os xs :=
  ⟨(u.block tw (heap_lt h.box) (fun e => by rw [← e, h.box] at hg; simp at hg)).trans h.box, h.o.turn1 hg (by decide) u, h.x.turnN hg hn u, h.gt⟩
theorem Tn.turnQ {w w' : World} {G : Nat → Prop} {tw db : Nat} {ov wv : Value} {os : List Nat} {xs : List It} {g : Nat} {cs : Array Value} {fz : Nat × Nat} (h : Tn w G tw db ov wv os xs) (hg : w.heap[g]? = some (.cells cs 54 fz)) (u : Turns (fun i => i = g) w w') : Tn w' G tw db ov wv os xs :=
  ⟨(u.block tw (heap_lt h.box) (fun e => by rw [← e, h.box] at hg; simp at hg)).trans h.box, h.o.turn1 hg (by decide) u, h.x.turn1 hg (by decide) (by decide) u, h.gt⟩
theorem StOk.turnN {w w' : World} {G : Nat → Prop} {s : St} {m : List (Nat × Nat)} {f : Nat → List Int} {g : Nat} {cs : Array Value} {fz : Nat × Nat} (h : StOk w G s m f) (hg : w.heap[g]? = some (.cells cs 56 fz)) (hn : s.v.ownBlock ≠ some g) (u : Turns (fun i => i = g) w w') : StOk w' G s m f := ⟨h.x.turnN hg hn u, h.len, h.n.turn1 hg (by decide) u, h.see⟩
theorem StOk.turnQ {w w' : World} {G : Nat → Prop} {s : St} {m : List (Nat × Nat)} {f : Nat → List Int} {g : Nat} {cs : Array Value} {fz : Nat × Nat} (h : StOk w G s m f) (hg : w.heap[g]? = some (.cells cs 54 fz)) (u : Turns (fun i => i = g) w w') : StOk w' G s m f := ⟨h.x.turn1 hg (by decide) (by decide) u, h.len, h.n.turn1 hg (by decide) u, h.see⟩
/-- The block that a row of its own lies in. -/
theorem own_heap {w : World} {base e sz n g cap : Nat} {xs : List Value} (h : w.ownsRow base e sz (.slice (some ⟨g, 0, none⟩) n cap) n xs) : ∃ cs fz, w.heap[g]? = some (.cells cs e fz) := by
  rcases h.2 with ⟨q, _⟩ | ⟨g', cap', cur, q, _, hh, _⟩
  · cases q
  · cases q; exact ⟨_, _, hh⟩
section
variable {B : Nat} {w w' : World} {G : Nat → Prop} {jb bm tb db q N K : Nat} {wv svv : Value} {la wm ns : Nat} {m : List (Nat × Nat)} {f : Nat → List Int} {sv : Value} {l : List SvI} {s : St} {ss : List St}
/-- now.want[k] = x. -/
theorem SvY.put (h : SvY B w G jb bm tb db q N K wv svv la wm ns m f sv l s ss) {gn cn k : Nat} {x : It} (hv : s.v = .slice (some ⟨gn, 0, none⟩) 10 cn) (hx : Wt w G s.v s.xs) (hl : s.xs.length = 10) (I : ItOk w G x) {tw : Nat} {ov : Value} {os : List Nat} {ys : List It} (T : Tn w G tw db ov wv os ys) :
    SvY B (w.setCell ⟨gn, k, none⟩ x.val) G jb bm tb db q N K wv svv la wm ns m f sv l ⟨s.mark, s.v, s.u, s.xs.set k x⟩ ss ∧ Wt (w.setCell ⟨gn, k, none⟩ x.val) G s.v (s.xs.set k x) ∧ Tn (w.setCell ⟨gn, k, none⟩ x.val) G tw db ov wv os ys ∧ Turns (fun i => i = gn) w (w.setCell ⟨gn, k, none⟩ x.val) := by
  have r := hx.row
  rw [hv, hl] at r
  obtain ⟨cs, fz, hg⟩ := own_heap r
  have u := Turns.cell w gn k x.val
  have gG : ¬ G gn := hx.gr gn (by rw [hv]; rfl)
  refine ⟨⟨h.X.turn1 hg (by decide) (by decide) gG u, h.V.turn1 hg (by decide) (by decide) (by decide) (by decide) u, (u.block q (heap_lt h.box) (fun e => by rw [← e, h.box] at hg; simp at hg)).trans h.box, h.gq, h.mo, own_turn1 h.row hg (by decide) u, h.gr, h.len, fun i t e ht he => ?_, h.ap, h.aw, h.qs, h.lw, h.lv, h.ls, h.lr, h.kn⟩, ⟨?_, hx.gr, fun y hy => ?_⟩, T.turnN hg (fun e => h.aw (by rw [e, hv]; rfl)) u, u⟩
  · obtain ⟨a, b, c, d⟩ := h.all i t e ht he
    exact ⟨a, b.turnN hg (fun e => h.ap t (List.mem_of_getElem? ht) (by rw [e, hv]; rfl)) u, c, d⟩
  · rw [List.length_set, hl, List.map_set, hv]
    exact (r.stored k x.val).1
  · rcases List.mem_or_eq_of_mem_set hy with hy | rfl
    · exact (hx.it y hy).turn1 hg (by decide) u
    · exact I.turn1 hg (by decide) u
/-- now.seen = u. -/
theorem SvY.seen (h : SvY B w G jb bm tb db q N K wv svv la wm ns m f sv l s ss) (u' : Value) {tw : Nat} {ov : Value} {os : List Nat} {ys : List It} (T : Tn w G tw db ov wv os ys) :
    SvY B (w.setCell ⟨q, 2, none⟩ u') G jb bm tb db q N K wv svv la wm ns m f sv l ⟨s.mark, s.v, u', s.xs⟩ ss ∧ Tn (w.setCell ⟨q, 2, none⟩ u') G tw db ov wv os ys ∧ Turns (fun i => i = q) w (w.setCell ⟨q, 2, none⟩ u') := by
  have u := Turns.cell w q 2 u'
  have hg := h.box
  refine ⟨⟨h.X.turn1 hg (by decide) (by decide) h.gq u, h.V.turn1 hg (by decide) (by decide) (by decide) (by decide) u, heap_setCell_same _ q 2 _ _ _ hg, h.gq, h.mo, own_turns h.row u (fun b hb e => h.qs (by rw [hb, e])), h.gr, h.len, fun i t e ht he => ?_, h.ap, h.aw, h.qs, h.lw, h.lv, h.ls, h.lr, h.kn⟩, T.turnQ hg u, u⟩
  obtain ⟨a, b, c, d⟩ := h.all i t e ht he
  exact ⟨a, b.turnQ hg u, c, d⟩
end
end Go.Proofs.YtnmdnglbpkpfdaaGreatDoor

/- JournalSaves: back to a save. -/
namespace Go.Proofs.YtnmdnglbpkpfdaaGreatDoor
open Go.RowKit Go.Maps
set_option maxRecDepth 100000
theorem stC_take (l : List St) : ∀ a : Nat, (stC l).take (a * 3) = stC (l.take a) := by
  induction l with
  | nil => intro a; simp [stC]
  | cons s l ih =>
    intro a
    cases a with
    | zero => simp [stC]
    | succ a =>
      have := ih a
      rw [show (a + 1) * 3 = a * 3 + 1 + 1 + 1 by omega]
      simp only [stC, List.flatMap_cons, St.cells, List.take_succ_cons, List.cons_append, List.nil_append] at *
      rw [this]
/-- The first ones of a row of one's own. -/
theorem own_take {w : World} {base e size g cap n a : Nat} {xs : List Value} (h : w.ownsRow base e size (.slice (some ⟨g, 0, none⟩) n cap) n xs) (ha : a ≤ n) : w.ownsRow base e size (.slice (some ⟨g, 0, none⟩) a cap) a (xs.take (a * size)) := by
  obtain ⟨h1, h2⟩ := h
  have hm : a * size ≤ n * size := Nat.mul_le_mul_right _ ha
  rcases h2 with ⟨q, _⟩ | ⟨g', cap', cur, hv, hg, hh, hn, hcap, hsz, htake⟩
  · cases q
  · cases hv
    refine ⟨by rw [List.length_take, h1, Nat.min_eq_left hm], .inr ⟨g, cap, cur, rfl, hg, hh, by omega, hcap, hsz, ?_⟩⟩
    rw [← htake, List.take_take, Nat.min_eq_left hm]
theorem SvY.cut {B : Nat} {w w3 w4 : World} {G : Nat → Prop} {jb bm tb db q N K : Nat} {wv : Value} {gs cs la wm ns : Nat} {m : List (Nat × Nat)} {f : Nat → List Int} {sv sv' : Value} {l : List SvI} {s : St} {ss : List St} {wm' j : Nat} {eI : SvI} {t : St} {v' u' : Value} {tw : Nat} {ov : Value} {os : List Nat} {ys : List It}
    (h : SvY B w G jb bm tb db q N K wv (.slice (some ⟨gs, 0, none⟩) ss.length cs) la wm ns m f sv l s ss) (k : Kp G w w3) (hi : l[j]? = some eI) (ht : ss[j]? = some t)
    (X3 : Tx w3 db F40 40 N G jb 2 30 1 0 29 bm 0 [] (fun _ => []) tb wm' eI.hn eI.m eI.f sv' (la : Int)) (V3 : Svs w3 G tb wm' sv' (l.take (j + 1)) la) (lwm : w.heap.size ≤ wm') (ob : sv'.ownBlock = sv.ownBlock) (hB : B ≤ w.heap.size)
    (xv : Wt w3 G v' t.xs) (nu : Ns w3 G u' (eI.m.map (·.1))) (fv : ∀ b, v'.ownBlock = some b → w.heap.size ≤ b) (T : Tn w3 G tw db ov wv os ys) (hw : ∀ b, wv.ownBlock = some b → b < w.heap.size)
    (u : Turns (fun i => i = q) w3 w4) (b4 : w4.heap[q]? = some (.cells #[.int .i64 0, v', u'] 54)) :
    SvY B w4 G jb bm tb db q N (K + 1) wv (.slice (some ⟨gs, 0, none⟩) (j + 1) cs) la wm' eI.hn eI.m eI.f sv' (l.take (j + 1)) ⟨0, v', u', t.xs⟩ (ss.take (j + 1)) ∧ StOk w4 G ⟨0, v', u', t.xs⟩ eI.m eI.f ∧ Tn w4 G tw db ov wv os ys := by
  have r3 := k.row h.row (by decide) h.gr
  have box3 := k.block _ _ _ _ h.gq h.box (by decide)
  have hkn := h.kn
  have hjl : j < ss.length := (List.getElem?_eq_some_iff.1 ht).1
  obtain ⟨a1, a2, a3, a4⟩ := h.all j t eI ht hi
  have So3 : StOk w3 G ⟨0, v', u', t.xs⟩ eI.m eI.f := ⟨xv, a2.len, nu, a2.see⟩
  obtain ⟨gv, cv, hv⟩ := xv.form a2.len
  have lgv := fv gv (by rw [hv]; rfl)
  have hlen : (ss.take (j + 1)).length = j + 1 := by rw [List.length_take]; omega
  refine ⟨⟨X3.turn1 box3 (by decide) (by decide) h.gq u, V3.turn1 box3 (by decide) (by decide) (by decide) (by decide) u, b4, h.gq, a3, ?_, h.gr, ?_, fun i t' e ht' he => ?_, fun t' ht' e => ?_, fun e => ?_, h.qs, Nat.le_trans hB lwm, fun b hb => h.lv b (by rw [← ob]; exact hb), fun b hb => Nat.le_trans hB (fv b hb), h.lr, ?_⟩, So3.turnQ box3 u, T.turnQ box3 u⟩
  · rw [hlen, ← stC_take]
    exact own_turns (own_take r3 (by omega)) u (fun b hb e => h.qs (by rw [← e]; exact hb))
  · have := h.len
    rw [List.length_take, List.length_take]; omega
  · have hij : i < j + 1 := by have := (List.getElem?_eq_some_iff.1 ht').1; omega
    rw [List.getElem?_take_of_lt hij] at ht' he
    obtain ⟨c1, c2, c3, c4⟩ := h.all i t' e ht' he
    exact ⟨c1, (c2.kp k).turnQ box3 u, c3, by omega⟩
  · have hm : t' ∈ ss := List.mem_of_mem_take ht'
    obtain ⟨i, hil, hit⟩ := List.getElem_of_mem hm
    have hit' : ss[i]? = some t' := by rw [List.getElem?_eq_getElem hil, hit]
    have hil2 : i < l.length := by rw [← h.len]; exact hil
    obtain ⟨c1, c2, c3, c4⟩ := h.all i t' l[i] hit' (List.getElem?_eq_getElem hil2)
    have e' : t'.v.ownBlock = some gv := by rw [e]; show v'.ownBlock = _; rw [hv]; rfl
    have := (c2.x.row.lt gv e').2
    omega
  · have e' : wv.ownBlock = some gv := by rw [e]; show v'.ownBlock = _; rw [hv]; rfl
    have := hw gv e'
    omega
  · rw [List.length_take]; omega
end Go.Proofs.YtnmdnglbpkpfdaaGreatDoor

/- Edits that came in. -/
namespace Go.Proofs.YtnmdnglbpkpfdaaGreatDoor
open Go.RowKit
set_option maxRecDepth 100000
/-- An edit that came in. -/
structure Ed where
  kind : Int
  kk : Int
  pb : Int
  da : Option Addr
  dn : Nat
  dc : Nat
  ds : List Int
def Ed.cells (e : Ed) : List Value := [.int .i64 e.kind, .int .i64 e.kk, .int .i64 e.pb, .slice e.da e.dn e.dc]
end Go.Proofs.YtnmdnglbpkpfdaaGreatDoor

/- JournalSaves: edits; what its loop holds. -/
namespace Go.Proofs.YtnmdnglbpkpfdaaGreatDoor
open Go.RowKit Go.Maps
set_option maxRecDepth 100000
theorem put_see {m : List (Nat × Nat)} {f fa : Nat → List Int} {xs : List It} (hr : Rising m) (h : ∀ (k o : Nat) (x : It), (outs 40)[k]? = some o → xs[k]? = some x → x.bs = seesF F40 m f [] fa o) {j o g : Nat} (hoj : (outs 40)[j]? = some o) (y : It) : ∀ (k o' : Nat) (x : It), (outs 40)[k]? = some o' → (xs.set j y)[k]? = some x → x.bs = seesF F40 (mput m o g) (updF f o y.bs) [] fa o' := by
  intro k o' x ho hx
  by_cases e : j = k
  · subst e
    rw [hoj] at ho
    cases ho
    have hl : j < (xs.set j y).length := (List.getElem?_eq_some_iff.1 hx).1
    rw [List.length_set] at hl
    rw [List.getElem?_set_self hl] at hx
    cases hx
    unfold seesF
    rw [lk_mput m o g o hr, if_pos rfl]
    simp [updF]
  · rw [List.getElem?_set_ne e] at hx
    have hnd : (outs 40).Nodup := by rw [outs_40]; decide
    have hoo : ¬ o = o' := fun q => e ((List.getElem?_inj (List.getElem?_eq_some_iff.1 hoj).1 hnd).1 (by rw [hoj, ho, q]))
    rw [h k o' x ho hx]
    unfold seesF
    rw [lk_mput m o g o' hr, if_neg hoo]
    simp [updF, show ¬ o' = o from fun q => hoo q.symm]
theorem StOk.at {w : World} {G : Nat → Prop} {s : St} {m : List (Nat × Nat)} {f : Nat → List Int} (h : StOk w G s m f) {gn cn j : Nat} {x : It} (hv : s.v = .slice (some ⟨gn, 0, none⟩) 10 cn) (hj : j < 10) (hx : s.xs[j]? = some x) : w.cell? ⟨gn, j, none⟩ = some (.slice (some ⟨x.g, 0, none⟩) 512 x.cap) := by
  have r := h.x.row
  rw [h.len, hv] at r
  rw [r.cellAt j (by omega), List.getElem?_map, hx]
  rfl
theorem Jn.below {w w' : World} {d : Nat} {S : DevS} {k N : Nat} {G : Nat → Prop} {jb st sz : Nat} {seq : Int} {place : Nat} {free : Int} {bm nd : Nat} {a : List (Nat × Nat)} {fa : Nat → List Int} (h : Jn w d S k N G jb st sz seq place free bm nd a fa) (b : Below w.heap.size w w') : Jn w' d S k N G jb st sz seq place free bm nd a fa :=
  ⟨h.D.below b, (b.block jb (heap_lt h.J)).trans h.J, h.A.turns (Below.turns b (fun _ => False)) id, h.VA.below b, h.gj, h.ga, h.gva, h.ja⟩
theorem Jn.turn1 {w w' : World} {d : Nat} {S : DevS} {k N : Nat} {G : Nat → Prop} {jb st sz : Nat} {seq : Int} {place : Nat} {free : Int} {bm nd : Nat} {a : List (Nat × Nat)} {fa : Nat → List Int} (h : Jn w d S k N G jb st sz seq place free bm nd a fa) {g : Nat} {cs : Array Value} {t : Nat} {fz : Nat × Nat} (hg : w.heap[g]? = some (.cells cs t fz)) (ht : t ∉ jty) (hu : t ≠ 5) (gG : ¬ G g) (u : Turns (fun i => i = g) w w') : Jn w' d S k N G jb st sz seq place free bm nd a fa := by
  refine ⟨h.D.turns u (fun i hi e => gG (e ▸ hi)), (u.block jb (heap_lt h.J) (fun e => jty_jb h.J hg ht e.symm)).trans h.J, h.A.turns u (fun e => mp_cells h.A hg e.symm), h.VA.turns u (fun p hp e => ?_), h.gj, h.ga, h.gva, h.ja⟩
  have h1 := (h.VA p hp).1
  rw [e, hg] at h1
  simp [bl] at h1
  exact hu h1.2.1
theorem SvY.more {B : Nat} {w : World} {G : Nat → Prop} {jb bm tb db q N K : Nat} {wv svv : Value} {la wm ns : Nat} {m : List (Nat × Nat)} {f : Nat → List Int} {sv : Value} {l : List SvI} {s : St} {ss : List St} (h : SvY B w G jb bm tb db q N K wv svv la wm ns m f sv l s ss) : SvY B w G jb bm tb db q N (K + 1) wv svv la wm ns m f sv l s ss :=
  h.kept ⟨Nat.le_refl _, fun _ _ _ _ _ hx _ => hx⟩ h.X h.V h.mo h.lw h.lv (by omega) (by have := h.kn; omega)
end Go.Proofs.YtnmdnglbpkpfdaaGreatDoor

/- Commit of JournalOwn's transaction: where the blocks away lie. -/
namespace Go.Proofs.YtnmdnglbpkpfdaaGreatDoor
open Go.RowKit Go.Maps
set_option maxRecDepth 100000
/-- What the Commit leaves. -/
structure ComO (w w' : World) (db : Nat) (G : Nat → Prop) (jb tb bm : Nat) (m : List (Nat × Nat)) (f fa : Nat → List Int) : Prop where
  tr : Turns (fun i => G i ∨ i = bm ∨ i = jb ∨ i = tb) w w'
  ex : ∃ S N G' seq place free nd a fa', S.off = false ∧ Jn w' db S 40 N G' jb 2 30 seq place free bm nd a fa' ∧ (∀ i, G' i → G i ∨ w.heap.size ≤ i) ∧ (∀ p ∈ a, p ∈ m) ∧ ∀ o, o < 2 ∨ 2 + 30 ≤ o → seesF S [] fa' a fa' o = seesF F40 m f [] fa o
theorem commitO {w : World} {db N : Nat} {G : Nat → Prop} {jb bm tb wm ns : Nat} {m : List (Nat × Nat)} {f fa : Nat → List Int} {sv : Value} {last : Int} (h : Tx w db F40 40 N G jb 2 30 1 0 29 bm 0 [] fa tb wm ns m f sv last) (hl : m.length ≤ 10) (hm : Low m) (hN : N ≤ 1000000) :
    Calls Tryz.prog 14 #[.pointer (some ⟨tb, 0, none⟩)] w fun e w' => e = .returned (.int .i64 0) ∧ ComO w w' db G jb tb bm m f fa := by
  rcases Nat.eq_zero_or_pos m.length with h0 | h1
  · obtain rfl := List.eq_nil_of_length_eq_zero h0
    refine (commit_none h.D h.T h.J h.M h.tj h.tm h.jm h.gj h.gt h.gm F40_calm.on).mono ?_
    rintro e w' ⟨rfl, T', J', D', t⟩
    refine ⟨rfl, t.mono (fun i _ r => ?_), F40, N, G, 1, 0, 29, 0, [], fa, F40_calm.on, ⟨D', J', h.A.turns t (fun e => ?_), (fun p hp => by cases hp), h.gj, h.ga, (fun p hp => by cases hp), h.ja⟩, fun i hi => Or.inl hi, (fun p hp => hp), fun o _ => rfl⟩
    · rcases r with r | r | r
      · exact Or.inl r
      · exact Or.inr (Or.inr (Or.inr r))
      · exact Or.inr (Or.inr (Or.inl r))
    · rcases e with e | e | e
      · exact h.ga e
      · exact h.ta e.symm
      · exact h.ja e.symm
  · refine (txCommit_ok h h1 (by omega) (fun p hp => by cases hp) hm (by omega) (by omega) (by omega) (by omega) (by omega) (F40_calm.lasts _) (by omega) (by omega) (by omega) (by omega)).mono ?_
    rintro e w' ⟨rfl, T', t, G', J', hG'⟩
    refine ⟨rfl, t, _, _, G', _, _, _, _, _, _, (F40_calm.com _ _ _ _ _ _).on, J', hG', fun p hp => (mmerge_mem m [] p hp).resolve_right (fun q => by cases q), fun o ho => ?_⟩
    have e1 : lk (mmerge [] m) o = lk m o := by rw [lk_merge m [] o List.Pairwise.nil h.M.ris]; simp [lk]
    have e2 := rdB_com (st := 2) (sz := 30) F40_good 0 1 f m (by omega) (by omega) (by omega) (fun p hp => (h.V p hp).2) o ho
    unfold seesF
    rw [e1, e2]
    cases e : lk m o <;> simp [lk, mergeF, e]
end Go.Proofs.YtnmdnglbpkpfdaaGreatDoor

/- annexlaw7.town by its contract, of any shape that may be. -/
namespace Go.Proofs.YtnmdnglbpkpfdaaGreatDoor
open Go.RowKit Go.Maps
set_option maxRecDepth 100000
/-- A town: its device, its journal's place, the blocks outside, what they should hold. -/
structure Tg (w : World) (G : Nat → Prop) (tw db st sz : Nat) (ov wv : Value) (outs : List Nat) (xs : List It) : Prop where
  box : w.heap[tw]? = some (.cells #[.pointer (some ⟨db, 0, none⟩), .int .i64 (st : Nat), .int .i64 (sz : Nat), ov, wv] 42)
  o : Ns w G ov outs
  x : Wt w G wv xs
  gt : ¬ G tw
theorem Tg.kp {G : Nat → Prop} {w w' : World} {tw db st sz : Nat} {ov wv : Value} {outs : List Nat} {xs : List It} (h : Tg w G tw db st sz ov wv outs xs) (k : Kp G w w') : Tg w' G tw db st sz ov wv outs xs := ⟨k.block _ _ _ _ h.gt h.box (by decide), h.o.kp k, h.x.kp k, h.gt⟩
/-- The town's other parts, where its list of blocks has grown (the list itself is taken anew). -/
structure Tg0 (w : World) (G : Nat → Prop) (tw db st sz : Nat) (ov wv : Value) (xs : List It) : Prop where
  box : w.heap[tw]? = some (.cells #[.pointer (some ⟨db, 0, none⟩), .int .i64 (st : Nat), .int .i64 (sz : Nat), ov, wv] 42)
  x : Wt w G wv xs
  gt : ¬ G tw
theorem Tg.grow1 {st sz : Nat} {w w5 : World} {G : Nat → Prop} {tw db L : Nat} {ov wv : Value} {os : List Nat} {xs : List It} {ys : List Value} {o : Obj} (h : Tg w G tw db st sz ov wv os xs) (htl : tw < w.heap.size) (r : w.ownsRow 0 3 1 ov L ys) (hg : (w.alloc o).grownBy w5 ov.ownBlock) : Tg0 w5 G tw db st sz ov wv xs := by
  have t : Turns (fun i => ov.ownBlock = some i) w w5 := (Turns.alloc _ w o).trans (Turns.grown hg (fun b hb => hb)) (fun _ _ e => e)
  have hrow := h.x.row
  refine ⟨(t.block tw htl (own_typeJ r h.box (by decide))).trans h.box, ⟨own_turns hrow t (fun b hb e => ?_), h.x.gr, fun x hx => ?_⟩, h.gt⟩
  · rcases hrow.2 with ⟨q, _⟩ | ⟨g, cap, cur, q, _, hh, _⟩
    · rw [q] at hb; cases hb
    · rw [q] at hb; cases hb
      exact own_typeJ r hh (by decide) e
  · have hi := h.x.it x hx
    refine ⟨own_turns hi.own t (fun b hb e => ?_), hi.ng, hi.by_⟩
    rcases hi.own.2 with ⟨q, _⟩ | ⟨g, cap, cur, q, _, hh, _⟩
    · rw [q] at hb; cases hb
    · rw [q] at hb; cases hb
      exact own_typeJ r hh (by decide) e
theorem Tg.grow2 {st sz : Nat} {w w5 : World} {G : Nat → Prop} {tw db : Nat} {ov wv : Value} {os : List Nat} {xs : List It} {o : Obj} (h : Tg w G tw db st sz ov wv os xs) (hg : (w.alloc o).grownBy w5 wv.ownBlock) : w5.heap[tw]? = some (.cells #[.pointer (some ⟨db, 0, none⟩), .int .i64 (st : Nat), .int .i64 (sz : Nat), ov, wv] 42) := by
  have t : Turns (fun i => wv.ownBlock = some i) w w5 := (Turns.alloc _ w o).trans (Turns.grown hg (fun b hb => hb)) (fun _ _ e => e)
  exact (t.block tw (heap_lt h.box) (own_typeJ h.x.row h.box (by decide))).trans h.box
theorem Tg.out {st sz : Nat} {w w5 : World} {G : Nat → Prop} {tw db L g5 c5 b : Nat} {ov wv : Value} {os : List Nat} {xs : List It} {o : Obj} (h : Tg w G tw db st sz ov wv os xs) (hL : os.length = L) (hGl : ∀ i, G i → i < w.heap.size) (ho : w5.ownsRow 0 3 1 (.slice (some ⟨g5, 0, none⟩) (L + 1) c5) (L + 1) ((os.map fun x => Value.int .i64 (x : Nat)) ++ [.int .i64 (b : Nat)])) (hg : (w.alloc o).grownBy w5 ov.ownBlock) (hat : ov.ownBlock = some g5 ∨ g5 = (w.alloc o).heap.size) :
    Tg (w5.setCell ⟨tw, 3, none⟩ (.slice (some ⟨g5, 0, none⟩) (L + 1) c5)) G tw db st sz (.slice (some ⟨g5, 0, none⟩) (L + 1) c5) wv (os ++ [b]) xs ∧ Turns (fun i => i = tw ∨ ov.ownBlock = some i) w (w5.setCell ⟨tw, 3, none⟩ (.slice (some ⟨g5, 0, none⟩) (L + 1) c5)) := by
  have t : Turns (fun i => ov.ownBlock = some i) w w5 := (Turns.alloc _ w o).trans (Turns.grown hg (fun b hb => hb)) (fun _ _ e => e)
  have T5 := h.grow1 (heap_lt h.box) h.o.row hg
  have u := Turns.cell w5 tw 3 (.slice (some ⟨g5, 0, none⟩) (L + 1) c5)
  have hs : (w.alloc o).heap.size = w.heap.size + 1 := by simp
  refine ⟨⟨heap_setCell_same _ tw 3 _ _ _ T5.box, ⟨?_, fun b hb => ?_⟩, T5.x.turn1 T5.box (by decide) (by decide) u, h.gt⟩, (t.mono (fun _ _ e => Or.inr e)).trans u (fun _ _ e => Or.inl e)⟩
  · rw [List.length_append, hL, List.map_append]
    exact own_turn1 ho T5.box (by decide) u
  · cases hb
    rcases hat with e | e
    · exact h.o.gr g5 e
    · exact fun r => by have := hGl g5 r; omega
theorem Tg.want {st sz : Nat} {w w5 : World} {G : Nat → Prop} {tw db L g5 c5 : Nat} {ov wv : Value} {os : List Nat} {xs : List It} {x : It} {o : Obj} (h : Tg w G tw db st sz ov wv os xs) (hL : xs.length = L) (hx : ItOk w G x) (hGl : ∀ i, G i → i < w.heap.size) (ho : w5.ownsRow 0 56 1 (.slice (some ⟨g5, 0, none⟩) (L + 1) c5) (L + 1) (xs.map It.val ++ [x.val])) (hg : (w.alloc o).grownBy w5 wv.ownBlock) (hat : wv.ownBlock = some g5 ∨ g5 = (w.alloc o).heap.size) :
    Tg (w5.setCell ⟨tw, 4, none⟩ (.slice (some ⟨g5, 0, none⟩) (L + 1) c5)) G tw db st sz ov (.slice (some ⟨g5, 0, none⟩) (L + 1) c5) os (xs ++ [x]) ∧ Turns (fun i => i = tw ∨ wv.ownBlock = some i) w (w5.setCell ⟨tw, 4, none⟩ (.slice (some ⟨g5, 0, none⟩) (L + 1) c5)) := by
  have t : Turns (fun i => wv.ownBlock = some i) w w5 := (Turns.alloc _ w o).trans (Turns.grown hg (fun b hb => hb)) (fun _ _ e => e)
  have X5 := h.grow2 hg
  have u := Turns.cell w5 tw 4 (.slice (some ⟨g5, 0, none⟩) (L + 1) c5)
  have hs : (w.alloc o).heap.size = w.heap.size + 1 := by simp
  have hit : ∀ y, ItOk w G y → ItOk (w5.setCell ⟨tw, 4, none⟩ (.slice (some ⟨g5, 0, none⟩) (L + 1) c5)) G y := fun y hy => by
    refine ItOk.turn1 (w := w5) ⟨own_turns hy.own t (fun b hb e => ?_), hy.ng, hy.by_⟩ X5 (by decide) u
    rcases hy.own.2 with ⟨q, _⟩ | ⟨g, cap, cur, q, _, hh, _⟩
    · rw [q] at hb; cases hb
    · rw [q] at hb; cases hb
      exact own_typeJ h.x.row hh (by decide) e
  have hos : w5.ownsRow 0 3 1 ov os.length (os.map fun x => Value.int .i64 (x : Nat)) := own_turns h.o.row t (fun b hb e => by
    rcases h.o.row.2 with ⟨q, _⟩ | ⟨g, cap, cur, q, _, hh, _⟩
    · rw [q] at hb; cases hb
    · rw [q] at hb; cases hb
      exact own_typeJ h.x.row hh (by decide) e)
  refine ⟨⟨heap_setCell_same _ tw 4 _ _ _ X5, ⟨own_turn1 hos X5 (by decide) u, h.o.gr⟩, ⟨?_, fun b hb => ?_, fun y hy => ?_⟩, h.gt⟩, (t.mono (fun _ _ e => Or.inr e)).trans u (fun _ _ e => Or.inl e)⟩
  · rw [List.length_append, hL, List.map_append]
    exact own_turn1 ho X5 (by decide) u
  · cases hb
    rcases hat with e | e
    · exact h.x.gr g5 e
    · exact fun r => by have := hGl g5 r; omega
  · rcases List.mem_append.1 hy with hy | hy
    · exact hit y (h.x.it y hy)
    · simp at hy; subst hy; exact hit y hx
end Go.Proofs.YtnmdnglbpkpfdaaGreatDoor

/- The lines of a descriptor as they are read: linesOf by its contract, of any block. -/
namespace Go.Proofs.YtnmdnglbpkpfdaaGreatDoor
open Go.RowKit Go.Maps
set_option maxRecDepth 100000
/-- What is read of a descriptor's head. -/
def dsA (q : List Int) : Int × Nat × Int := rdNum 4 508 q 0 0 24
def dsB (q : List Int) : Int × Nat × Int := rdNum 8 508 q (dsA q).2.1 (dsA q).2.2 9223372036854775807
/-- Where the reader stands behind i lines, and its error. -/
def dsP (q : List Int) : Nat → Nat × Int
  | 0 => ((dsB q).2.1, (dsB q).2.2)
  | i + 1 => ((rdNum 4 508 q (rdNum 4 508 q (dsP q i).1 (dsP q i).2 4294967295).2.1 (rdNum 4 508 q (dsP q i).1 (dsP q i).2 4294967295).2.2 2).2.1, (rdNum 4 508 q (rdNum 4 508 q (dsP q i).1 (dsP q i).2 4294967295).2.1 (rdNum 4 508 q (dsP q i).1 (dsP q i).2 4294967295).2.2 2).2.2)
/-- The line i. -/
def dsL (q : List Int) (i : Nat) : Nat × Nat := ((rdNum 4 508 q (dsP q i).1 (dsP q i).2 4294967295).1.toNat, (rdNum 4 508 q (rdNum 4 508 q (dsP q i).1 (dsP q i).2 4294967295).2.1 (rdNum 4 508 q (dsP q i).1 (dsP q i).2 4294967295).2.2 2).1.toNat)
/-- The lines of a descriptor of that seq; none, if it is no such. -/
def linesR (bs : List Int) (seq : Int) : List (Nat × Nat) :=
  if begs bs [65, 78, 88, 68] = true ∧ (dsB ((bs.drop 4).take 508)).1 = seq ∧ (dsP ((bs.drop 4).take 508) (dsA ((bs.drop 4).take 508)).1.toNat).2 = 0 then (List.range (dsA ((bs.drop 4).take 508)).1.toNat).map (dsL ((bs.drop 4).take 508)) else []
end Go.Proofs.YtnmdnglbpkpfdaaGreatDoor

/- A commit as it is read; a block of the log as it was: isCommit, shown by their contracts. -/
namespace Go.Proofs.YtnmdnglbpkpfdaaGreatDoor
open Go.RowKit Go.Maps
set_option maxRecDepth 100000
def isCom (bs : List Int) (seq : Int) : Bool := begs bs [65, 78, 88, 67] && decide ((rdNum 8 504 ((bs.drop 8).take 504) 0 0 9223372036854775807).1 = seq)
/-- A block of the log as it was; may it look so? -/
def shB (bs : List Int) (f : Nat) : List Int := if f = 1 then [65, 78, 88, 68] ++ bs.drop 4 else if f = 2 then [65, 78, 88, 67] ++ bs.drop 4 else bs
def shOk (bs : List Int) (f : Nat) : Bool := if f = 1 ∨ f = 2 then begs bs [0, 0, 0, 0] else true
end Go.Proofs.YtnmdnglbpkpfdaaGreatDoor
