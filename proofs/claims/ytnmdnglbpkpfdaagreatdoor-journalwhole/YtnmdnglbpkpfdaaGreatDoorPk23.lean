/- Plain mathematics: a crash under whatever a Commit or a Check does. -/
import Derived.Test.YtnmdnglbpkpfdaaGreatDoorPk22
import Derived.Test.YtnmdnglbpkpfdaaGreatDoorPk19
import Derived.Test.YtnmdnglbpkpfdaaGreatDoorPk03
namespace Go.Proofs.YtnmdnglbpkpfdaaGreatDoor
open Go.RowKit Go.Maps
set_option maxRecDepth 100000
/-- A run that met no error had the power for it. -/
theorem runP_lasts {k : Nat} : ∀ (os : List Opn) (S : DevS), S.off = false → (∀ q, some q ∈ os → q.1 < k ∧ q.2.length = 512) → (runP k (0, S) os).1 = 0 → Lasts S os.length
  | [], S, ho, _, _ => ⟨ho, by simp; omega⟩
  | o :: os, S, ho, hq, he => by
    by_cases hb : (burnt S).off = true
    · exfalso
      have h : stepP k (0, S) o = (3, burnt S) := by
        cases o with
        | none => simp [stepP, pF, fkE, fkS, flE, flS, hb]
        | some q =>
          obtain ⟨h1, h2⟩ := hq q (List.mem_cons_self ..)
          simp [stepP, pW, wkE, wkS, wrE, wrS, hb, h1, h2]
      have e : runP k (0, S) (o :: os) = (3, burnt S) := by
        show runP k (stepP k (0, S) o) os = _
        rw [h]
        exact runP_stop k 3 _ (by decide) os
      rw [e] at he
      simp at he
    · have hb : (burnt S).off = false := by simpa using hb
      obtain ⟨S', hS', hl, ho'⟩ : ∃ S', stepP k (0, S) o = (0, S') ∧ S'.fuse = (burnt S).fuse ∧ S'.off = false := by
        cases o with
        | none => exact ⟨flushed (burnt S), by simp [stepP, pF, fkE, fkS, flE, flS, hb], rfl, hb⟩
        | some q =>
          obtain ⟨h1, h2⟩ := hq q (List.mem_cons_self ..)
          exact ⟨wrote (burnt S) q.1 q.2, by simp [stepP, pW, wkE, wkS, wrE, wrS, hb, h1, h2], rfl, hb⟩
      have e : runP k (0, S) (o :: os) = runP k (0, S') os := by
        show runP k (stepP k (0, S) o) os = _
        rw [hS']
      rw [e] at he
      obtain ⟨_, h2⟩ := runP_lasts os S' ho' (fun q h => hq q (List.mem_cons_of_mem _ h)) he
      refine ⟨ho, ?_⟩
      rw [hl] at h2
      unfold burnt at h2 hb
      by_cases h0 : S.fuse = 0
      · exact Or.inl h0
      · rw [if_neg h0] at h2 hb
        simp only [List.length_cons]
        simp [ho] at hb
        simp only at h2
        omega
theorem comO_ok {S : DevS} {k st sz seq place : Nat} {free : Int} {T : List TxL} {seq0 place0 : Nat} (h : Lg S k st sz seq place free T seq0 place0) {f : Nat → List Int} {m : List (Nat × Nat)} (hx : TxOk k st sz (txM f m)) (pl : Nat) (sq : Int) : ∀ q, some q ∈ comO st sz pl sq f m → q.1 < k ∧ q.2.length = 512 := fun q hq => by
  have h1 := h.s1
  have h2 := h.s2
  have hat := (atN_in (st := st) (place := pl) (i := m.length + 1) (show 2 ≤ sz by omega))
  unfold comO at hq
  rcases List.mem_append.1 hq with hq | hq
  · obtain ⟨r, hr, e⟩ := List.mem_map.1 hq
    obtain rfl := Option.some.inj e
    have := hidW_good (by omega) h2 hx hr
    exact ⟨this.1, this.2.1⟩
  · simp at hq
    subst hq
    exact ⟨by simp only; omega, comB_len _⟩
theorem ckO_ok {k st sz : Nat} {fa : Nat → List Int} {a : List (Nat × Nat)} (hst : st < k) (ho : OutA k st sz a) (hf : ∀ p ∈ a, (fa p.1).length = 512) (sq : Int) (pl : Nat) : ∀ q, some q ∈ ckO fa a st sq pl → q.1 < k ∧ q.2.length = 512 := fun q hq => by
  unfold ckO at hq
  rcases List.mem_append.1 hq with hq | hq
  · obtain ⟨r, hr', e⟩ := List.mem_map.1 hq
    obtain rfl := Option.some.inj e
    obtain ⟨p, hp, rfl⟩ := homeW_mem _ (Nat.le_refl _) r hr'
    exact ⟨(ho p hp).1, hf p hp⟩
  · simp at hq
    subst hq
    exact ⟨hst, jheadB_len _ _⟩
/-- What a crash leaves, whatever survives: the blocks outside hold the old, or the new, just if a commit survived. -/
structure CrO (R : DevS) (k st sz seq : Nat) (old new : Nat → List Int) (ks : List Bool) : Prop where
  off : R.off = true
  ex : ∃ (seq' place' : Nat) (free' : Int) (T' : List TxL) (seq0' place0' : Nat), Lg (crashed R ks) k st sz seq' place' free' T' seq0' place0' ∧ seq' ≤ seq + 1 ∧ (SurvB R.pend ks st sz → ∀ b, b < k → (b < st ∨ st + sz ≤ b) → seeT (crashed R ks) T' b = new b) ∧ (¬ SurvB R.pend ks st sz → ∀ b, b < k → (b < st ∨ st + sz ≤ b) → seeT (crashed R ks) T' b = old b)
theorem seeT_snoc (S : DevS) (T : List TxL) (x : TxL) (b : Nat) : seeT S (T ++ [x]) b = (txAt x b).getD (seeT S T b) := by
  unfold seeT
  rw [ovl_snoc]
  cases txAt x b <;> rfl
/-- Under a Commit where there is room. -/
theorem room_crash {S : DevS} {k st sz seq place : Nat} {free : Int} {T : List TxL} {seq0 place0 : Nat} (h : Lg S k st sz seq place free T seq0 place0) (ho : S.off = false) {f : Nat → List Int} {m : List (Nat × Nat)} (hx : TxOk k st sz (txM f m)) (hf : (m.length : Int) + 2 ≤ free) (hs : seq ≤ 4611686018427387904) (hc : (comP k (0, S) st sz place seq f m).1 ≠ 0) (ks : List Bool) :
    (comP k (0, S) st sz place seq f m).1 = 3 ∧ CrO (comP k (0, S) st sz place seq f m).2 k st sz seq (seeT S T) (fun b => (txAt (txM f m) b).getD (seeT S T b)) ks := by
  obtain ⟨h3, hoff, hl, hb⟩ := com_crash h ho hx hf hs hc ks
  refine ⟨h3, hoff, ?_⟩
  rcases hl with ⟨hn, g⟩ | ⟨hy, g⟩
  · exact ⟨_, _, _, _, _, _, g, by omega, fun q => absurd q hn, fun _ b _ h' => by unfold seeT; rw [hb b h']⟩
  · exact ⟨_, _, _, _, _, _, g, by omega, fun _ b _ h' => by rw [seeT_snoc]; unfold seeT; rw [hb b h'], fun q => absurd hy q⟩
/-- Under a checkpoint. -/
theorem home_crash {S : DevS} {k st sz seq place : Nat} {free : Int} {T : List TxL} {seq0 place0 : Nat} (h : Lg S k st sz seq place free T seq0 place0) (hon : S.off = false) {fa : Nat → List Int} {a : List (Nat × Nat)} (hr : Rising a) (ho : OutA k st sz a) (hf : ∀ p ∈ a, (fa p.1).length = 512 ∧ ∀ x ∈ fa p.1, 0 ≤ x ∧ x ≤ 255) (hC : Cont a fa T) (hc : (ckP k (0, S) fa a st seq place).1 ≠ 0) (ks : List Bool) (new : Nat → List Int) :
    (ckP k (0, S) fa a st seq place).1 = 3 ∧ CrO (ckP k (0, S) fa a st seq place).2 k st sz seq (seeT S T) new ks := by
  obtain ⟨h3, hoff, hn, fr, T', s0, p0, g, hb⟩ := ck_crash h hon hr ho hf hC hc ks
  exact ⟨h3, hoff, _, _, _, _, _, _, g, by omega, fun q => absurd q hn, fun _ b _ h' => hb b h'⟩
/-- Under a Commit that makes a checkpoint first. -/
theorem full_crash {S : DevS} {k st sz seq place : Nat} {free : Int} {T : List TxL} {seq0 place0 : Nat} (h : Lg S k st sz seq place free T seq0 place0) (hon : S.off = false) {fa : Nat → List Int} {a : List (Nat × Nat)} (hr : Rising a) (ho : OutA k st sz a) (hf : ∀ p ∈ a, (fa p.1).length = 512 ∧ ∀ x ∈ fa p.1, 0 ≤ x ∧ x ≤ 255) (hC : Cont a fa T) {f : Nat → List Int} {m : List (Nat × Nat)} (hx : TxOk k st sz (txM f m)) (hs : seq ≤ 4611686018427387904) (hc : (comP k (ckP k (0, S) fa a st seq place) st sz place seq f m).1 ≠ 0) (ks : List Bool) :
    (comP k (ckP k (0, S) fa a st seq place) st sz place seq f m).1 = 3 ∧ CrO (comP k (ckP k (0, S) fa a st seq place) st sz place seq f m).2 k st sz seq (seeT S T) (fun b => (txAt (txM f m) b).getD (seeT S T b)) ks := by
  have h1 := h.s1
  have hst : st < k := by have := h.s2; omega
  by_cases hck : (ckP k (0, S) fa a st seq place).1 = 0
  · have hL : Lasts S (a.length + 3) := by
      have := runP_lasts (ckO fa a st (seq : Int) place) S hon (ckO_ok hst ho (fun p hp => (hf p hp).1) _ _) (by rw [← ckP_run]; exact hck)
      rwa [show (ckO fa a st (seq : Int) place).length = a.length + 3 by simp [ckO, homeW_len]] at this
    have e := ckP_ok (k := k) (S := S) (fa := fa) (a := a) (st := st) (seq := (seq : Int)) (place := place) (fun p hp => (ho p hp).1) (fun p hp => (hf p hp).1) hst hL
    rw [e] at hc ⊢
    have g := h.ck hr ho hf
    have hm := hx.few
    rw [txM_len] at hm
    obtain ⟨h3, c⟩ := room_crash g (ckS_lasts (n := 0) hL).on hx (by omega) hs hc ks
    have cA := rdB_ck (seq := (seq : Int)) (place := place) h.good hst hr (fun p hp => (ho p hp).1) hf
    have es : ∀ b, b < k → (b < st ∨ st + sz ≤ b) → seeT (ckS S fa a st seq place) [] b = seeT S T b := fun b _ hb => by
      unfold seeT
      rw [ovl_nil, Option.getD_none, cA.1, if_neg (by omega)]
      by_cases hb' : b ∈ a.map (·.1)
      · obtain ⟨p, hp, rfl⟩ := List.mem_map.1 hb'
        rw [if_pos hb', hC.at hp]
        rfl
      · rw [if_neg hb', ← hC b]
        have : lk a b = none := by
          cases hl : lk a b with
          | none => rfl
          | some g => exact absurd (lk_keys.1 (by rw [hl]; rfl)) hb'
        rw [this]
        rfl
    obtain ⟨off, s', p', f', T', s0, p0, g', hq, hA, hB⟩ := c
    exact ⟨h3, off, s', p', f', T', s0, p0, g', hq, fun q b h2 h3 => by rw [hA q b h2 h3, es b h2 h3], fun q b h2 h3 => by rw [hB q b h2 h3, es b h2 h3]⟩
  · have e : comP k (ckP k (0, S) fa a st seq place) st sz place seq f m = ckP k (0, S) fa a st seq place := by
      rw [comP_run]
      exact runP_stop k _ _ hck _
    rw [e]
    exact home_crash h hon hr ho hf hC hck ks _
end Go.Proofs.YtnmdnglbpkpfdaaGreatDoor

/- Commit by its contract, where the power fails under it: what a crash leaves. -/
namespace Go.Proofs.YtnmdnglbpkpfdaaGreatDoor
open Go.RowKit Go.Maps
set_option maxRecDepth 100000
theorem sees_tx {S : DevS} {m a : List (Nat × Nat)} {f fa : Nat → List Int} {T : List TxL} (h : Cont a fa T) (o : Nat) : seesF S m f a fa o = (txAt (txM f m) o).getD (seeT S T o) := by
  have e := sees_ovl (S := S) (f := f) h o
  unfold seeT
  rw [← e, ← txM_at]
  unfold seesF
  cases lk m o <;> simp [lk]
/-- What a Commit leaves that met the end of the power. -/
structure CmE (w w' : World) (d k N : Nat) (G : Nat → Prop) (jb st sz seq bm tb : Nat) (old new : Nat → List Int) : Prop where
  td : Td w' tb
  je : Je w' jb
  tr : Turns (fun i => G i ∨ i = bm ∨ i = jb ∨ i = tb) w w'
  ex : ∃ (R : DevS) (N' : Nat) (G' : Nat → Prop), Dev w' d 0 R k N' G' ∧ (∀ i, G' i → G i ∨ w.heap.size ≤ i) ∧ N' ≤ N + 5000 ∧ ∀ ks, CrO R k st sz seq old new ks
theorem commitE {w : World} {d : Nat} {S : DevS} {k N : Nat} {G : Nat → Prop} {jb st sz seq place : Nat} {free : Int} {bm nd : Nat} {a : List (Nat × Nat)} {fa : Nat → List Int} {tb wm ns : Nat} {m : List (Nat × Nat)} {f : Nat → List Int} {sv : Value} {last : Int} {T : List TxL} {seq0 place0 : Nat} (X : Tx w d S k N G jb st sz (seq : Int) place free bm nd a fa tb wm ns m f sv last) (L : Lg S k st sz seq place free T seq0 place0) (C : Cont a fa T) (O : OutA k st sz a) (nb : (nd : Int) + free ≤ sz) (hmo : ∀ p ∈ m, p.1 < k ∧ (p.1 < st ∨ st + sz ≤ p.1)) (h24 : m.length ≤ 24) (ho : S.off = false) (hS : ¬ Lasts S (costC m a free)) (hN : N ≤ 900000000) (hs : seq ≤ 4611686018427387903) (hg : ErT w) (hz : ¬ G 0) (hj0 : 0 < jb) (ht0 : 0 < tb) (hb0 : 0 < bm) :
    Calls Tryz.prog 14 #[.pointer (some ⟨tb, 0, none⟩)] w fun e w' => e = .returned (.int .i64 3) ∧ CmE w w' d k N G jb st sz seq bm tb (seesF S [] f a fa) (seesF S m f a fa) := by
  have h1 := L.s1
  have h2 := L.s2
  have hk := L.good.top
  have hpl := L.p1
  have hpl2 : place < sz - 1 := by rw [hpl]; exact plEnd_lt T L.p0
  have hf0 := L.f0
  have hfr := L.fr
  have hst : st < k := by omega
  have hm0 : m ≠ [] := fun e => hS (by subst e; simp only [costC, if_true]; exact ⟨ho, by omega⟩)
  have hl1 : 1 ≤ m.length := by cases m with | nil => exact absurd rfl hm0 | cons => simp
  have hLa := O.low hk
  have hLm : Low m := fun p hp => by have := (hmo p hp).1; omega
  have hx := TxOk.ofM (k := k) (st := st) (sz := sz) X.M X.V (by omega) h24 hmo
  have hc : costC m a free = m.length + 4 + (if free < (m.length : Int) + 2 then a.length + 3 else 0) := by unfold costC; rw [if_neg hm0]
  have eo : ∀ b, seesF S [] f a fa b = seeT S T b := fun b => sees_ovl C b
  have en : ∀ b, seesF S m f a fa b = (txAt (txM f m) b).getD (seeT S T b) := fun b => sees_tx C b
  rw [show seesF S [] f a fa = seeT S T from funext eo, show seesF S m f a fa = fun b => (txAt (txM f m) b).getD (seeT S T b) from funext en]
  have hla := low_len X.A.ris hLa
  by_cases hfull : free < (m.length : Int) + 2
  · rw [hc, if_pos hfull] at hS
    have hne : T ≠ [] := fun e => by subst e; simp [strm] at hfr; omega
    have ha0 := C.pos hne L.ok
    have hcc : (comP k (ckP k (0, S) fa a st seq place) st sz place seq f m).1 ≠ 0 := fun e => hS (by
      rw [ckP_run, comP_run] at e
      have e2 : runP k (0, S) (ckO fa a st (seq : Int) place ++ comO st sz place (seq : Int) f m) = runP k (runP k (0, S) (ckO fa a st (seq : Int) place)) (comO st sz place (seq : Int) f m) := by
        unfold runP
        rw [List.foldl_append]
      rw [← e2] at e
      have := runP_lasts _ S ho (fun q hq => (List.mem_append.1 hq).elim (ckO_ok hst O (fun p hp => (X.VA p hp).2.1) _ _ q) (comO_ok L hx _ _ q)) e
      rw [List.length_append, show (ckO fa a st (seq : Int) place).length = a.length + 3 by simp [ckO, homeW_len], show (comO st sz place (seq : Int) f m).length = m.length + 4 by simp [comO, hidW_len]] at this
      rw [show m.length + 4 + (a.length + 3) = a.length + 3 + (m.length + 4) by omega]
      exact this)
    refine (txCommit_ckE X hl1 h24 hLa hLm hfull ha0 h1 h2 hk ho hg hz hj0 ht0 hcc (by omega) (by omega) (by omega)).mono ?_
    rintro e w' ⟨rfl, T', J', t', G', D', hG', _⟩
    have cr := fun ks => full_crash L ho X.A.ris O (fun p hp => (X.VA p hp).2) C hx (by omega) hcc ks
    refine ⟨by rw [(cr []).1], T', J', t'.mono (fun i _ r => r.elim Or.inl (fun r => Or.inr (Or.inr r))), _, _, G', D', hG', by omega, fun ks => (cr ks).2⟩
  · rw [hc, if_neg hfull, Nat.add_zero] at hS
    have hcc : (comP k (0, S) st sz place seq f m).1 ≠ 0 := fun e => hS (by
      rw [comP_run] at e
      have := runP_lasts _ S ho (comO_ok L hx _ _) e
      rwa [show (comO st sz place (seq : Int) f m).length = m.length + 4 by simp [comO, hidW_len]] at this)
    refine (txCommit_roomE X hl1 h24 hLa hLm (by omega) (by omega) h1 h2 hk ho hg hz hj0 ht0 hb0 hcc (by omega) (by omega) (by omega) (by omega)).mono ?_
    rintro e w' ⟨rfl, T', J', t', G', D', hG', _⟩
    have cr := fun ks => room_crash L ho hx (by omega) (by omega) hcc ks
    refine ⟨by rw [(cr []).1], T', J', t', _, _, G', D', hG', by omega, fun ks => (cr ks).2⟩
end Go.Proofs.YtnmdnglbpkpfdaaGreatDoor

/- Check by its contract: what the device holds behind it, or what a crash leaves. -/
namespace Go.Proofs.YtnmdnglbpkpfdaaGreatDoor
open Go.RowKit Go.Maps
set_option maxRecDepth 100000
/-- What a Check leaves. -/
structure CkR (w w' : World) (d : Nat) (c : Int) (k N : Nat) (G : Nat → Prop) (jb st sz seq : Nat) (bm : Nat) (old : Nat → List Int) : Prop where
  tr : Turns (fun i => G i ∨ i = jb) w w'
  ex : (c = 0 ∧ ∃ (S' : DevS) (N' : Nat) (G' : Nat → Prop) (place' : Nat) (free' : Int) (bm' nd' : Nat) (a' : List (Nat × Nat)) (fa' : Nat → List Int) (T' : List TxL) (seq0' place0' : Nat), JS w' d S' k N' G' jb st sz seq place' free' bm' nd' a' fa' T' seq0' place0' ∧ (∀ i, G' i → G i ∨ w.heap.size ≤ i) ∧ (bm' = bm ∨ w.heap.size ≤ bm') ∧ N' ≤ N + 5000 ∧ S'.off = false ∧ ∀ o, o < k → (o < st ∨ st + sz ≤ o) → seesF S' [] fa' a' fa' o = old o) ∨
    (c = 3 ∧ Je w' jb ∧ ∃ (R : DevS) (N' : Nat) (G' : Nat → Prop), Dev w' d 0 R k N' G' ∧ (∀ i, G' i → G i ∨ w.heap.size ≤ i) ∧ N' ≤ N + 5000 ∧ ∀ ks, CrO R k st sz seq old old ks)
theorem sees_ck {S : DevS} {k st sz seq place : Nat} {free : Int} {T : List TxL} {seq0 place0 : Nat} (h : Lg S k st sz seq place free T seq0 place0) {fa : Nat → List Int} {a : List (Nat × Nat)} (hr : Rising a) (ho : OutA k st sz a) (hf : ∀ p ∈ a, (fa p.1).length = 512 ∧ ∀ x ∈ fa p.1, 0 ≤ x ∧ x ≤ 255) {b : Nat} (hb : b < st ∨ st + sz ≤ b) (g : Nat → List Int) : seesF (ckS S fa a st seq place) [] g [] g b = seesF S [] fa a fa b := by
  have h1 := h.s1
  have h2 := h.s2
  have cA := rdB_ck (seq := (seq : Int)) (place := place) h.good (show st < k by omega) hr (fun p hp => (ho p hp).1) hf
  unfold seesF
  simp only [lk, Option.isSome_none, Bool.false_eq_true, if_false]
  rw [cA.1, if_neg (by omega)]
  by_cases hb' : b ∈ a.map (·.1)
  · rw [if_pos hb', if_pos (lk_keys.2 hb')]
  · rw [if_neg hb', if_neg (fun q => hb' (lk_keys.1 q))]
theorem checkG {w : World} {d : Nat} {S : DevS} {k N : Nat} {G : Nat → Prop} {jb st sz seq place : Nat} {free : Int} {bm nd : Nat} {a : List (Nat × Nat)} {fa : Nat → List Int} {T : List TxL} {seq0 place0 : Nat} (X : JS w d S k N G jb st sz seq place free bm nd a fa T seq0 place0) (ho : S.off = false) (hN : N ≤ 900000000) (hg : ErT w) (hz : ¬ G 0) (hj0 : 0 < jb) :
    Calls Tryz.prog 23 #[.pointer (some ⟨jb, 0, none⟩)] w fun e w' => ∃ c, e = .returned (.int .i64 c) ∧ CkR w w' d c k N G jb st sz seq bm (seesF S [] fa a fa) := by
  have h1 := X.L.s1
  have h2 := X.L.s2
  have hk := X.L.good.top
  have hst : st < k := by omega
  by_cases ha : a = []
  · subst ha
    refine (check_none X.J ho).mono ?_
    rintro e w' ⟨rfl, q⟩
    exact ⟨0, rfl, q.2.mono (fun _ _ => Or.inl), Or.inl ⟨rfl, S, N, G, place, free, bm, nd, [], fa, T, seq0, place0, ⟨X.J.same q, X.L, X.C, X.O, X.nb⟩, fun _ h => Or.inl h, Or.inl rfl, by omega, ho, fun _ _ _ => rfl⟩⟩
  · have ha0 : 0 < a.length := by cases a with | nil => exact absurd rfl ha | cons => simp
    have hLa := X.O.low hk
    have hla := low_len X.J.A.ris hLa
    have hVA : ∀ p ∈ a, (fa p.1).length = 512 ∧ ∀ x ∈ fa p.1, 0 ≤ x ∧ x ≤ 255 := fun p hp => (X.J.VA p hp).2
    refine (check_any X.J ho ha0 hLa hla ⟨by omega, by omega⟩ (by omega) hg hz hj0).mono ?_
    rintro e w' ⟨rfl, q⟩
    refine ⟨_, rfl, q.tr, ?_⟩
    by_cases hc : (ckP k (0, S) fa a st seq place).1 = 0
    · have hL : Lasts S (a.length + 3) := by
        have := runP_lasts (ckO fa a st (seq : Int) place) S ho (ckO_ok hst X.O (fun p hp => (hVA p hp).1) _ _) (by rw [← ckP_run]; exact hc)
        rwa [show (ckO fa a st (seq : Int) place).length = a.length + 3 by simp [ckO, homeW_len]] at this
      have e := ckP_ok (k := k) (S := S) (fa := fa) (a := a) (st := st) (seq := (seq : Int)) (place := place) (fun p hp => (X.O p hp).1) (fun p hp => (hVA p hp).1) hst hL
      obtain ⟨G', bm', J', hG', hb'⟩ := q.ok hc
      rw [e] at J'
      exact Or.inl ⟨hc, ckS S fa a st seq place, N + a.length + 1, G', place, (sz : Int) - 1, bm', 0, [], _, [], seq, place, ⟨J', X.L.ck X.J.A.ris X.O hVA, fun b => rfl, (fun p hp => by cases hp), by omega⟩, hG', Or.inr hb', by omega, (ckS_lasts (n := 0) hL).on, fun o _ ho' => sees_ck X.L X.J.A.ris X.O hVA ho' _⟩
    · obtain ⟨J', G', D', hG', _⟩ := q.no hc
      have eo : seesF S [] fa a fa = seeT S T := funext fun b => sees_ovl X.C b
      have cr := fun ks => home_crash X.L ho X.J.A.ris X.O hVA X.C hc ks (seeT S T)
      rw [eo]
      exact Or.inr ⟨(cr []).1, J', _, _, G', D', hG', by omega, fun ks => (cr ks).2⟩
end Go.Proofs.YtnmdnglbpkpfdaaGreatDoor

/- begins: by its contract. -/
namespace Go.Proofs.YtnmdnglbpkpfdaaGreatDoor
open Go.RowKit Go.Maps
set_option maxRecDepth 100000
set_option maxHeartbeats 2000000 in
theorem begins7 {w : World} {g : Nat} {d0 d1 d2 d3 : Int} {ds : List Int} (h : w.heap[g]? = some (bl (d0 :: d1 :: d2 :: d3 :: ds))) :
    Calls Tryz.prog 128 #[hv g, .string ⟨#[65, 78, 88, 67]⟩] w fun e w' => e = .returned (.bool (begs (d0 :: d1 :: d2 :: d3 :: ds) [65, 78, 88, 67])) ∧ ∃ m, w' = w.drewN m := by
  have e0 : w.cell? ⟨g, 0, none⟩ = some (.int .u8 d0) := by simp [World.cell?, h, bl]
  have e1 : w.cell? ⟨g, 1, none⟩ = some (.int .u8 d1) := by simp [World.cell?, h, bl]
  have e2 : w.cell? ⟨g, 2, none⟩ = some (.int .u8 d2) := by simp [World.cell?, h, bl]
  have e3 : w.cell? ⟨g, 3, none⟩ = some (.int .u8 d3) := by simp [World.cell?, h, bl]
  have fin : ∀ m, ∃ t, w.drewN m = w.drewN t := fun m => ⟨m, rfl⟩
  have fin' : ∀ m n, ∃ t, (w.drewN m).drewN n = w.drewN t := fun m n => ⟨_, World.drewN_drewN _ _ _⟩
  have c0 : ∀ h, ((⟨#[65, 78, 88, 67]⟩ : ByteArray)[0]'h).toNat = 65 := fun _ => rfl
  have c1 : ∀ h, ((⟨#[65, 78, 88, 67]⟩ : ByteArray)[1]'h).toNat = 78 := fun _ => rfl
  have c2 : ∀ h, ((⟨#[65, 78, 88, 67]⟩ : ByteArray)[2]'h).toNat = 88 := fun _ => rfl
  have c3 : ∀ h, ((⟨#[65, 78, 88, 67]⟩ : ByteArray)[3]'h).toNat = 67 := fun _ => rfl
  go_enter Tryz.func128, Tryz.ntmps128
  go_wp2
  refine wp_loop_rounds 5 ?_
  by_cases h0 : d0 = 65
  rotate_left
  · have n0 : (d0 != ((65 : Nat) : Int)) = true := by simpa using h0
    have n0' : (d0 != (65 : Int)) = true := by simpa using h0
    rw [rounds_succ]
    go_wp2
    go_quiet (fail)
    go_wp2
    go_ret
    refine ⟨?_, fin _⟩
    rw [show begs (d0 :: d1 :: d2 :: d3 :: ds) [65, 78, 88, 67] = false by simp [begs, h0]]
    rfl
  have n0 : (d0 != ((65 : Nat) : Int)) = false := by rw [h0]; rfl
  have n0' : (d0 != (65 : Int)) = false := by rw [h0]; rfl
  rw [rounds_succ]
  go_wp2
  go_quiet (fail)
  go_wp2
  by_cases h1 : d1 = 78
  rotate_left
  · have n1 : (d1 != ((78 : Nat) : Int)) = true := by simpa using h1
    have n1' : (d1 != (78 : Int)) = true := by simpa using h1
    rw [rounds_succ]
    go_wp2
    go_quiet (fail)
    go_wp2
    go_ret
    refine ⟨?_, fin' _ _⟩
    rw [show begs (d0 :: d1 :: d2 :: d3 :: ds) [65, 78, 88, 67] = false by simp [begs, h1]]
    rfl
  have n1 : (d1 != ((78 : Nat) : Int)) = false := by rw [h1]; rfl
  have n1' : (d1 != (78 : Int)) = false := by rw [h1]; rfl
  rw [rounds_succ]
  go_wp2
  go_quiet (fail)
  go_wp2
  by_cases h2 : d2 = 88
  rotate_left
  · have n2 : (d2 != ((88 : Nat) : Int)) = true := by simpa using h2
    have n2' : (d2 != (88 : Int)) = true := by simpa using h2
    rw [rounds_succ]
    go_wp2
    go_quiet (fail)
    go_wp2
    go_ret
    refine ⟨?_, fin' _ _⟩
    rw [show begs (d0 :: d1 :: d2 :: d3 :: ds) [65, 78, 88, 67] = false by simp [begs, h2]]
    rfl
  have n2 : (d2 != ((88 : Nat) : Int)) = false := by rw [h2]; rfl
  have n2' : (d2 != (88 : Int)) = false := by rw [h2]; rfl
  rw [rounds_succ]
  go_wp2
  go_quiet (fail)
  go_wp2
  by_cases h3 : d3 = 67
  rotate_left
  · have n3 : (d3 != ((67 : Nat) : Int)) = true := by simpa using h3
    have n3' : (d3 != (67 : Int)) = true := by simpa using h3
    rw [rounds_succ]
    go_wp2
    go_quiet (fail)
    go_wp2
    go_ret
    refine ⟨?_, fin' _ _⟩
    rw [show begs (d0 :: d1 :: d2 :: d3 :: ds) [65, 78, 88, 67] = false by simp [begs, h3]]
    rfl
  have n3 : (d3 != ((67 : Nat) : Int)) = false := by rw [h3]; rfl
  have n3' : (d3 != (67 : Int)) = false := by rw [h3]; rfl
  rw [rounds_succ]
  go_wp2
  go_quiet (fail)
  go_wp2
  rw [rounds_succ]
  go_wp2
  go_ret
  refine ⟨?_, fin _⟩
  rw [show begs (d0 :: d1 :: d2 :: d3 :: ds) [65, 78, 88, 67] = true by simp [begs, h0, h1, h2, h3]]
  rfl
end Go.Proofs.YtnmdnglbpkpfdaaGreatDoor

/- survives: by its contract. -/
namespace Go.Proofs.YtnmdnglbpkpfdaaGreatDoor
open Go.RowKit Go.Maps
set_option maxRecDepth 100000
/-- Does the i-th of what pends survive, and is it a commit of the log? -/
def svB (ps : List (Nat × List Int)) (ks : List Bool) (st sz i : Nat) : Bool := match ps[i]?, ks[i]? with
  | some p, some true => decide (st < p.1) && decide (p.1 < st + sz) && begs p.2 [65, 78, 88, 67]
  | _, _ => false
theorem svB_some {ps : List (Nat × List Int)} {ks : List Bool} {st sz i : Nat} (h : svB ps ks st sz i = true) : SurvB ps ks st sz := by
  unfold svB at h
  split at h
  · rename_i p e1 e2
    simp only [Bool.and_eq_true, decide_eq_true_eq] at h
    exact ⟨i, p, e1, e2, h.1.1, h.1.2, h.2⟩
  · cases h
theorem svB_none {ps : List (Nat × List Int)} {ks : List Bool} {st sz : Nat} (h : ∀ i, i < ps.length → i < ks.length → svB ps ks st sz i = false) : ¬ SurvB ps ks st sz := by
  rintro ⟨i, p, e1, e2, h1, h2, h3⟩
  have := h i (List.getElem?_eq_some_iff.1 e1).1 (List.getElem?_eq_some_iff.1 e2).1
  unfold svB at this
  rw [e1, e2] at this
  simp [h1, h2, h3] at this
/-- What survives tells. -/
def SurvR (ps : List (Nat × List Int)) (ks : List Bool) (st sz : Nat) (e : Ending) : Prop := ∃ b, e = .returned (.bool b) ∧ (b = true ↔ SurvB ps ks st sz)
set_option maxHeartbeats 2000000 in
theorem survives7 {w : World} {tw st sz G : Nat} {gs : List Nat} {ps : List (Nat × List Int)} {ao : Option Addr} {m c : Nat} {ks : List Bool} (c1 : w.cell? ⟨tw, 1, none⟩ = some (.int .i64 st)) (c2 : w.cell? ⟨tw, 2, none⟩ = some (.int .i64 sz)) (hs : st + sz ≤ 4096) (hP : PList w G gs ps) (hd : ∀ p ∈ ps, p.1 < 4096 ∧ p.2.length = 512) (hn : ps.length ≤ 1099511627776) (hK : KLies w ao m c ks) :
    Calls Tryz.prog 103 #[.pointer (some ⟨tw, 0, none⟩), .slice (some ⟨G, 0, none⟩) ps.length ps.length, .slice ao m c] w fun e w' => SurvR ps ks st sz e ∧ Below w.heap.size w w' := by
  go_enter Tryz.func103, Tryz.ntmps103
  go_wp2
  go_loopw [7] (fun i wr => ∃ j : Nat, i = .int .i64 j ∧ Below w.heap.size w wr ∧ ∀ t, t < j → svB ps ks st sz t = false) (fun i _ => ps.length - (intOf i).toNat)
  case atStart => exact ⟨0, rfl, Below.refl _ w, fun t ht => by omega⟩
  case round =>
    obtain ⟨j, rfl, bB, hno⟩ := hrel
    have HN : Hid (∀ t, t < j → svB ps ks st sz t = false) := hno
    clear hno
    by_cases hlt : j < ps.length
    · by_cases hlk : j < m
      · obtain ⟨p, hp⟩ : ∃ p, ps[j]? = some p := ⟨_, List.getElem?_eq_getElem hlt⟩
        obtain ⟨b, hb⟩ : ∃ b, ks[j]? = some b := ⟨_, List.getElem?_eq_getElem (by rw [hK.hlen]; exact hlk)⟩
        have hg : gs[j]? = some (gs[j]'(by rw [hP.len]; exact hlt)) := List.getElem?_eq_getElem _
        generalize gs[j]'(by rw [hP.len]; exact hlt) = g at hg
        obtain ⟨e1, e2⟩ := pc_at _ _ j p _ hp hg
        obtain ⟨kg, ko, rfl, hkc⟩ := hK.hcells j b hb
        have hdat := hP.dat j p g hp hg
        have hpd := hd p (List.mem_of_getElem? hp)
        have a0 : w.cell? ⟨G, j * 2, none⟩ = some (.int .i64 p.1) := by simp only [World.cell?, hP.row]; simpa using e1
        have a1 : w.cell? ⟨G, j * 2 + 1, none⟩ = some (hv g) := by simp only [World.cell?, hP.row]; simpa using e2
        have lG := heap_lt hP.row
        have lg := heap_lt hdat
        have lk' : kg < w.heap.size := by
          rcases Nat.lt_or_ge kg w.heap.size with h | h
          · exact h
          · simp [World.cell?, Array.getElem?_eq_none h] at hkc
        have lt' : tw < w.heap.size := by
          rcases Nat.lt_or_ge tw w.heap.size with h | h
          · exact h
          · simp [World.cell?, Array.getElem?_eq_none h] at c1
        have A0 := (bB.cell (p := ⟨G, j * 2, none⟩) lG).trans a0
        have A1 := (bB.cell (p := ⟨G, j * 2 + 1, none⟩) lG).trans a1
        have K0 := (bB.cell (p := ⟨kg, ko + j, none⟩) lk').trans hkc
        have C1 := (bB.cell (p := ⟨tw, 1, none⟩) lt').trans c1
        have C2 := (bB.cell (p := ⟨tw, 2, none⟩) lt').trans c2
        have HD : Hid (wr.heap[g]? = some (bl p.2)) := (bB.block g lg).trans hdat
        have HB : Hid (Below w.heap.size w wr) := bB
        have hsv : svB ps ks st sz j = (b && (decide (st < p.1) && decide (p.1 < st + sz) && begs p.2 [65, 78, 88, 67])) := by
          unfold svB
          rw [hp, hb]
          cases b <;> rfl
        have HS : Hid (svB ps ks st sz j = true → SurvB ps ks st sz) := svB_some
        obtain ⟨pb, pd⟩ := p
        simp only at A0 A1 HD hsv hpd
        clear hP hK hd hdat hp hb hg e1 e2 a0 a1 hkc c1 c2 bB lG lg lk' lt'
        have hl2 := hpd.1
        have hpl := hpd.2
        clear hpd
        have hji : (j : Int) < ps.length := by omega
        have hjm : (j : Int) < m := by omega
        by_cases h1 : st < pb
        · by_cases h2 : pb < st + sz
          · cases b with
            | true =>
              obtain ⟨d0, d1, d2, d3, ds, rfl⟩ : ∃ d0 d1 d2 d3 ds, pd = d0 :: d1 :: d2 :: d3 :: ds := by
                match pd, hpl with
                | d0 :: d1 :: d2 :: d3 :: ds, _ => exact ⟨d0, d1, d2, d3, ds, rfl⟩
              have hsv : svB ps ks st sz j = begs (d0 :: d1 :: d2 :: d3 :: ds) [65, 78, 88, 67] := by rw [hsv]; simp [h1, h2]
              have HX : Hid (∀ W : World, (∀ i, W.heap[i]? = wr.heap[i]?) → Calls Tryz.prog 128 #[hv g, .string ⟨#[65, 78, 88, 67]⟩] W fun e w' => e = .returned (.bool (begs (d0 :: d1 :: d2 :: d3 :: ds) [65, 78, 88, 67])) ∧ ∃ m, w' = W.drewN m) := fun W hW => begins7 ((hW g).trans HD.out)
              have h1i : ((st : Int)) < pb := by omega
              have h2i : ((pb : Int)) < st + sz := by omega
              go_wp2_with fail
              go_quiet (fail)
              go_wp2_with fail
              refine (HX.out (wr.drewN _) (fun _ => rfl)).mono ?_
              rintro e w4 ⟨rfl, t4, rfl⟩
              cases hbg : begs (d0 :: d1 :: d2 :: d3 :: ds) [65, 78, 88, 67] with
              | true =>
                rw [hbg] at hsv
                go_wp2_with fail
                go_ret
                exact ⟨⟨true, rfl, fun _ => HS.out hsv, fun _ => rfl⟩, HB.out.trans ⟨rfl, rfl, rfl, Nat.le_refl _, fun _ _ => rfl⟩⟩
              | false =>
                rw [hbg] at hsv
                have HE : Hid (svB ps ks st sz j = false) := hsv
                clear hsv
                go_wp2_with fail
                go_roundw
                case rel => exact ⟨j + 1, by go_num, HB.out.trans ⟨rfl, rfl, rfl, Nat.le_refl _, fun _ _ => rfl⟩, fun t ht => (Nat.lt_succ_iff_lt_or_eq.1 ht).elim (HN.out t) (fun e => by rw [e]; exact HE.out)⟩
                case measure => simp [intOf]; omega
            | false =>
              have HE : Hid (svB ps ks st sz j = false) := by rw [hsv]; rfl
              clear hsv
              have h1i : ((st : Int)) < pb := by omega
              have h2i : ((pb : Int)) < st + sz := by omega
              go_wp2_with fail
              go_quiet (fail)
              go_wp2_with fail
              go_roundw
              case rel => exact ⟨j + 1, by go_num, HB.out.trans ⟨rfl, rfl, rfl, Nat.le_refl _, fun _ _ => rfl⟩, fun t ht => (Nat.lt_succ_iff_lt_or_eq.1 ht).elim (HN.out t) (fun e => by rw [e]; exact HE.out)⟩
              case measure => simp [intOf]; omega
          · have HE : Hid (svB ps ks st sz j = false) := by rw [hsv, decide_eq_false h2, Bool.and_false, Bool.false_and, Bool.and_false]; exact rfl
            clear hsv
            have h1i : ((st : Int)) < pb := by omega
            have h2i : ¬ ((pb : Int)) < st + sz := by omega
            cases b with
            | true =>
              go_wp2_with fail
              go_quiet (fail)
              go_wp2_with fail
              go_roundw
              case rel => exact ⟨j + 1, by go_num, HB.out.trans ⟨rfl, rfl, rfl, Nat.le_refl _, fun _ _ => rfl⟩, fun t ht => (Nat.lt_succ_iff_lt_or_eq.1 ht).elim (HN.out t) (fun e => by rw [e]; exact HE.out)⟩
              case measure => simp [intOf]; omega
            | false =>
              go_wp2_with fail
              go_quiet (fail)
              go_wp2_with fail
              go_roundw
              case rel => exact ⟨j + 1, by go_num, HB.out.trans ⟨rfl, rfl, rfl, Nat.le_refl _, fun _ _ => rfl⟩, fun t ht => (Nat.lt_succ_iff_lt_or_eq.1 ht).elim (HN.out t) (fun e => by rw [e]; exact HE.out)⟩
              case measure => simp [intOf]; omega
        · have HE : Hid (svB ps ks st sz j = false) := by rw [hsv, decide_eq_false h1, Bool.false_and, Bool.false_and, Bool.and_false]; exact rfl
          clear hsv
          have h1i : ¬ ((st : Int)) < pb := by omega
          cases b with
          | true =>
            go_wp2_with fail
            go_quiet (fail)
            go_wp2_with fail
            go_roundw
            case rel => exact ⟨j + 1, by go_num, HB.out.trans ⟨rfl, rfl, rfl, Nat.le_refl _, fun _ _ => rfl⟩, fun t ht => (Nat.lt_succ_iff_lt_or_eq.1 ht).elim (HN.out t) (fun e => by rw [e]; exact HE.out)⟩
            case measure => simp [intOf]; omega
          | false =>
            go_wp2_with fail
            go_quiet (fail)
            go_wp2_with fail
            go_roundw
            case rel => exact ⟨j + 1, by go_num, HB.out.trans ⟨rfl, rfl, rfl, Nat.le_refl _, fun _ _ => rfl⟩, fun t ht => (Nat.lt_succ_iff_lt_or_eq.1 ht).elim (HN.out t) (fun e => by rw [e]; exact HE.out)⟩
            case measure => simp [intOf]; omega
      · have hn' : Hid (¬ SurvB ps ks st sz) := svB_none (fun i h1 h2 => HN.out i (by rw [hK.hlen] at h2; omega))
        clear hP hK hd c1 c2
        have hjm : ¬ (j : Int) < m := by omega
        have hji : (j : Int) < ps.length := by omega
        go_wp2_with fail
        go_ret
        exact ⟨⟨false, rfl, fun h => by (cases h), fun h => absurd h hn'.out⟩, (by first | exact bB | exact bB.trans ⟨rfl, rfl, rfl, Nat.le_refl _, fun _ _ => rfl⟩)⟩
    · have hn' : Hid (¬ SurvB ps ks st sz) := svB_none (fun i h1 _ => HN.out i (by omega))
      clear hP hK hd c1 c2
      have hji : ¬ (j : Int) < ps.length := by omega
      go_wp2_with fail
      go_ret
      exact ⟨⟨false, rfl, fun h => by (cases h), fun h => absurd h hn'.out⟩, (by first | exact bB | exact bB.trans ⟨rfl, rfl, rfl, Nat.le_refl _, fun _ _ => rfl⟩)⟩
end Go.Proofs.YtnmdnglbpkpfdaaGreatDoor

/- Crash by its contract, by what the list of survivors reads as whatever the device turns. -/
namespace Go.Proofs.YtnmdnglbpkpfdaaGreatDoor
open Go.RowKit Go.Maps
open Go.MuLone
set_option maxRecDepth 100000
set_option maxHeartbeats 4000000 in
theorem crash_gen {w : World} {db : Nat} {S : DevS} {k N : Nat} {F : Nat → Prop} (h : Dev w db 0 S k N F) (ao : Option Addr) (m c : Nat) (ks : List Bool) (hK : ∀ W, Turns F w W → KLies W ao m c ks) (hlen : ks.length = m) (hm : m ≤ 140737488355328) (hN : N ≤ 1099511627776) :
    Calls Tryz.prog 21 #[.pointer (some ⟨db, 0, none⟩), .slice ao m c] w fun e w' => e = .returned (.tuple #[]) ∧ Went w w' db (crashed S ks) k N F := by
  obtain ⟨gl, bm, q, pv, gs, Dm, h, f, hl⟩ := h
  obtain ⟨pa, pcp, hpv⟩ := row_slice h.row
  have hpn := h.pn
  obtain ⟨L, hL⟩ : ∃ L, S.pend.length = L := ⟨_, rfl⟩
  rw [hL] at hpv hpn
  have hLi : (L : Int) ≤ 1099511627776 := by omega
  have hmi : (m : Int) ≤ 140737488355328 := by omega
  have HL : Hid (S.pend.length = L) := hL
  clear hL
  subst hpv
  go_enter_defers Tryz.func21, Tryz.ntmps21
  go_wp2_with fail
  refine (lock_dev h).mono ?_
  rintro e w1 ⟨rfl, h1, t1⟩
  have tF1 : Turns F w w1 := t1.mono (fun i _ e => by subst e; exact f.f1)
  have c3 := h1.cells.2.2.1
  go_wp2_with fail
  go_loopw [18] (fun i wr => ∃ j : Nat, j ≤ L ∧ i = .int .i64 j ∧ DevX wr db 1 { S with last := layAll S.last (kept (S.pend.take j) ks) } k N gl bm q (.slice pa L pcp) gs Dm ∧ Turns (fun i => i = gl) w1 wr) (fun i _ => L - (intOf i).toNat)
  case atStart => exact ⟨0, Nat.zero_le _, rfl, by simpa [kept, layAll] using h1, Turns.refl _ _⟩
  case round =>
    obtain ⟨j, hj, rfl, hX, hT⟩ := hrel
    by_cases hlt : j < L
    · obtain ⟨pg, g, p, rfl, hp, hg, hpk, hpl, hpy, x0, x1, hgb⟩ := hX.pending (j := j) (by simp only; rw [HL.out]; exact hlt)
      have hpj : S.pend[j]? = some p := hp
      obtain ⟨W, hW⟩ : ∃ W, wr.alloc (.cells #[.int .i64 p.1, .slice (some ⟨g, 0, none⟩) 512 512] 120) = W := ⟨_, rfl⟩
      have hbW : Below wr.heap.size wr W := by rw [← hW]; exact (Below.refl _ wr).alloc (Nat.le_refl _) _
      have y0 : W.cell? ⟨wr.heap.size, 0, none⟩ = some (.int .i64 p.1) := by rw [← hW]; simp
      have y1 : W.cell? ⟨wr.heap.size, 1, none⟩ = some (.slice (some ⟨g, 0, none⟩) 512 512) := by rw [← hW]; simp
      have hXW := hX.turns (Below.turns hbW (fun _ => False)) id id id (fun _ _ => id) (fun _ _ => id)
      have hgW : W.heap[g]? = some (bl p.2) := (hbW.block g (heap_lt hgb)).trans hgb
      have hTW : Turns (fun i => i = gl) w1 W := hT.trans (Below.turns hbW (fun i => i = gl)) (fun _ _ h => h)
      have hKW := hK W (tF1.trans hTW (fun i _ e => by subst e; exact f.f2))
      by_cases hkj : ks[j]? = some true
      · have HE : Hid (layAll S.last (kept (S.pend.take (j + 1)) ks) = layB (layAll S.last (kept (S.pend.take j) ks)) p) := lay_yes S.last S.pend ks j p hpj hkj
        obtain ⟨kg, ko, rfl, hkc⟩ := hKW.hcells j true hkj
        have hjm : j < m := by rw [← hlen]; exact (List.getElem?_eq_some_iff.1 hkj).1
        have hjmi : (j : Int) < m := by omega
        clear hX hp hg hgb hkj hpj hKW
        obtain ⟨pb, pd⟩ := p
        simp only at hpk hpl hpy x0 y0 hgW hW
        go_wp2_with fail
        try rw [hW]
        refine (last_any hXW pb g pd hpk hgW hpl hpy).mono ?_
        rintro e w3 ⟨rfl, h3, t3⟩
        have hT3 : Turns (fun i => i = gl) w1 w3 := hTW.trans t3 (fun _ _ h => h)
        go_wp2_with fail
        go_roundw
        case rel => exact ⟨j + 1, by omega, by go_num, by rw [HE.out]; exact h3, hT3⟩
        case measure => simp [intOf]; omega
      · have HE : Hid (layAll S.last (kept (S.pend.take (j + 1)) ks) = layAll S.last (kept (S.pend.take j) ks)) := lay_no S.last S.pend ks j p hpj hkj
        by_cases hjm : j < m
        · have hkj2 : ks[j]? = some false := by
            have hlk : j < ks.length := by rw [hlen]; exact hjm
            rw [List.getElem?_eq_getElem hlk] at hkj ⊢
            cases hb : ks[j] <;> simp_all
          obtain ⟨kg, ko, rfl, hkc⟩ := hKW.hcells j false hkj2
          have hjmi : (j : Int) < m := by omega
          clear hX hp hg hgb hkj hkj2 hpj hKW
          go_wp2_with fail
          try rw [hW]
          go_roundw
          case rel => exact ⟨j + 1, by omega, by go_num, by rw [HE.out]; exact hXW, hTW⟩
          case measure => simp [intOf]; omega
        · have hjmi : ¬ (j : Int) < m := by omega
          clear hX hp hg hgb hkj hpj hKW
          go_wp2_with fail
          try rw [hW]
          go_roundw
          case rel => exact ⟨j + 1, by omega, by go_num, by rw [HE.out]; exact hXW, hTW⟩
          case measure => simp [intOf]; omega
    · obtain rfl : j = L := by omega
      have e3 : S.pend.take j = S.pend := List.take_of_length_le (by rw [HL.out]; exact Nat.le_refl _)
      rw [e3] at hX
      clear e3
      go_wp2_with fail
      refine (forget_any hX hN).mono ?_
      rintro e w4 ⟨rfl, ⟨D', h4⟩, t4⟩
      have h5 := h4.db (S' := { last := layAll S.last (kept S.pend ks), pend := [], fuse := 0, off := S.off }) (st' := 1) 5 (.int .i64 0) ⟨rfl, rfl, Nat.zero_le _⟩ rfl
      have h6 : DevX ((w4.setCell ⟨db, 5, none⟩ (.int .i64 0)).setCell ⟨db, 6, none⟩ (.bool false)) db 1 (crashed S ks) k N gl bm q (.slice none 0 0) [] D' := h5.db 6 (.bool false) ⟨rfl, rfl, Nat.zero_le _⟩ rfl
      have t6 : Turns (fun i => i = db) w4 ((w4.setCell ⟨db, 5, none⟩ (.int .i64 0)).setCell ⟨db, 6, none⟩ (.bool false)) := (Turns.cell w4 db 5 _).trans (Turns.cell _ db 6 _) (fun _ _ h => h)
      obtain ⟨c0, c2, c3', c4, c5, c6, fz⟩ := h4.cells
      have f5 := fz 5
      have f6 := fz 6
      clear c0 c2 c3' c4 fz h5 h4
      go_wp2
      refine leaves_cons (f := 56) (args := #[.pointer (some ⟨db, 0, none⟩)]) (by simp) (by simp [go_sem]) ?_
      refine (unlock_dev .returning h6).mono ?_
      rintro e u' w7 ⟨rfl, rfl, h7, t7⟩
      refine ⟨_, results_none rfl _ _ _, ?_⟩
      refine ⟨rfl, Went.of h7 f hl ?_ rfl (Or.inl rfl) (fun x hx => by cases hx)⟩
      refine ((((t1.mono (G := F) (fun i _ e => by subst e; exact f.f1)).trans hT (fun i _ e => by subst e; exact f.f2)).trans t4 (fun i _ e => ?_)).trans t6 (fun i _ e => by subst e; exact f.f1)).trans t7 (fun i _ e => by subst e; exact f.f1)
      rcases e with e | e
      · subst e; exact f.f1
      · subst e; exact f.f3
end Go.Proofs.YtnmdnglbpkpfdaaGreatDoor

/- fall, where no transaction is in doubt: by its contract. -/
namespace Go.Proofs.YtnmdnglbpkpfdaaGreatDoor
open Go.RowKit Go.Maps
set_option maxRecDepth 100000
set_option maxHeartbeats 2000000 in
theorem fall_none {w : World} {d : Nat} {R : DevS} {k N : Nat} {G : Nat → Prop} (hD : Dev w d 0 R k N G) {tw : Nat} {cs : Array Value} {ty : TypeId} (hT : w.heap[tw]? = some (.cells cs ty)) (h0 : w.cell? ⟨tw, 0, none⟩ = some (.pointer (some ⟨d, 0, none⟩))) (hg : ¬ G tw) {arm : Int} {ao : Option Addr} {m c : Nat} {ks : List Bool} (hK : ∀ W, Turns G w W → KLies W ao m c ks) (hkl : ks.length = m) (hm : m ≤ 140737488355328) (hN : N ≤ 900000000) :
    Calls Tryz.prog 71 #[.pointer (some ⟨tw, 0, none⟩), .agg #[.int .i64 arm, .slice ao m c], .slice none 0 0] w fun e w' => e = .returned (.bool true) ∧ (∃ G', Dev w' d 0 (crashed R ks) k N G' ∧ ∀ i, G' i → G i ∨ w.heap.size ≤ i) ∧ Turns G w w' := by
  obtain ⟨W, hW⟩ : ∃ W, w.alloc (.cells #[.int .i64 arm, .slice ao m c] 76) = W := ⟨_, rfl⟩
  have bW : Below w.heap.size w W := by rw [← hW]; exact (Below.refl _ w).alloc (Nat.le_refl _) _
  have tW := Below.turns bW (fun _ => False)
  have DW : Dev W d 0 R k N G := hD.turns tW (fun _ _ => id)
  have lT := heap_lt hT
  have c0 : W.cell? ⟨tw, 0, none⟩ = some (.pointer (some ⟨d, 0, none⟩)) := (bW.cell (p := ⟨tw, 0, none⟩) lT).trans h0
  have TW := (bW.block tw lT).trans hT
  have FW : W.heap[w.heap.size]? = some (.cells #[.int .i64 arm, .slice ao m c] 76) := by rw [← hW]; exact (MapKept.heap_alloc w _).1
  have hGl := hD.lt
  have sW := bW.size
  have lW := heap_lt FW
  clear h0
  go_enter Tryz.func71, Tryz.ntmps71
  go_wp2_with fail
  refine (pending_any DW (by omega)).mono ?_
  rintro e w1 ⟨⟨P, gs, rfl, hP, lP, lg⟩, q1⟩
  have T1 := (q1.2.block tw (heap_lt TW) hg).trans TW
  have t01 : Turns G w w1 := (tW.mono (fun _ _ r => r.elim)).trans q1.2 (fun _ _ r => r)
  have D1 := q1.1
  have F1 : w1.heap[w.heap.size]? = some (.cells #[.int .i64 arm, .slice ao m c] 76) := (q1.2.block _ lW (fun r => by have := hGl _ r; omega)).trans FW
  have f1 : w1.cell? ⟨w.heap.size, 1, none⟩ = some (.slice ao m c) := by simp [World.cell?, F1]
  have c1 : w1.cell? ⟨tw, 0, none⟩ = some (.pointer (some ⟨d, 0, none⟩)) := by
    simp only [World.cell?, TW, T1] at c0 ⊢
    exact c0
  clear c0
  go_wp2_with fail
  have dr : Turns G w1 w1.drew := Turns.drewN G w1 1
  have D1d : Dev w1.drew d 0 R k N G := D1.below ⟨rfl, rfl, rfl, Nat.le_refl _, fun _ _ => rfl⟩
  have mC := crash_gen D1d ao m c ks (fun W t => hK W ((t01.trans dr (fun _ _ r => r)).trans t (fun _ _ r => r))) hkl hm (by omega)
  have lF1 : ¬ G w.heap.size := fun r => by have := hGl _ r; omega
  have hcs : ∀ w' : World, w'.heap[tw]? = w1.heap[tw]? → w'.heap[w.heap.size]? = w1.heap[w.heap.size]? → w'.cell? ⟨tw, 0, none⟩ = some (.pointer (some ⟨d, 0, none⟩)) ∧ w'.cell? ⟨w.heap.size, 1, none⟩ = some (.slice ao m c) := fun w' e1 e2 => by
    refine ⟨?_, by simp [World.cell?, e2, F1]⟩
    simp only [World.cell?, e1] at c1 ⊢
    exact c1
  have k0 := hcs w1.drew rfl rfl
  have lt1 := heap_lt T1
  have lf1 := heap_lt F1
  go_region_held3 (fun w' => w'.cell? ⟨tw, 0, none⟩ = some (.pointer (some ⟨d, 0, none⟩)) ∧ w'.cell? ⟨w.heap.size, 1, none⟩ = some (.slice ao m c))
    (first | exact k0 | exact k1)
    (first
      | (go_at_call 21; refine mC.mono ?_; rintro e w2 ⟨rfl, q2⟩; have k1 := hcs w2 (q2.2.block tw lt1 hg) (q2.2.block _ lf1 lF1)))
  have c2 := k1.1
  clear c1 f1
  go_wp2_with fail
  refine (power_any q2.1).mono ?_
  rintro e w3 ⟨rfl, q3⟩
  go_wp2_with fail
  go_ret
  have s1 := q1.2.size
  have tA : Turns G w w2 := (((tW.mono (fun _ _ r => r.elim)).trans q1.2 (fun _ _ r => r)).trans dr (fun _ _ r => r)).trans q2.2 (fun _ _ r => r)
  have hgr : ∀ i, grow G w1.drew w2 i → G i ∨ w.heap.size ≤ i := fun i r => r.imp id (fun r => Nat.le_trans (Nat.le_trans sW s1) r.1)
  exact ⟨rfl, ⟨_, q3.1, hgr⟩, tA.trans q3.2 (fun i hi r => (hgr i r).elim id (fun r => by omega))⟩
end Go.Proofs.YtnmdnglbpkpfdaaGreatDoor

/- fall, where a transaction is in doubt: by its contract. -/
namespace Go.Proofs.YtnmdnglbpkpfdaaGreatDoor
open Go.RowKit Go.Maps
set_option maxRecDepth 100000
set_option maxHeartbeats 4000000 in
theorem fall_some {w : World} {d : Nat} {R : DevS} {k N : Nat} {G : Nat → Prop} (hD : Dev w d 0 R k N G) {tw st sz : Nat} {ov wv : Value} (hT : w.heap[tw]? = some (.cells #[.pointer (some ⟨d, 0, none⟩), .int .i64 (st : Nat), .int .i64 (sz : Nat), ov, wv] 42)) (hg : ¬ G tw) {arm : Int} {ao : Option Addr} {m c : Nat} {ks : List Bool} (hK : ∀ W, Turns (fun i => G i ∨ i = tw) w W → KLies W ao m c ks) (hkl : ks.length = m) (hm : m ≤ 140737488355328) (hN : N ≤ 900000000) (hs : st + sz ≤ 4096) (hR : ∀ p ∈ R.pend, p.1 < 4096 ∧ p.2.length = 512) (hRl : R.pend.length ≤ 1099511627776) (na : Addr) (nn nc : Nat) :
    Calls Tryz.prog 71 #[.pointer (some ⟨tw, 0, none⟩), .agg #[.int .i64 arm, .slice ao m c], .slice (some na) nn nc] w fun e w' => e = .returned (.bool true) ∧ (∃ G', Dev w' d 0 (crashed R ks) k N G' ∧ ∀ i, G' i → G i ∨ w.heap.size ≤ i) ∧ Turns (fun i => G i ∨ i = tw) w w' ∧ ∃ wv', w'.heap[tw]? = some (.cells #[.pointer (some ⟨d, 0, none⟩), .int .i64 (st : Nat), .int .i64 (sz : Nat), ov, wv'] 42) ∧ (SurvB R.pend ks st sz → wv' = .slice (some na) nn nc) ∧ (¬ SurvB R.pend ks st sz → wv' = wv) := by
  have h0 : w.cell? ⟨tw, 0, none⟩ = some (.pointer (some ⟨d, 0, none⟩)) := by simp [World.cell?, hT]
  obtain ⟨W, hW⟩ : ∃ W, w.alloc (.cells #[.int .i64 arm, .slice ao m c] 76) = W := ⟨_, rfl⟩
  have bW : Below w.heap.size w W := by rw [← hW]; exact (Below.refl _ w).alloc (Nat.le_refl _) _
  have tW := Below.turns bW (fun _ => False)
  have DW : Dev W d 0 R k N G := hD.turns tW (fun _ _ => id)
  have lT := heap_lt hT
  have c0 : W.cell? ⟨tw, 0, none⟩ = some (.pointer (some ⟨d, 0, none⟩)) := (bW.cell (p := ⟨tw, 0, none⟩) lT).trans h0
  have TW := (bW.block tw lT).trans hT
  have FW : W.heap[w.heap.size]? = some (.cells #[.int .i64 arm, .slice ao m c] 76) := by rw [← hW]; exact (MapKept.heap_alloc w _).1
  have hGl := hD.lt
  have sW := bW.size
  have lW := heap_lt FW
  clear h0
  go_enter Tryz.func71, Tryz.ntmps71
  go_wp2_with fail
  refine (pending_any DW (by omega)).mono ?_
  rintro e w1 ⟨⟨P, gs, rfl, hP, lP, lg⟩, q1⟩
  have T1 := (q1.2.block tw (heap_lt TW) hg).trans TW
  have K1 : KLies w1 ao m c ks := hK w1 ((tW.mono (fun _ _ r => r.elim)).trans q1.2 (fun _ _ r => Or.inl r))
  have D1 := q1.1
  have F1 : w1.heap[w.heap.size]? = some (.cells #[.int .i64 arm, .slice ao m c] 76) := (q1.2.block _ lW (fun r => by have := hGl _ r; omega)).trans FW
  have f1 : w1.cell? ⟨w.heap.size, 1, none⟩ = some (.slice ao m c) := by simp [World.cell?, F1]
  have c0 : w1.cell? ⟨tw, 0, none⟩ = some (.pointer (some ⟨d, 0, none⟩)) := by simp [World.cell?, T1]
  have c1 : w1.cell? ⟨tw, 1, none⟩ = some (.int .i64 (st : Nat)) := by simp [World.cell?, T1]
  have c2 : w1.cell? ⟨tw, 2, none⟩ = some (.int .i64 (sz : Nat)) := by simp [World.cell?, T1]
  have hpl := hP.len
  go_wp2_with fail
  have lF1 : ¬ G w.heap.size := fun r => by have := hGl _ r; omega
  have s1 := q1.2.size
  have ltw := heap_lt hT
  refine (survives7 c1 c2 hs hP hR hRl K1).mono ?_
  rintro e w2 ⟨⟨bb, rfl, hbb⟩, b2⟩
  have HBB : Hid (bb = true ↔ SurvB R.pend ks st sz) := hbb
  clear hbb
  have T2 := (b2.block tw (heap_lt T1)).trans T1
  have tA : Turns (fun i => G i ∨ i = tw) w w2 := ((tW.mono (fun _ _ r => r.elim)).trans q1.2 (fun _ _ r => Or.inl r)).trans (Below.turns b2 (fun i => G i ∨ i = tw)) (fun _ _ r => r)
  have b2t := Below.turns b2 (fun _ => False)
  cases bb with
  | false =>
    have BX : w2.heap[tw]? = some (.cells #[.pointer (some ⟨d, 0, none⟩), .int .i64 (st : Nat), .int .i64 (sz : Nat), ov, wv] 42) := T2
    have tX : Turns (fun i => G i ∨ i = tw) w w2 := tA
    have FX : w2.heap[w.heap.size]? = some (.cells #[.int .i64 arm, .slice ao m c] 76) := (b2.block _ (heap_lt F1)).trans F1
    have DX : Dev w2 d 0 R k N G := D1.turns b2t (fun _ _ => id)
    obtain ⟨X, hX⟩ : ∃ X, w2 = X := ⟨_, rfl⟩
    try simp only [hX] at *
    clear c0 c1 c2 hP K1 D1 F1 T1
    have dr : Turns G X X.drew := Turns.drewN G X 1
    have mC := crash_gen (DX.below ⟨rfl, rfl, rfl, Nat.le_refl _, fun _ _ => rfl⟩ : Dev X.drew d 0 R k N G) ao m c ks (fun W t => hK W ((tX.trans dr (fun _ _ r => Or.inl r)).trans t (fun _ _ r => Or.inl r))) hkl hm (by omega)
    have hcs : ∀ w' : World, w'.heap[tw]? = X.heap[tw]? → w'.heap[w.heap.size]? = X.heap[w.heap.size]? → w'.cell? ⟨tw, 0, none⟩ = some (.pointer (some ⟨d, 0, none⟩)) ∧ w'.cell? ⟨w.heap.size, 1, none⟩ = some (.slice ao m c) := fun w' e1 e2 => ⟨by simp [World.cell?, e1, BX], by simp [World.cell?, e2, FX]⟩
    have k0 := hcs X.drew rfl rfl
    have lt1 := heap_lt BX
    have lf1 := heap_lt FX
    go_wp2_with fail
    go_region_held3 (fun w' => w'.cell? ⟨tw, 0, none⟩ = some (.pointer (some ⟨d, 0, none⟩)) ∧ w'.cell? ⟨w.heap.size, 1, none⟩ = some (.slice ao m c))
      (first | exact k0 | exact k1)
      (first
        | (go_at_call 21; refine mC.mono ?_; rintro e w4 ⟨rfl, q4⟩; have k1 := hcs w4 (q4.2.block tw lt1 hg) (q4.2.block _ lf1 lF1)))
    have c4 := k1.1
    go_wp2_with fail
    refine (power_any q4.1).mono ?_
    rintro e w5 ⟨rfl, q5⟩
    go_wp2_with fail
    go_ret
    have sX := tX.size
    have hgr : ∀ i, grow G X.drew w4 i → G i ∨ w.heap.size ≤ i := fun i r => r.imp id (fun r => Nat.le_trans sX r.1)
    have lw4 := q4.2.size
    have tE : Turns (fun i => G i ∨ i = tw) w w5 := ((tX.trans dr (fun _ _ r => Or.inl r)).trans q4.2 (fun _ _ r => Or.inl r)).trans q5.2 (fun i hi r => (hgr i r).elim Or.inl (fun r => by omega))
    have ng : ¬ grow G X.drew w4 tw := fun r => r.elim hg (fun r => absurd r.1 (by have : X.drew.heap.size = X.heap.size := rfl; omega))
    exact ⟨rfl, ⟨_, q5.1, hgr⟩, tE, _, (q5.2.block tw (Nat.lt_of_lt_of_le lt1 lw4) ng).trans ((q4.2.block tw lt1 hg).trans BX), fun h => absurd (HBB.out.2 h) (by simp), fun _ => rfl⟩
  | true =>
    have c4' : w2.cell? ⟨tw, 4, none⟩ = some wv := by simp [World.cell?, T2]
    have z4 : w2.frozen? ⟨tw, 4, none⟩ = false := by simp [World.frozen?, T2]
    obtain ⟨w3, hw3⟩ : ∃ w3, w2.setCell ⟨tw, 4, none⟩ (.slice (some na) nn nc) = w3 := ⟨_, rfl⟩
    have t3 : Turns (fun i => i = tw) w2 w3 := by rw [← hw3]; exact Turns.cell w2 tw 4 _
    have T3 : w3.heap[tw]? = some (.cells #[.pointer (some ⟨d, 0, none⟩), .int .i64 (st : Nat), .int .i64 (sz : Nat), ov, .slice (some na) nn nc] 42) := by rw [← hw3]; exact heap_setCell_same _ tw 4 _ _ _ T2
    have c0' : w2.cell? ⟨tw, 0, none⟩ = some (.pointer (some ⟨d, 0, none⟩)) := by simp [World.cell?, T2]
    have F2 := (b2.block _ (heap_lt F1)).trans F1
    have BX : w3.heap[tw]? = some (.cells #[.pointer (some ⟨d, 0, none⟩), .int .i64 (st : Nat), .int .i64 (sz : Nat), ov, .slice (some na) nn nc] 42) := T3
    have tX : Turns (fun i => G i ∨ i = tw) w w3 := tA.trans t3 (fun _ _ r => Or.inr r)
    have FX : w3.heap[w.heap.size]? = some (.cells #[.int .i64 arm, .slice ao m c] 76) := (t3.block _ (heap_lt F2) (by omega)).trans F2
    have DX : Dev w3 d 0 R k N G := (D1.turns b2t (fun _ _ => id)).turns t3 (fun i hi e => hg (e ▸ hi))
    obtain ⟨X, hX⟩ : ∃ X, w3 = X := ⟨_, rfl⟩
    try simp only [hX] at *
    clear c0 c1 c2 hP K1 D1 F1 T1
    have dr : Turns G X X.drew := Turns.drewN G X 1
    have mC := crash_gen (DX.below ⟨rfl, rfl, rfl, Nat.le_refl _, fun _ _ => rfl⟩ : Dev X.drew d 0 R k N G) ao m c ks (fun W t => hK W ((tX.trans dr (fun _ _ r => Or.inl r)).trans t (fun _ _ r => Or.inl r))) hkl hm (by omega)
    have hcs : ∀ w' : World, w'.heap[tw]? = X.heap[tw]? → w'.heap[w.heap.size]? = X.heap[w.heap.size]? → w'.cell? ⟨tw, 0, none⟩ = some (.pointer (some ⟨d, 0, none⟩)) ∧ w'.cell? ⟨w.heap.size, 1, none⟩ = some (.slice ao m c) := fun w' e1 e2 => ⟨by simp [World.cell?, e1, BX], by simp [World.cell?, e2, FX]⟩
    have k0 := hcs X.drew rfl rfl
    have lt1 := heap_lt BX
    have lf1 := heap_lt FX
    go_wp2_with fail
    go_region_held3 (fun w' => w'.cell? ⟨tw, 0, none⟩ = some (.pointer (some ⟨d, 0, none⟩)) ∧ w'.cell? ⟨w.heap.size, 1, none⟩ = some (.slice ao m c))
      (first | exact k0 | exact k1)
      (first
        | (go_at_call 21; refine mC.mono ?_; rintro e w4 ⟨rfl, q4⟩; have k1 := hcs w4 (q4.2.block tw lt1 hg) (q4.2.block _ lf1 lF1)))
    have c4 := k1.1
    go_wp2_with fail
    refine (power_any q4.1).mono ?_
    rintro e w5 ⟨rfl, q5⟩
    go_wp2_with fail
    go_ret
    have sX := tX.size
    have hgr : ∀ i, grow G X.drew w4 i → G i ∨ w.heap.size ≤ i := fun i r => r.imp id (fun r => Nat.le_trans sX r.1)
    have lw4 := q4.2.size
    have tE : Turns (fun i => G i ∨ i = tw) w w5 := ((tX.trans dr (fun _ _ r => Or.inl r)).trans q4.2 (fun _ _ r => Or.inl r)).trans q5.2 (fun i hi r => (hgr i r).elim Or.inl (fun r => by omega))
    have ng : ¬ grow G X.drew w4 tw := fun r => r.elim hg (fun r => absurd r.1 (by have : X.drew.heap.size = X.heap.size := rfl; omega))
    exact ⟨rfl, ⟨_, q5.1, hgr⟩, tE, _, (q5.2.block tw (Nat.lt_of_lt_of_le lt1 lw4) ng).trans ((q4.2.block tw lt1 hg).trans BX), fun _ => rfl, fun h => absurd (HBB.out.1 (by simp)) h⟩
end Go.Proofs.YtnmdnglbpkpfdaaGreatDoor

/- Plain mathematics: a crash of a calm device. -/
namespace Go.Proofs.YtnmdnglbpkpfdaaGreatDoor
open Go.RowKit Go.Maps
set_option maxRecDepth 100000
/-- Nothing pends: a crash changes nothing. -/
theorem calm_crash {S : DevS} {k st sz seq place : Nat} {free : Int} {T : List TxL} {seq0 place0 : Nat} (h : Lg S k st sz seq place free T seq0 place0) (ks : List Bool) :
    Lg (crashed S ks) k st sz seq place free T seq0 place0 ∧ ∀ b, seeT (crashed S ks) T b = seeT S T b := by
  have e : (crashed S ks).last = S.last := by
    show layAll S.last (kept S.pend ks) = _
    rw [h.calm]
    cases ks <;> rfl
  refine ⟨h.like e rfl (by show 0 ≤ _; omega), fun b => ?_⟩
  unfold seeT
  rw [rdB_calm rfl, rdB_calm h.calm, e]
/-- A power that fails at the next operation changes nothing of what is held. -/
theorem Lg.armed {S : DevS} {k st sz seq place : Nat} {free : Int} {T : List TxL} {seq0 place0 : Nat} (h : Lg S k st sz seq place free T seq0 place0) (n : Nat) (hn : n ≤ 9223372036854775807) : Lg { S with fuse := n } k st sz seq place free T seq0 place0 := h.like rfl h.calm hn
end Go.Proofs.YtnmdnglbpkpfdaaGreatDoor
