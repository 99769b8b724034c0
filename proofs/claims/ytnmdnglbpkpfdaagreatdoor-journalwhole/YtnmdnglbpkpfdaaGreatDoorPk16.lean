/- takeUp by its contract. -/
import Derived.Test.YtnmdnglbpkpfdaaGreatDoorPk15
import Derived.Test.YtnmdnglbpkpfdaaGreatDoorPk10
namespace Go.Proofs.YtnmdnglbpkpfdaaGreatDoor
open Go.RowKit Go.Maps
set_option maxRecDepth 100000
set_option maxHeartbeats 4000000 in
theorem takeUp_any {w0 w : World} {F X : Nat → Prop} {wb d : Nat} {S : DevS} {k N : Nat} {er : Nat → Addr} (h0 : Wg w0 w F X wb d S k N) {jb st sz : Nat} {seq : Int} {place bm : Nat} {op : Option Nat} {T : List TxL} (hJ : Jb w jb d st sz seq place ((sz : Int) - 1) bm op) (hM : Mp w bm 0 []) (hXj : X jb) (hXm : X bm) (hjw : jb ≠ wb) (hbw : bm ≠ wb) (hjb : jb ≠ bm) (hj0 : w0.heap.size ≤ jb) (hb0 : w0.heap.size ≤ bm) (h1 : 27 ≤ sz ∧ sz ≤ 4096) (h2 : st + sz ≤ k) (hk : k ≤ 4096) (hp : place ≤ 4096) (ho : S.off = false) (hEF : ∀ w', Turns (fun i => F i ∨ i = wb) w0 w' → Errs w' er) (hgB : ∀ b, b < k → (rdB S b).length = 512 ∧ ∀ x ∈ rdB S b, 0 ≤ x ∧ x ≤ 255) (hT : LogT S k st sz seq place ((sz : Int) - 1) T) (hs : 0 ≤ seq ∧ seq + T.length ≤ 4611686018427387904) (hN : N ≤ 900000000) :
    Calls Tryz.prog 86 #[.pointer (some ⟨jb, 0, none⟩), .pointer (some ⟨wb, 0, none⟩)] w fun e w' => e = .returned (.int .i64 T.length) ∧ TkR w0 w' F wb d S k N jb st sz seq place op T := by
  obtain ⟨G, hD, hGF, hX⟩ := h0.dv
  have hjG := hX jb hXj
  have hbG := hX bm hXm
  have hwG := hX wb h0.xw
  have hTo : ∀ w', Turns (fun i => G i ∨ i = wb ∨ i = jb ∨ i = bm) w w' → Turns (fun i => F i ∨ i = wb) w0 w' := fun w' t => h0.tr.trans t (fun i hi r => by
    rcases r with r | r | r | r
    · exact (hGF i r).elim Or.inl (fun r => by omega)
    · exact Or.inr r
    · omega
    · omega)
  have HI : Hid (TkI w w G wb d S k N jb st sz seq place bm op T 0) := ⟨(sz : Int) - 1, [], T, 0, [], fun _ => [], rfl, rfl, by rw [show seq + ((0 : Nat) : Int) = seq by omega]; exact hT, hp, by omega, by omega, by rw [show seq + ((0 : Nat) : Int) = seq by omega]; exact hJ, hM, (fun p hp => by cases hp), (fun p hp => by cases hp), fun b => rfl, (fun p hp => by cases hp), (fun q => by omega), fun _ => ⟨rfl, rfl, rfl⟩, h0.wk, hD, Turns.refl _ _⟩
  have hln0 : ∀ (w : World) (ty : TypeId), (Builtin.len_ #[99] ty #[.map none]).run Tryz.prog w = .ok (.int .i64 0) w := fun w ty => Maps.len_nil Tryz.underlying99 ty
  go_enter Tryz.func86, Tryz.ntmps86
  go_wp2_with fail
  go_loopw [5] (fun v wr => ∃ t : Nat, v = .int .i64 t ∧ t ≤ T.length ∧ TkI w wr G wb d S k N jb st sz seq place bm op T t) (fun v _ => T.length - (intOf v).toNat)
  case atStart => exact ⟨0, rfl, Nat.zero_le _, HI.out⟩
  case round =>
    clear HI
    obtain ⟨t, rfl, htT, fr, done, rest, nd, a, fa, hTe, hdl, hLg, hpl, hfr0, hndf, J, A, VA, Oa, Ca, hlv, hpos, hzero, wk, D, tr⟩ := hrel
    have c3 := J.cells.c3
    have hseq' : seq + (t : Int) ≤ 4611686018427387904 := by omega
    obtain ⟨pl, hple⟩ : ∃ pl, plEnd sz place done = pl := ⟨_, rfl⟩
    rw [hple] at J hLg hpl
    have HPL : Hid (plEnd sz place done = pl) := hple
    clear hple
    have Rr : Rg wr wr G wb d S k N := ⟨wk, D, Turns.refl _ _⟩
    have hErr : ∀ w', Turns (fun i => G i ∨ i = wb) wr w' → Errs w' er := fun w' t' => hEF w' (hTo w' (tr.trans (t'.mono (fun i _ r => r.elim Or.inl (fun r => Or.inr (Or.inl r)))) (fun _ _ r => r)))
    go_wp2_with fail
    refine (next_any Rr J hjG hjw hwG h1 h2 hk hpl ho hErr hgB).mono ?_
    rintro e w1 ⟨R1, hR⟩
    have tr1 : Turns (fun i => G i ∨ i = wb ∨ i = jb ∨ i = bm) w w1 := tr.trans (R1.tr.mono (fun i _ r => r.elim Or.inl (fun r => Or.inr (Or.inl r)))) (fun _ _ r => r)
    have J1 := R1.jb J hjG hjw
    have A1 := A.turns R1.tr (fun r => r.elim hbG hbw)
    have hvn : ∀ p ∈ a, ¬ (G p.2 ∨ p.2 = wb) := fun p hp r => by
      have := hlv p hp
      rcases r with r | r
      · have := hD.lt _ r; omega
      · have := h0.xl wb h0.xw; omega
    have VA1 := VA.turns R1.tr hvn
    rcases hR with ⟨hnil, rfl⟩ | ⟨bN, mN, f, hne, rfl, NS⟩
    · have hre : rest = [] := by
        cases hLg with
        | nil _ => rfl
        | cons e1 e2 _ => exact absurd (e1.symm.trans hnil) e2
      subst hre
      rw [List.append_nil] at hTe
      subst hTe
      clear c3 tr J A VA wk D Rr hErr
      have HCJ : Hid (∀ X' : Nat → Prop, (∀ i, X' i → i < w1.heap.size ∧ ¬ G i) → X' wb → X' jb → X' bm → (∀ p ∈ a, X' p.2) → Cj w0 w1 F X' wb d 0 S k N jb st sz (seq + t) pl fr bm op nd a fa) := fun X' hX' x1 x2 x3 x4 => ⟨⟨⟨.nilIface, Or.inl ⟨rfl, rfl⟩, R1.wk⟩, ⟨G, R1.D, hGF, fun i hi => (hX' i hi).2⟩, fun i hi => (hX' i hi).1, x1, hTo w1 tr1, h0.nw⟩, J1, A1, VA1, ⟨x2, hjw⟩, ⟨x3, hbw⟩, fun p hp => ⟨x4 p hp, fun e => hvn p hp (Or.inr e)⟩⟩
      have lw1 := heap_lt R1.wk
      have lj1 := heap_lt J1
      have lb1 := A1.own.lt
      by_cases ht0 : t = 0
      · obtain ⟨rfl, rfl, rfl⟩ := hzero ht0
        subst ht0
        have HC : Hid (TkR w0 w1 F wb d S k N jb st sz seq place op T) := by
          have hC := HCJ.out (fun i => i = wb ∨ i = jb ∨ i = bm) (fun i hi => by
            rcases hi with rfl | rfl | rfl
            · exact ⟨lw1, hwG⟩
            · exact ⟨lj1, hjG⟩
            · exact ⟨lb1, hbG⟩) (Or.inl rfl) (Or.inr (Or.inl rfl)) (Or.inr (Or.inr rfl)) (fun p hp => by cases hp)
          have hd0 : T = [] := List.eq_nil_of_length_eq_zero hdl
          subst hd0
          have hXN : ∀ i, (i = wb ∨ i = jb ∨ i = bm) → ¬ G i := fun i hi => by
            rcases hi with rfl | rfl | rfl
            · exact hwG
            · exact hjG
            · exact hbG
          refine ⟨bm, (0, S), N, hb0, by omega, ?_, Or.inl ⟨rfl, rfl⟩⟩
          rw [← HPL.out] at hC
          exact ⟨⟨hC.g.wk, ⟨G, R1.D, fun i hi => (hGF i hi).imp Or.inl id, hXN⟩, hC.g.xl, hC.g.xw, hC.g.tr.mono (fun i _ r => r.imp Or.inl id), hC.g.nw⟩, hC.J, hC.A, (fun p hp => by cases hp), hC.xj, hC.xa, (fun p hp => by cases hp)⟩
        go_wp2_with fail
        refine (checkpoint_none J1 A1).mono ?_
        rintro e wn ⟨rfl, hwn⟩
        subst wn
        go_wp2
        go_ret
        exact ⟨by rw [hdl]; rfl, HC.out⟩
      · have hap := hpos (by omega)
        have hCk := HCJ.out (fun i => i = wb ∨ i = jb ∨ i = bm ∨ ∃ p ∈ a, p.2 = i) (fun i hi => by
          rcases hi with rfl | rfl | rfl | ⟨p, hp, rfl⟩
          · exact ⟨lw1, hwG⟩
          · exact ⟨lj1, hjG⟩
          · exact ⟨lb1, hbG⟩
          · exact ⟨heap_lt (VA1 p hp).1, fun r => hvn p hp (Or.inl r)⟩) (Or.inl rfl) (Or.inr (Or.inl rfl)) (Or.inr (Or.inr (Or.inl rfl))) (fun p hp => Or.inr (Or.inr (Or.inr ⟨p, hp, rfl⟩)))
        have hla := low_len A1.ris (Oa.low hk)
        go_wp2_with fail
        refine (checkpoint_any hCk hap (Oa.low hk) hla (by omega) (by omega)).mono ?_
        rintro e w2 ⟨rfl, bm', lbm, CK, _⟩
        have HC : Hid (TkR w0 w2 F wb d S k N jb st sz seq place op T) := by
          have hs1 := tr1.size
          have hs0 := h0.tr.size
          have hC := CK.less (Y := fun i => i = wb ∨ i = jb ∨ i = bm') (fun i hi => by
            rcases hi with e | e | e
            · exact Or.inl (Or.inl e)
            · exact Or.inl (Or.inr (Or.inl e))
            · exact Or.inr e) (Or.inl rfl) (Or.inr (Or.inl rfl)) (Or.inr (Or.inr rfl)) (fun p hp => by cases hp)
          refine ⟨bm', ckP k (0, S) fa a st (seq + t) pl, N + a.length + 1, by omega, by omega, ?_, Or.inr ⟨a, fa, hap, A1.ris, Oa, Ca, fun q hq => (VA1 q hq).2, by rw [hdl, HPL.out]⟩⟩
          rw [hdl, HPL.out]
          exact hC
        clear CK hCk
        go_wp2
        go_ret
        exact ⟨by rw [hdl]; rfl, HC.out⟩
    · obtain ⟨hroom, hmay, hlen0⟩ := nextL_room hne
      have hml := NS.len
      have hm24 := nextL_24 (k := k) (seq := seq + t) (free := fr) (hgB (atN st sz pl 0) (atN_lt (by omega) h2)).2
      obtain ⟨ls, hls⟩ : ∃ ls, nextL S k st sz (seq + t) pl fr = ls := ⟨_, rfl⟩
      rw [hls] at hroom hmay hlen0 hml NS hne hm24
      obtain ⟨rest', hre, hL'⟩ : ∃ rest', rest = txOf S st sz pl ls :: rest' ∧ LogT S k st sz (seq + t + 1) ((pl + ls.length + 2) % (sz - 1)) (fr - (ls.length + 2)) rest' := by
        cases hLg with
        | nil e1 => exact absurd (hls.symm.trans e1) hne
        | cons e1 e2 e3 =>
          rename_i ls' T'
          obtain rfl : ls' = ls := e1.symm.trans hls
          exact ⟨T', rfl, e3⟩
      have lj1 := heap_lt J1
      have lb1 := A1.own.lt
      have ljr := heap_lt J
      have lbr := A.own.lt
      have lNb := NS.lb
      have Lm := NS.low hmay hk
      have La := Oa.low hk
      have hln : ∀ (ty : TypeId), (Builtin.len_ #[99] ty #[.map (some bN)]).run Tryz.prog w1 = .ok (.int .i64 mN.length) w1 := fun ty => by
        have := NS.M.own.len Tryz.underlying99 ty
        rwa [show (Maps.size (mD mN) : Int) = (mN.length : Int) by simp [mD, Maps.size_eq]] at this
      have hm0 : ¬ (mN.length : Int) = 0 := by omega
      have hfrs : fr ≤ sz := by omega
      have HX : Hid (∀ w2, Jb w2 jb d st sz (seq + t + 1) ((pl + mN.length + 2) % (sz - 1) : Nat) (fr - (mN.length + 2)) bm op → Mp w2 bm (nd + mN.length) (mmerge a mN) → Turns (fun i => i = bm ∨ i = jb) w1 w2 → t + 1 ≤ T.length ∧ TkI w w2 G wb d S k N jb st sz seq place bm op T (t + 1)) := fun w2 J2 A2 t2 => by
        have hTl : t + 1 ≤ T.length := by rw [hTe, List.length_append, hdl, hre]; simp
        have nb : ∀ (x : Nat) (l : List Int), w1.heap[x]? = some (bl l) → ¬ (x = bm ∨ x = jb) := fun x l hx r => by
          rcases r with r | r
          · exact mp_no_cells A1 hx r
          · rw [r] at hx; unfold Jb at J1; rw [J1] at hx; simp [bl] at hx
        have e1 : seq + ((t + 1 : Nat) : Int) = seq + t + 1 := by omega
        have hple' : plEnd sz place (done ++ [txOf S st sz pl ls]) = (pl + ls.length + 2) % (sz - 1) := by rw [plEnd_snoc, HPL.out, txOf_len]
        have hmod := Nat.mod_lt (pl + ls.length + 2) (show 0 < sz - 1 by omega)
        refine ⟨hTl, fr - (ls.length + 2), done ++ [txOf S st sz pl ls], rest', nd + mN.length, mmerge a mN, mergeF mN f fa, by rw [hTe, hre]; simp, by simp [hdl], ?_, by rw [hple']; omega, by omega, by omega, ?_, A2, Vals.merge A1.ris NS.M.ris (NS.V.turns t2 (fun p hp => nb _ _ (NS.V p hp).1)) (VA1.turns t2 (fun p hp => nb _ _ (VA1 p hp).1)), Oa.merge (NS.out hmay), Ca.merge A1.ris NS.M.ris (NS.at), fun p hp => ?_, fun _ => merge_pos A1.ris NS.M.ris (by omega), fun q => by omega, R1.wk.turns t2 (fun r => r.elim (fun r => hbw r.symm) (fun r => hjw r.symm)), R1.D.turns t2 (fun i hi r => r.elim (fun r => hbG (r ▸ hi)) (fun r => hjG (r ▸ hi))), tr1.trans t2 (fun i _ r => r.elim (fun r => Or.inr (Or.inr (Or.inr r))) (fun r => Or.inr (Or.inr (Or.inl r))))⟩
        · rw [hple', e1]; exact hL'
        · rw [hple', e1, ← hml]; exact J2
        · exact (mmerge_mem mN a p hp).elim (fun q => Nat.le_trans tr.size (NS.lv p q)) (hlv p)
      have hpass := pass_ok J1 A1 NS.M (by omega) La Lm (by omega) hjb (by omega) (by omega) hpl (by omega) (by omega) (by omega)
      clear c3 J A VA wk D Rr hErr hL' NS
      go_wp2_with fail
      refine hpass.mono ?_
      rintro e w2 ⟨rfl, J2, A2, _, t2⟩
      obtain ⟨hT9, HI9⟩ := HX.out w2 J2 A2 t2
      have HI9' : Hid (TkI w w2 G wb d S k N jb st sz seq place bm op T (t + 1)) := HI9
      clear HX hpass HI9 J2 A2 t2 J1 A1 VA1
      go_wp2_with fail
      go_roundw
      case rel => exact ⟨t + 1, by go_num, hT9, HI9'.out⟩
      case measure => simp [intOf]; omega
end Go.Proofs.YtnmdnglbpkpfdaaGreatDoor

/- A checkpoint where nothing fails. -/
namespace Go.Proofs.YtnmdnglbpkpfdaaGreatDoor
open Go.RowKit Go.Maps
set_option maxRecDepth 100000
/-- The first i blocks that are away are written home. -/
def homeS (S : DevS) (fa : Nat → List Int) (a : List (Nat × Nat)) : Nat → DevS
  | 0 => S
  | i + 1 => wrote (burnt (homeS S fa a i)) ((a.map (·.1)).getD i 0) (fa ((a.map (·.1)).getD i 0))
/-- What a device holds behind a checkpoint. -/
def ckS (S : DevS) (fa : Nat → List Int) (a : List (Nat × Nat)) (st : Nat) (seq : Int) (place : Nat) : DevS := flushed (burnt (wrote (burnt (flushed (burnt (homeS S fa a a.length)))) st (jheadB seq place)))
theorem homeS_lasts {S : DevS} {fa : Nat → List Int} {a : List (Nat × Nat)} : ∀ (i n : Nat), Lasts S (i + n) → Lasts (homeS S fa a i) n
  | 0, n, h => by rw [Nat.zero_add] at h; exact h
  | i + 1, n, h => ((homeS_lasts i (n + 1) (by rw [show i + (n + 1) = i + 1 + n by omega]; exact h)).burnt).wrote _ _
theorem homeP_ok {S : DevS} {k : Nat} {fa : Nat → List Int} {a : List (Nat × Nat)} (hk : ∀ p ∈ a, p.1 < k) (hf : ∀ p ∈ a, (fa p.1).length = 512) : ∀ (i n : Nat), i ≤ a.length → Lasts S (i + n) → homeP k (0, S) fa a i = (0, homeS S fa a i)
  | 0, _, _, _ => rfl
  | i + 1, n, hi, h => by
    have hl : Lasts (homeS S fa a i) (n + 1) := homeS_lasts i (n + 1) (by rw [show i + (n + 1) = i + 1 + n by omega]; exact h)
    have e : (a.map (·.1)).getD i 0 = (a[i]'(by omega)).1 := by simp [show i < a.length by omega]
    have hm := List.getElem_mem (show i < a.length by omega)
    show pW k (homeP k (0, S) fa a i) _ _ = _
    rw [homeP_ok hk hf i (n + 1) (by omega) (by rw [show i + (n + 1) = i + 1 + n by omega]; exact h)]
    show (wkE 0 (homeS S fa a i) k _ 512, wkS 0 (homeS S fa a i) k _ _) = (0, wrote (burnt (homeS S fa a i)) _ _)
    rw [e, wkE_ok hl (hk _ hm), wkS_ok hl (hk _ hm) (hf _ hm)]
theorem pW_ok {S : DevS} {k b n : Nat} {bs : List Int} (h : Lasts S (n + 1)) (hb : b < k) (hl : bs.length = 512) : pW k (0, S) b bs = (0, wrote (burnt S) b bs) := by
  show (wkE 0 S k b 512, wkS 0 S k b bs) = _
  rw [wkE_ok h hb, wkS_ok h hb hl]
theorem pF_ok {S : DevS} {n : Nat} (h : Lasts S (n + 1)) : pF (0, S) = (0, flushed (burnt S)) := by
  show (fkE 0 S, fkS 0 S) = _
  rw [fkE_ok h, fkS_ok h]
theorem ckP_ok {S : DevS} {k : Nat} {fa : Nat → List Int} {a : List (Nat × Nat)} {st : Nat} {seq : Int} {place : Nat} (hk : ∀ p ∈ a, p.1 < k) (hf : ∀ p ∈ a, (fa p.1).length = 512) (hs : st < k) (h : Lasts S (a.length + 3)) : ckP k (0, S) fa a st seq place = (0, ckS S fa a st seq place) := by
  have h3 : Lasts (homeS S fa a a.length) 3 := homeS_lasts a.length 3 h
  have h2 : Lasts (flushed (burnt (homeS S fa a a.length))) 2 := h3.burnt.flushed
  have h1 : Lasts (wrote (burnt (flushed (burnt (homeS S fa a a.length)))) st (jheadB seq place)) 1 := h2.burnt.wrote _ _
  unfold ckP
  rw [homeP_ok hk hf a.length 3 (Nat.le_refl _) h, pF_ok h3, pW_ok h2 hs (jheadB_len seq place), pF_ok h1]
  rfl
end Go.Proofs.YtnmdnglbpkpfdaaGreatDoor

/- Open by its contract, of a log that holds transactions. -/
namespace Go.Proofs.YtnmdnglbpkpfdaaGreatDoor
open Go.RowKit Go.Maps
set_option maxRecDepth 100000
/-- What Open leaves. -/
def OpenR (w w' : World) (F : Nat → Prop) (d : Nat) (S : DevS) (k N st sz seq place : Nat) (T : List TxL) (e : Ending) : Prop := ∃ (jb bm : Nat) (S' : DevS) (N' : Nat), e = .returned (.tuple #[.pointer (some ⟨jb, 0, none⟩), .int .i64 T.length, .int .i64 0]) ∧ w.heap.size ≤ jb ∧ w.heap.size ≤ bm ∧ N' ≤ N + 4097 ∧ ((T = [] ∧ S' = S) ∨ ∃ a fa, 0 < a.length ∧ Rising a ∧ OutA k st sz a ∧ Cont a fa T ∧ (∀ q ∈ a, (fa q.1).length = 512 ∧ ∀ x ∈ fa q.1, 0 ≤ x ∧ x ≤ 255) ∧ S' = ckS S fa a st ((seq : Int) + T.length) (plEnd sz place T)) ∧ Jb w' jb d st sz ((seq : Int) + T.length) (plEnd sz place T) ((sz : Int) - 1) bm none ∧ Mp w' bm 0 [] ∧ (∃ G, Dev w' d 0 S' k N' G ∧ (∀ i, G i → F i ∨ w.heap.size ≤ i) ∧ ¬ G jb ∧ ¬ G bm) ∧ Turns F w w'
set_option maxHeartbeats 4000000 in
theorem open_log {w : World} {d : Nat} {S : DevS} {k N : Nat} {F : Nat → Prop} {er : Nat → Addr} (hD : Dev w d 0 S k N F) (st sz : Nat) (h1 : 27 ≤ sz) (h2 : st + sz ≤ k) (hEF : ∀ w', Turns F w w' → Errs w' er)
    (seq place : Nat) (hh : (hdR (rdB S st) (sz - 1)).1.1 = seq ∧ (hdR (rdB S st) (sz - 1)).2.1.1 = place) (hok : hdOk (rdB S st) (sz - 1) = true) (hp : place ≤ 4096) {T : List TxL} (hT : LogT S k st sz seq place ((sz : Int) - 1) T) (hs : (seq : Int) + T.length ≤ 4611686018427387904) (hS : Lasts S 4100) (hN : N ≤ 900000000)
    (hgB : ∀ b, b < k → (rdB S b).length = 512 ∧ ∀ x ∈ rdB S b, 0 ≤ x ∧ x ≤ 255) :
    Calls Tryz.prog 48 #[.pointer (some ⟨d, 0, none⟩), .int .i64 st, .int .i64 sz] w fun e w' => OpenR w w' F d S k N st sz seq place T e := by
  have ho := hS.on
  have hF := hD.lt
  have hk := hD.good.top
  obtain ⟨W, hW⟩ : ∃ W, w.alloc (.cells #[.pointer (some ⟨d, 0, none⟩), .int .i64 st, .int .i64 sz] 98) = W := ⟨_, rfl⟩
  have hb : Below w.heap.size w W := by rw [← hW]; exact (Below.refl _ w).alloc (Nat.le_refl _) _
  have x0 : W.cell? ⟨w.heap.size, 0, none⟩ = some (.pointer (some ⟨d, 0, none⟩)) := by rw [← hW]; simp
  have x1 : W.cell? ⟨w.heap.size, 1, none⟩ = some (.int .i64 st) := by rw [← hW]; simp
  have x2 : W.cell? ⟨w.heap.size, 2, none⟩ = some (.int .i64 sz) := by rw [← hW]; simp
  have hs0 : W.heap.size = w.heap.size + 1 := by rw [← hW]; simp
  have hDW := hD.below hb
  have hfit : fitB k st sz = true := by simp [fitB]; omega
  have m1 := fits_any hDW st sz (by omega) (by omega) (by omega)
  rw [hfit] at m1
  go_enter Tryz.func48, Tryz.ntmps48
  go_wp2_with fail
  try rw [hW]
  refine m1.mono ?_
  rintro e w1 ⟨rfl, q1⟩
  have old : ∀ j v, W.cell? ⟨w.heap.size, j, none⟩ = some v → w1.cell? ⟨w.heap.size, j, none⟩ = some v := fun j v h => (World.cell?_of_block (q1.2.block w.heap.size (by omega) (fun r => by have := hF _ r; omega))).trans h
  have y0 := old 0 _ x0
  have y1 := old 1 _ x1
  have y2 := old 2 _ x2
  have s1 := q1.2.size
  have T1 : Turns F w w1 := (Below.turns hb F).trans q1.2 (fun _ _ h => h)
  have HT1 : Hid (Turns F w w1) := T1
  clear x0 x1 x2 old m1
  go_wp2_with fail
  refine (begun_any q1.1).mono ?_
  rintro e w2 ⟨ev, rfl, hev, k2, q2⟩
  have he : begE S = 0 := by unfold begE; rw [if_neg (by simp [ho])]
  rw [he] at hev
  obtain ⟨_, rfl⟩ := hev.resolve_right (fun h => h.1 rfl)
  have hF1 : ∀ i, F i → i < w1.heap.size := fun i r => by have := hF i r; omega
  have g2 := Wg.start hF1 k2 q2
  obtain ⟨wb, hwb⟩ : ∃ wb, w1.heap.size = wb := ⟨_, rfl⟩
  rw [hwb] at g2
  have EF : ∀ w', Turns (fun i => F i ∨ i = wb) w1 w' → Errs w' er := fun w' t => hEF w' (T1.trans (t.mono (G := fun i => F i) (fun i hi r => r.elim id (fun r => by omega))) (fun _ _ h => h))
  have rg : ∀ w', Turns (fun i => F i ∨ i = wb) w1 w' → ∀ j v, w1.cell? ⟨w.heap.size, j, none⟩ = some v → w'.cell? ⟨w.heap.size, j, none⟩ = some v := fun w' t j v h => (World.cell?_of_block (t.block w.heap.size (by omega) (fun r => r.elim (fun r => by have := hF _ r; omega) (fun r => by omega)))).trans h
  have u0 := rg w2 g2.tr 0 _ y0
  have u1 := rg w2 g2.tr 1 _ y1
  have u2 := rg w2 g2.tr 2 _ y2
  have hwl := heap_lt g2.wk
  clear k2 q2 q1 hDW hD hb T1 hW
  go_wp2_with fail
  have hB0 := hgB st (by omega)
  refine (found_ok g2 st sz h1 h2 hk ho EF hB0.1 hB0.2 seq place hh hok).mono ?_
  rintro e w3 ⟨jb, bm, rfl, lj, lm, J3, M3, g3, kp3⟩
  have jw : jb ≠ wb := by omega
  have mw : bm ≠ wb := by omega
  have jl := heap_lt J3
  have ml := M3.lt
  clear u0 u1 u2 kp3 g2
  go_wp2_with fail
  have hjb : jb ≠ bm := mp_no_cells M3 J3
  refine (takeUp_any (T := T) g3 J3 M3 (Or.inr ⟨lj, jl⟩) (Or.inr ⟨lm, ml⟩) jw mw hjb (by omega) (by omega) (by omega) h2 hk hp ho EF hgB hT (by omega) hN).mono ?_
  rintro e w4 ⟨rfl, TK⟩
  obtain ⟨bm', p9, N9, lb9, hN9, C4, hp9⟩ := TK
  have HP9 : Hid (p9.1 = 0 ∧ ((T = [] ∧ p9.2 = S) ∨ ∃ a fa, 0 < a.length ∧ Rising a ∧ OutA k st sz a ∧ Cont a fa T ∧ (∀ q ∈ a, (fa q.1).length = 512 ∧ ∀ x ∈ fa q.1, 0 ≤ x ∧ x ≤ 255) ∧ p9.2 = ckS S fa a st (seq + T.length) (plEnd sz place T))) := by
    rcases hp9 with ⟨q1, q2⟩ | ⟨a, fa, q1, q2, q3, q4, q5, q6⟩
    · rw [q2]; exact ⟨rfl, Or.inl ⟨q1, rfl⟩⟩
    · have hla := low_len q2 (q3.low hk)
      rw [ckP_ok (fun p hp => (q3 p hp).1) (fun p hp => (q5 p hp).1) (by omega) (hS.mono (by omega))] at q6
      rw [q6]
      exact ⟨rfl, Or.inr ⟨a, fa, q1, q2, q3, q4, q5, rfl⟩⟩
  obtain ⟨ev, hev, hwk⟩ := C4.g.wk
  rw [HP9.out.1] at hev
  obtain ⟨_, rfl⟩ := hev.resolve_right (fun h => h.1 rfl)
  have e0 := hwk.c0
  have e1 := hwk.c1
  clear g3 J3 M3 hp9
  go_wp2
  refine bodyPost_ret (results_tmp3 rfl _ _ _) rfl ?_
  obtain ⟨G, D, hG, hX⟩ := C4.g.dv
  have T4 : Turns F w1 w4 := C4.g.tr.mono (fun i hi r => r.elim (fun r => r.elim id (fun r => by omega)) (fun r => by omega))
  exact ⟨jb, bm', p9.2, N9, rfl, by omega, by omega, hN9, HP9.out.2, C4.J, C4.A, ⟨G, D, fun i hi => (hG i hi).elim (fun q => q.imp id (fun q => by omega)) (fun r => Or.inr (by omega)), hX jb (Or.inr (Or.inl rfl)), hX bm' (Or.inr (Or.inr rfl))⟩, HT1.out.trans T4 (fun _ _ h => h)⟩
end Go.Proofs.YtnmdnglbpkpfdaaGreatDoor

/- Plain mathematics: descriptors, commits and hidden blocks are read back. -/
namespace Go.Proofs.YtnmdnglbpkpfdaaGreatDoor
open Go.RowKit Go.Maps
set_option maxRecDepth 100000
theorem rd_be {k n : Nat} {q pre post : List Int} {x M : Int} (hq : q = pre ++ (be x k ++ post)) (h0 : 0 ≤ x) (h1 : x < 2 ^ (8 * k)) (hM : x ≤ M) (hn : pre.length + k ≤ n) : rdNum k n q pre.length 0 M = (x, pre.length + k, 0) := by
  have e : (q.drop pre.length).take k = be x k := by rw [hq, List.drop_left' rfl, List.take_left' (be_length x k)]
  unfold rdNum
  rw [if_neg (by simp), if_neg (by omega), e, val_be k x h0 h1, if_neg (by omega)]
/-- What stands in a descriptor behind its mark. -/
theorem des_cut (seq : Int) (ls : List (Nat × Nat)) (hs : 0 ≤ seq ∧ seq ≤ 4611686018427387905) (hl : ls.length ≤ 24) : ((desB seq ls).drop 4).take 508 = (be ls.length 4 ++ be seq 8) ++ (lnB ls ++ List.replicate (496 - 8 * ls.length) 0) := by
  have h : desB seq ls = [65, 78, 88, 68] ++ ((be ls.length 4 ++ be seq 8) ++ (lnB ls ++ List.replicate (496 - 8 * ls.length) 0)) := by
    unfold desB fillB desH
    rw [u64_same seq hs.1 hs.2]
    have e : ([65, 78, 88, 68] ++ be (ls.length : Nat) 4 ++ be seq 8 ++ lnB ls).length = 16 + 8 * ls.length := by simp [be_length, lnB_len]; omega
    rw [e, show 512 - (16 + 8 * ls.length) = 496 - 8 * ls.length by omega]
    simp
  have hd : (desB seq ls).drop 4 = (be ls.length 4 ++ be seq 8) ++ (lnB ls ++ List.replicate (496 - 8 * ls.length) 0) := by rw [h]; rfl
  rw [hd, List.take_of_length_le]
  simp [be_length, lnB_len]
  omega
theorem lnB_split : ∀ (ls : List (Nat × Nat)) (i : Nat) (h : i < ls.length), lnB ls = lnB (ls.take i) ++ (be ls[i].1 4 ++ (be ls[i].2 4 ++ lnB (ls.drop (i + 1))))
  | p :: ls, 0, _ => by simp [lnB]
  | p :: ls, i + 1, h => by
    have := lnB_split ls i (by simpa using h)
    simp only [lnB, List.flatMap_cons, List.take_succ_cons, List.drop_succ_cons, List.getElem_cons_succ] at *
    rw [this]
    simp
/-- A descriptor is read back. -/
theorem lines_back (seq : Int) (ls : List (Nat × Nat)) (hs : 0 ≤ seq ∧ seq ≤ 4611686018427387905) (hl : ls.length ≤ 24) (hb : ∀ p ∈ ls, p.1 < 4294967296 ∧ p.2 ≤ 2) : linesR (desB seq ls) seq = ls := by
  have hbg : begs (desB seq ls) [65, 78, 88, 68] = true := by
    unfold begs
    refine decide_eq_true ?_
    unfold desB fillB desH
    rfl
  have hc := des_cut seq ls hs hl
  obtain ⟨q, hq⟩ : ∃ q, ((desB seq ls).drop 4).take 508 = q := ⟨_, rfl⟩
  rw [hq] at hc
  have a1 : dsA q = ((ls.length : Int), 4, 0) := rd_be (pre := []) (k := 4) (post := be seq 8 ++ (lnB ls ++ List.replicate (496 - 8 * ls.length) 0)) (by rw [hc]; simp) (by omega) (Int.lt_of_le_of_lt (show ((ls.length : Nat) : Int) ≤ 24 by omega) (by decide)) (by omega) (by simp)
  have a2 : dsB q = (seq, 12, 0) := by
    unfold dsB
    rw [a1]
    exact rd_be (pre := be ls.length 4) (k := 8) (post := lnB ls ++ List.replicate (496 - 8 * ls.length) 0) (by rw [hc]; simp) hs.1 (Int.lt_of_le_of_lt hs.2 (by decide)) (by omega) (by simp [be_length])
  have step : ∀ i (h : i < ls.length), dsP q i = (12 + 8 * i, 0) → dsP q (i + 1) = (12 + 8 * (i + 1), 0) ∧ dsL q i = ls[i] := fun i h hp => by
    have hsp := lnB_split ls i h
    have hbi := hb ls[i] (List.getElem_mem h)
    have hpl : (be ls.length 4 ++ be seq 8 ++ lnB (ls.take i)).length = 12 + 8 * i := by simp [be_length, lnB_len]; omega
    have hp2 : (be ls.length 4 ++ be seq 8 ++ lnB (ls.take i) ++ be ls[i].1 4).length = 16 + 8 * i := by simp [be_length, lnB_len]; omega
    have x1 := rd_be (n := 508) (M := 4294967295) (q := q) (pre := be ls.length 4 ++ be seq 8 ++ lnB (ls.take i)) (k := 4) (x := (ls[i].1 : Nat)) (post := be ls[i].2 4 ++ lnB (ls.drop (i + 1)) ++ List.replicate (496 - 8 * ls.length) 0) (by rw [hc, hsp]; simp) (by omega) (Int.lt_of_le_of_lt (show ((ls[i].1 : Nat) : Int) ≤ 4294967295 by omega) (by decide)) (by omega) (by rw [hpl]; omega)
    have x2 := rd_be (n := 508) (M := 2) (q := q) (pre := be ls.length 4 ++ be seq 8 ++ lnB (ls.take i) ++ be ls[i].1 4) (k := 4) (x := (ls[i].2 : Nat)) (post := lnB (ls.drop (i + 1)) ++ List.replicate (496 - 8 * ls.length) 0) (by rw [hc, hsp]; simp) (by omega) (Int.lt_of_le_of_lt (show ((ls[i].2 : Nat) : Int) ≤ 2 by omega) (by decide)) (by omega) (by rw [hp2]; omega)
    rw [hpl] at x1
    rw [hp2] at x2
    have e16 : 12 + 8 * i + 4 = 16 + 8 * i := by omega
    rw [e16] at x1
    refine ⟨?_, ?_⟩
    · show ((rdNum 4 508 q (rdNum 4 508 q (dsP q i).1 (dsP q i).2 4294967295).2.1 (rdNum 4 508 q (dsP q i).1 (dsP q i).2 4294967295).2.2 2).2.1, (rdNum 4 508 q (rdNum 4 508 q (dsP q i).1 (dsP q i).2 4294967295).2.1 (rdNum 4 508 q (dsP q i).1 (dsP q i).2 4294967295).2.2 2).2.2) = _
      rw [hp, x1, x2]
      simp only [Prod.mk.injEq, and_true]
      omega
    · unfold dsL
      rw [hp, x1, x2]
      simp
  have hP : ∀ i, i ≤ ls.length → dsP q i = (12 + 8 * i, 0) := fun i => by
    induction i with
    | zero => intro _; unfold dsP; rw [a2]
    | succ i ih => intro h; exact (step i (by omega) (ih (by omega))).1
  have hn : (dsA q).1.toNat = ls.length := by rw [a1]; simp
  unfold linesR
  rw [hq, if_pos ⟨hbg, by rw [a2], by rw [hn, hP _ (Nat.le_refl _)]⟩, hn]
  refine List.ext_getElem (by simp) (fun i h1 h2 => ?_)
  rw [List.getElem_map, List.getElem_range]
  exact (step i h2 (hP i (by omega))).2
/-- A commit is read back. -/
theorem com_back (seq s : Int) (hs : 0 ≤ seq ∧ seq ≤ 4611686018427387905) : isCom (comB seq) s = decide (seq = s) := by
  have hbg : begs (comB seq) [65, 78, 88, 67] = true := by
    unfold begs
    refine decide_eq_true ?_
    unfold comB fillB
    rfl
  have hc : ((comB seq).drop 8).take 504 = be seq 8 ++ List.replicate 496 0 := by
    have h : comB seq = ([65, 78, 88, 67] ++ be 0 4) ++ (be seq 8 ++ List.replicate 496 0) := by
      unfold comB fillB
      rw [u64_same seq hs.1 hs.2]
      have e : ([65, 78, 88, 67] ++ be 0 4 ++ be seq 8).length = 16 := by simp [be_length]
      rw [e]
      simp
    rw [h, List.drop_left' (by simp [be_length]), List.take_of_length_le (by simp [be_length])]
  unfold isCom
  have x1 := rd_be (n := 504) (M := 9223372036854775807) (q := be seq 8 ++ List.replicate 496 0) (pre := []) (k := 8) (x := seq) (post := List.replicate 496 0) (by simp) hs.1 (Int.lt_of_le_of_lt hs.2 (by decide)) (by omega) (by simp)
  rw [hc, hbg]
  have x1' : rdNum 8 504 (be seq 8 ++ List.replicate 496 0) 0 0 9223372036854775807 = (seq, 8, 0) := x1
  rw [x1']
  rfl
theorem no_com {bs : List Int} (h : begs bs [65, 78, 88, 67] = false) (s : Int) : isCom bs s = false := by
  unfold isCom
  rw [h]
  rfl
theorem des_no (seq : Int) (ls : List (Nat × Nat)) (s : Int) : isCom (desB seq ls) s = false := no_com (by
  unfold begs
  refine decide_eq_false ?_
  unfold desB fillB desH
  intro h
  have : ([65, 78, 88, 68] : List Int) = [65, 78, 88, 67] := h
  simp at this) s
theorem zB_no (s : Int) : isCom zB s = false := no_com (by decide) s
theorem hid_no (bs : List Int) (s : Int) : isCom (hidB bs (flagN bs)) s = false := no_com (by
  unfold hidB flagN
  by_cases h1 : begs bs [65, 78, 88, 68] = true
  · rw [if_pos h1, if_neg (by omega)]
    unfold begs
    refine decide_eq_false ?_
    intro h
    have : ([0, 0, 0, 0] : List Int) = [65, 78, 88, 67] := h
    simp at this
  · rw [if_neg h1]
    by_cases h2 : begs bs [65, 78, 88, 67] = true
    · rw [if_pos h2, if_neg (by omega)]
      unfold begs
      refine decide_eq_false ?_
      intro h
      have : ([0, 0, 0, 0] : List Int) = [65, 78, 88, 67] := h
      simp at this
    · rw [if_neg h2, if_pos rfl]
      simpa using h2) s
/-- A hidden block is shown as it was. -/
theorem show_back (bs : List Int) : shB (hidB bs (flagN bs)) (flagN bs) = bs ∧ shOk (hidB bs (flagN bs)) (flagN bs) = true := by
  have hz : begs ([0, 0, 0, 0] ++ bs.drop 4) [0, 0, 0, 0] = true := by unfold begs; exact decide_eq_true rfl
  by_cases h1 : begs bs [65, 78, 88, 68] = true
  · have hf : flagN bs = 1 := by unfold flagN; rw [if_pos h1]
    rw [hf]
    have e : bs.take 4 = [65, 78, 88, 68] := of_decide_eq_true h1
    refine ⟨?_, hz⟩
    show [65, 78, 88, 68] ++ bs.drop 4 = bs
    rw [← e]
    simp
  · by_cases h2 : begs bs [65, 78, 88, 67] = true
    · have hf : flagN bs = 2 := by unfold flagN; rw [if_neg h1, if_pos h2]
      rw [hf]
      have e : bs.take 4 = [65, 78, 88, 67] := of_decide_eq_true h2
      refine ⟨?_, hz⟩
      show [65, 78, 88, 67] ++ bs.drop 4 = bs
      rw [← e]
      simp
    · have hf : flagN bs = 0 := by unfold flagN; rw [if_neg h1, if_neg h2]
      rw [hf]
      exact ⟨rfl, rfl⟩
end Go.Proofs.YtnmdnglbpkpfdaaGreatDoor

/- Plain mathematics: transactions laid into a log one behind the other are taken up. -/
namespace Go.Proofs.YtnmdnglbpkpfdaaGreatDoor
open Go.RowKit Go.Maps
set_option maxRecDepth 100000
/-- The lines of a transaction. -/
def lnsT (x : TxL) : List (Nat × Nat) := x.map fun p => (p.1, flagN p.2)
theorem lnsT_len (x : TxL) : (lnsT x).length = x.length := by simp [lnsT]
theorem lnsT_getD (x : TxL) (i : Nat) (h : i < x.length) : (lnsT x).getD i (0, 0) = (x[i].1, flagN x[i].2) := by simp [lnsT, List.getD, h]
/-- How a transaction stands in the log. -/
def txS (seq : Int) (x : TxL) : List (List Int) := desB seq (lnsT x) :: (x.map (fun p => hidB p.2 (flagN p.2)) ++ [comB seq])
theorem txS_len (seq : Int) (x : TxL) : (txS seq x).length = x.length + 2 := by simp [txS]
theorem txS_hid (seq : Int) (x : TxL) (i : Nat) (h : i < x.length) : (txS seq x)[i + 1]? = some (hidB x[i].2 (flagN x[i].2)) := by
  simp [txS, List.getElem?_append_left, h]
theorem txS_com (seq : Int) (x : TxL) : (txS seq x)[x.length + 1]? = some (comB seq) := by
  simp [txS]
/-- How transactions stand in the log. -/
def strm (seq : Int) : List TxL → List (List Int)
  | [] => []
  | x :: T => txS seq x ++ strm (seq + 1) T
theorem strm_snoc (T : List TxL) (x : TxL) : ∀ seq : Int, strm seq (T ++ [x]) = strm seq T ++ txS (seq + T.length) x := by
  induction T with
  | nil => intro seq; simp [strm]
  | cons y T ih =>
    intro seq
    show txS seq y ++ strm (seq + 1) (T ++ [x]) = txS seq y ++ strm (seq + 1) T ++ txS (seq + ((y :: T).length : Nat)) x
    rw [ih (seq + 1), show seq + 1 + (T.length : Int) = seq + ((y :: T).length : Nat) by simp; omega]
    simp
/-- A transaction that may be. -/
structure TxOk (k st sz : Nat) (x : TxL) : Prop where
  ne : 0 < x.length
  few : x.length ≤ 24
  ris : x.Pairwise (fun p q => p.1 < q.1)
  out : ∀ p ∈ x, p.1 < k ∧ (p.1 < st ∨ st + sz ≤ p.1)
  byt : ∀ p ∈ x, p.2.length = 512 ∧ ∀ b ∈ p.2, 0 ≤ b ∧ b ≤ 255
theorem TxOk.may {k st sz : Nat} {x : TxL} (h : TxOk k st sz x) : mayB k st sz (lnsT x) = true := by
  unfold mayB
  rw [List.all_eq_true]
  intro t ht
  rw [List.mem_range, lnsT_len] at ht
  unfold mayT
  have ho := h.out x[t] (List.getElem_mem ht)
  rw [lnsT_getD x t ht]
  have e1 : outB k st sz ((x[t].1 : Nat) : Int) = true := by
    unfold outB
    simp
    omega
  rw [e1, Bool.true_and]
  by_cases e0 : t = 0
  · simp [e0]
  · rw [lnsT_getD x (t - 1) (by omega)]
    have := List.pairwise_iff_getElem.1 h.ris (t - 1) t (by omega) ht (by omega)
    simp [e0, this]
theorem atN_next (st sz place n o : Nat) : atN st sz ((place + n + 2) % (sz - 1)) o = atN st sz place (n + 2 + o) := by
  unfold atN
  rw [Nat.mod_add_mod]
  congr 2
  omega
/-- The transaction at a place is taken up. -/
theorem next_of {S : DevS} {k st sz : Nat} {seq : Int} {place : Nat} {free : Int} {x : TxL} (hx : TxOk k st sz x) (hk : k ≤ 4096) (hs : 0 ≤ seq ∧ seq ≤ 4611686018427387905) (hf : (x.length : Int) + 2 ≤ free) (hstr : ∀ o b, (txS seq x)[o]? = some b → rdB S (atN st sz place o) = b) : nextL S k st sz seq place free = lnsT x ∧ txOf S st sz place (lnsT x) = x := by
  have h0 : rdB S (atN st sz place 0) = desB seq (lnsT x) := hstr 0 _ rfl
  have hl : linesR (rdB S (atN st sz place 0)) seq = lnsT x := by
    rw [h0]
    refine lines_back seq _ hs (by rw [lnsT_len]; exact hx.few) (fun p hp => ?_)
    obtain ⟨r, hr, rfl⟩ := List.mem_map.1 hp
    have := (hx.out r hr).1
    exact ⟨by simp only; omega, flagN_le _⟩
  have hi : ∀ i (h : i < x.length), rdB S (atN st sz place (i + 1)) = hidB x[i].2 (flagN x[i].2) := fun i h => hstr (i + 1) _ (txS_hid seq x i h)
  have hne : lnsT x ≠ [] := fun e => by
    have h2 : x.length = 0 := by rw [← lnsT_len, e]; rfl
    have := hx.ne
    omega
  refine ⟨?_, ?_⟩
  · unfold nextL
    simp only [hl]
    rw [if_pos]
    refine ⟨hne, by rw [lnsT_len]; exact hf, hx.may, ?_, ?_⟩
    · rw [lnsT_len, hstr _ _ (txS_com seq x), com_back seq seq hs]
      simp
    · unfold nxOk
      rw [List.all_eq_true]
      intro i hi'
      rw [List.mem_range, lnsT_len] at hi'
      rw [hi i hi', lnsT_getD x i hi']
      exact (show_back _).2
  · unfold txOf
    refine List.ext_getElem (by simp [lnsT_len]) (fun i h1 h2 => ?_)
    rw [List.getElem_map, List.getElem_range, lnsT_getD x i h2]
    unfold nxB
    rw [hi i h2, lnsT_getD x i h2, (show_back _).1]
/-- No commit of that number or a later one stands in the log. -/
def NoCom (S : DevS) (st sz : Nat) (seq : Int) : Prop := ∀ p, st < p → p < st + sz → ∀ s, seq ≤ s → isCom (rdB S p) s = false
theorem next_no {S : DevS} {k st sz : Nat} {seq : Int} {place : Nat} {free : Int} (h : NoCom S st sz seq) (h1 : 2 ≤ sz) : nextL S k st sz seq place free = [] := by
  unfold nextL
  simp only
  rw [if_neg]
  rintro ⟨_, _, _, hc, _⟩
  generalize (linesR (rdB S (atN st sz place 0)) seq).length + 1 = L at hc
  have hm := Nat.mod_lt (place + L) (show 0 < sz - 1 by omega)
  rw [h _ (by unfold atN; omega) (by unfold atN; omega) seq (Int.le_refl _)] at hc
  cases hc
theorem log_of {S : DevS} {k st sz : Nat} (hk : k ≤ 4096) (h1 : 2 ≤ sz) : ∀ (T : List TxL) (seq : Int) (place : Nat) (free : Int), (∀ x ∈ T, TxOk k st sz x) → 0 ≤ seq → seq + T.length ≤ 4611686018427387905 → ((strm seq T).length : Int) ≤ free → (∀ o b, (strm seq T)[o]? = some b → rdB S (atN st sz place o) = b) → NoCom S st sz (seq + T.length) → LogT S k st sz seq place free T
  | [], seq, place, free, _, _, _, _, _, hn => LogT.nil (next_no (by simpa using hn) h1)
  | x :: T, seq, place, free, hok, hs0, hs1, hf, hstr, hn => by
    have hlen : (strm seq (x :: T)).length = x.length + 2 + (strm (seq + 1) T).length := by
      show (txS seq x ++ strm (seq + 1) T).length = _
      rw [List.length_append, txS_len]
    simp only [List.length_cons] at hs1 hn
    obtain ⟨e1, e2⟩ := next_of (S := S) (place := place) (free := free) (seq := seq) (hok x List.mem_cons_self) hk ⟨hs0, by omega⟩ (by omega) (fun o b hb => hstr o b (by
      show (txS seq x ++ strm (seq + 1) T)[o]? = some b
      rw [List.getElem?_append_left (List.getElem?_eq_some_iff.1 hb).1]
      exact hb))
    have hne : lnsT x ≠ [] := fun e => by
      have h2 : x.length = 0 := by rw [← lnsT_len, e]; rfl
      have := (hok x List.mem_cons_self).ne
      omega
    have hrest := log_of hk h1 T (seq + 1) ((place + x.length + 2) % (sz - 1)) (free - (x.length + 2)) (fun y hy => hok y (List.mem_cons_of_mem _ hy)) (by omega) (by omega) (by omega) (fun o b hb => by
      rw [atN_next]
      refine hstr (x.length + 2 + o) b ?_
      show (txS seq x ++ strm (seq + 1) T)[x.length + 2 + o]? = some b
      rw [List.getElem?_append_right (by rw [txS_len]; omega), txS_len, show x.length + 2 + o - (x.length + 2) = o by omega]
      exact hb) (by rw [show seq + 1 + (T.length : Int) = seq + ((T.length + 1 : Nat) : Int) by omega]; exact hn)
    have := LogT.cons (S := S) (k := k) (st := st) (sz := sz) (T := T) e1 hne (by rw [lnsT_len]; exact hrest)
    rw [e2] at this
    exact this
end Go.Proofs.YtnmdnglbpkpfdaaGreatDoor

/- Plain mathematics: what a device with a journal holds; commits and checkpoints keep it. -/
namespace Go.Proofs.YtnmdnglbpkpfdaaGreatDoor
open Go.RowKit Go.Maps
set_option maxRecDepth 100000
theorem atN_inj {st sz place i j : Nat} (hi : i < sz - 1) (hj : j < sz - 1) (h : atN st sz place i = atN st sz place j) : i = j := by
  unfold atN at h
  have e : (place + i) % (sz - 1) = (place + j) % (sz - 1) := by omega
  rcases Nat.le_total i j with q | q
  · have h1 := Nat.sub_mod_eq_zero_of_mod_eq e.symm
    rw [show place + j - (place + i) = j - i by omega, Nat.mod_eq_of_lt (by omega)] at h1
    omega
  · have h1 := Nat.sub_mod_eq_zero_of_mod_eq e
    rw [show place + i - (place + j) = i - j by omega, Nat.mod_eq_of_lt (by omega)] at h1
    omega
theorem atN_in {st sz place i : Nat} (h : 2 ≤ sz) : st < atN st sz place i ∧ atN st sz place i < st + sz := by
  have := Nat.mod_lt (place + i) (show 0 < sz - 1 by omega)
  unfold atN
  omega
theorem rdB_put (S : DevS) (st sz place i : Nat) (bs : List Int) (b : Nat) : rdB (putL S st sz place i bs) b = if atN st sz place i = b then bs else rdB S b := by
  show rdB (wrote (burnt S) (atN st sz place i) bs) b = _
  rw [rdB_wrote, rdB_burnt]
/-- A map's blocks as a transaction. -/
def txM (f : Nat → List Int) (m : List (Nat × Nat)) : TxL := m.map fun p => (p.1, f p.1)
theorem txM_len (f : Nat → List Int) (m : List (Nat × Nat)) : (txM f m).length = m.length := by simp [txM]
theorem txM_lns (f : Nat → List Int) (m : List (Nat × Nat)) : lnsT (txM f m) = lnsOf f m := by simp [lnsT, txM, lnsOf]
theorem rdB_hids {S : DevS} {st sz place : Nat} {seq : Int} {f : Nat → List Int} {m : List (Nat × Nat)} (hl : m.length + 2 ≤ sz - 1) : ∀ i, i ≤ m.length → (∀ j, j ≤ i → ∀ b, (txS seq (txM f m))[j]? = some b → rdB (hidS S st sz place seq f m i) (atN st sz place j) = b) ∧ ∀ b, (∀ j, j ≤ i → atN st sz place j ≠ b) → rdB (hidS S st sz place seq f m i) b = rdB S b
  | 0, _ => by
    refine ⟨fun j hj b hb => ?_, fun b hb => ?_⟩
    · obtain rfl : j = 0 := by omega
      show rdB (putL S st sz place 0 (desB seq (lnsOf f m))) _ = b
      rw [rdB_put, if_pos rfl, ← txM_lns]
      simpa [txS] using hb
    · show rdB (putL S st sz place 0 (desB seq (lnsOf f m))) b = _
      rw [rdB_put, if_neg (hb 0 (Nat.le_refl _))]
  | i + 1, hi => by
    obtain ⟨h1, h2⟩ := rdB_hids (S := S) (st := st) (place := place) (seq := seq) (f := f) hl i (by omega)
    have hg : (m.map (·.1)).getD i 0 = (m[i]'(by omega)).1 := by simp [List.getD, show i < m.length by omega]
    refine ⟨fun j hj b hb => ?_, fun b hb => ?_⟩
    · show rdB (putL (hidS S st sz place seq f m i) st sz place (i + 1) _) _ = b
      rw [rdB_put]
      by_cases e : j = i + 1
      · subst e
        rw [if_pos rfl, hg]
        have := txS_hid seq (txM f m) i (by rw [txM_len]; omega)
        rw [this] at hb
        simp only [txM, List.getElem_map, Option.some.injEq] at hb
        exact hb
      · rw [if_neg (fun q => e (atN_inj (by omega) (by omega) q.symm))]
        exact h1 j (by omega) b hb
    · show rdB (putL (hidS S st sz place seq f m i) st sz place (i + 1) _) b = _
      rw [rdB_put, if_neg (hb (i + 1) (Nat.le_refl _))]
      exact h2 b (fun j hj => hb j (by omega))
/-- What a commit leaves. -/
theorem rdB_coms {S : DevS} {k st sz place : Nat} {seq : Int} {f : Nat → List Int} {m : List (Nat × Nat)} (h : Good S k) (hs : 2 ≤ sz) (hst : st + sz ≤ k) (hm : m.length ≤ 24) (hV : ∀ p ∈ m, (f p.1).length = 512 ∧ ∀ x ∈ f p.1, 0 ≤ x ∧ x ≤ 255) (hl : m.length + 2 ≤ sz - 1) : (∀ j b, (txS seq (txM f m))[j]? = some b → rdB (comS S st sz place seq f m) (atN st sz place j) = b) ∧ (∀ b, (∀ j, j < m.length + 2 → atN st sz place j ≠ b) → rdB (comS S st sz place seq f m) b = rdB S b) ∧ Good (comS S st sz place seq f m) k ∧ (comS S st sz place seq f m).pend = [] := by
  have ghid : ∀ i, i ≤ m.length → Good (hidS S st sz place seq f m i) k := fun i => by
    induction i with
    | zero =>
      intro _
      exact h.burnt.wrote (by have := (atN_in (st := st) (place := place) (i := 0) hs).2; unfold atN at this; omega) (desB_len _ _ (by rw [lnsOf_len]; exact hm)) (desB_by _ _)
    | succ i ih =>
      intro hi
      have hg : (m.map (·.1)).getD i 0 = (m[i]'(by omega)).1 := by simp [List.getD, show i < m.length by omega]
      have hv := hV (m[i]'(by omega)) (List.getElem_mem _)
      refine (ih (by omega)).burnt.wrote (by have := (atN_in (st := st) (place := place) (i := i + 1) hs).2; unfold atN at this; omega) ?_ ?_
      · rw [hg]; exact hidB_len hv.1 _
      · rw [hg]; exact hidB_by hv.2 _
  have g1 := ghid m.length (Nat.le_refl _)
  have g2 : Good (putL (flushed (burnt (hidS S st sz place seq f m m.length))) st sz place (m.length + 1) (comB seq)) k := g1.burnt.flushed.burnt.wrote (by have := (atN_in (st := st) (place := place) (i := m.length + 1) hs).2; unfold atN at this; omega) (comB_len seq) (comB_by seq)
  obtain ⟨h1, h2⟩ := rdB_hids (S := S) (st := st) (place := place) (seq := seq) (f := f) hl m.length (Nat.le_refl _)
  have e : ∀ b, rdB (comS S st sz place seq f m) b = if atN st sz place (m.length + 1) = b then comB seq else rdB (hidS S st sz place seq f m m.length) b := fun b => by
    unfold comS
    rw [rdB_flushed g2.burnt, rdB_burnt, rdB_put, rdB_flushed g1.burnt, rdB_burnt]
  refine ⟨fun j b hb => ?_, fun b hb => ?_, g2.burnt.flushed, rfl⟩
  · rw [e]
    have hj : j < m.length + 2 := by
      have := (List.getElem?_eq_some_iff.1 hb).1
      rwa [txS_len, txM_len] at this
    by_cases q : j = m.length + 1
    · subst q
      rw [if_pos rfl]
      have := txS_com seq (txM f m)
      rw [txM_len, hb] at this
      exact (Option.some.inj this).symm
    · rw [if_neg (fun r => q (atN_inj (by omega) (by omega) r.symm))]
      exact h1 j (by omega) b hb
  · rw [e, if_neg (hb (m.length + 1) (by omega))]
    exact h2 b (fun j hj => hb j (by omega))
/-- What a checkpoint leaves. -/
theorem rdB_home {S : DevS} {fa : Nat → List Int} {a : List (Nat × Nat)} (hr : Rising a) : ∀ i, i ≤ a.length → ∀ b, rdB (homeS S fa a i) b = if b ∈ (a.take i).map (·.1) then fa b else rdB S b
  | 0, _, b => by simp [homeS]
  | i + 1, hi, b => by
    have e : (a.map (·.1)).getD i 0 = (a[i]'(by omega)).1 := by simp [List.getD, show i < a.length by omega]
    show rdB (wrote (burnt (homeS S fa a i)) _ _) b = _
    rw [rdB_wrote, rdB_burnt, rdB_home hr i (by omega) b, e, List.take_succ_eq_append_getElem (show i < a.length by omega), List.map_append]
    by_cases q : (a[i]'(by omega)).1 = b
    · rw [if_pos q, if_pos (by simp [q]), q]
    · rw [if_neg q]
      by_cases r : b ∈ (a.take i).map (·.1)
      · rw [if_pos r, if_pos (List.mem_append_left _ r)]
      · rw [if_neg r, if_neg (fun s => (List.mem_append.1 s).elim r (fun s => q (by simp at s; exact s.symm)))]
theorem Good.home {S : DevS} {k : Nat} {fa : Nat → List Int} {a : List (Nat × Nat)} (h : Good S k) (hk : ∀ p ∈ a, p.1 < k) (hf : ∀ p ∈ a, (fa p.1).length = 512 ∧ ∀ x ∈ fa p.1, 0 ≤ x ∧ x ≤ 255) : ∀ i, i ≤ a.length → Good (homeS S fa a i) k
  | 0, _ => h
  | i + 1, hi => by
    have e : (a.map (·.1)).getD i 0 = (a[i]'(by omega)).1 := by simp [List.getD, show i < a.length by omega]
    have hm := List.getElem_mem (show i < a.length by omega)
    have g := (Good.home h hk hf i (by omega)).burnt.wrote (hk _ hm) (hf _ hm).1 (hf _ hm).2
    rw [← e] at g
    exact g
theorem rdB_ck {S : DevS} {k st : Nat} {seq : Int} {place : Nat} {fa : Nat → List Int} {a : List (Nat × Nat)} (h : Good S k) (hst : st < k) (hr : Rising a) (hk : ∀ p ∈ a, p.1 < k) (hf : ∀ p ∈ a, (fa p.1).length = 512 ∧ ∀ x ∈ fa p.1, 0 ≤ x ∧ x ≤ 255) : (∀ b, rdB (ckS S fa a st seq place) b = if st = b then jheadB seq place else if b ∈ a.map (·.1) then fa b else rdB S b) ∧ Good (ckS S fa a st seq place) k ∧ (ckS S fa a st seq place).pend = [] := by
  have g1 := h.home hk hf a.length (Nat.le_refl _)
  have g2 : Good (wrote (burnt (flushed (burnt (homeS S fa a a.length)))) st (jheadB seq place)) k := g1.burnt.flushed.burnt.wrote hst (jheadB_len seq place) (jheadB_by seq place)
  refine ⟨fun b => ?_, g2.burnt.flushed, rfl⟩
  unfold ckS
  rw [rdB_flushed g2.burnt, rdB_burnt, rdB_wrote, rdB_burnt, rdB_flushed g1.burnt, rdB_burnt, rdB_home hr a.length (Nat.le_refl _) b, List.take_of_length_le (Nat.le_refl _)]
/-- A device with a journal: its head, the transactions in its log, and nothing behind them that looks committed. -/
structure Lg (S : DevS) (k st sz seq place : Nat) (free : Int) (T : List TxL) (seq0 place0 : Nat) : Prop where
  good : Good S k
  calm : S.pend = []
  s1 : 27 ≤ sz
  s2 : st + sz ≤ k
  head : rdB S st = jheadB seq0 place0
  q0 : 1 ≤ seq0
  q1 : seq = seq0 + T.length
  p0 : place0 < sz - 1
  p1 : place = plEnd sz place0 T
  fr : ((strm seq0 T).length : Int) + free = (sz : Int) - 1
  f0 : 0 ≤ free
  ok : ∀ x ∈ T, TxOk k st sz x
  str : ∀ o b, (strm seq0 T)[o]? = some b → rdB S (atN st sz place0 o) = b
  noc : NoCom S st sz seq
theorem plEnd_at (st sz : Nat) : ∀ (T : List TxL) (seq : Int) (place o : Nat), atN st sz (plEnd sz place T) o = atN st sz place ((strm seq T).length + o)
  | [], seq, place, o => by simp [plEnd, strm]
  | x :: T, seq, place, o => by
    have h := plEnd_at st sz T (seq + 1) ((place + x.length + 2) % (sz - 1)) o
    show atN st sz (plEnd sz ((place + x.length + 2) % (sz - 1)) T) o = _
    rw [h, atN_next]
    show _ = atN st sz place ((txS seq x ++ strm (seq + 1) T).length + o)
    rw [List.length_append, txS_len]
    congr 1
    omega
theorem plEnd_lt {sz place : Nat} (T : List TxL) (hp : place < sz - 1) : plEnd sz place T < sz - 1 := by
  induction T using snoc_ind with
  | h0 => exact hp
  | h1 T x _ => rw [plEnd_snoc]; exact Nat.mod_lt _ (by omega)
/-- Behind a commit. -/
theorem Lg.commit {S : DevS} {k st sz seq place : Nat} {free : Int} {T : List TxL} {seq0 place0 : Nat} (h : Lg S k st sz seq place free T seq0 place0) {f : Nat → List Int} {m : List (Nat × Nat)} (hx : TxOk k st sz (txM f m)) (hf : (m.length : Int) + 2 ≤ free) (hs : seq ≤ 4611686018427387904) : Lg (comS S st sz place seq f m) k st sz (seq + 1) ((place + m.length + 2) % (sz - 1)) (free - (m.length + 2)) (T ++ [txM f m]) seq0 place0 := by
  have h1 := h.s1
  have hq := h.q1
  have hfr := h.fr
  have hm24 := hx.few
  rw [txM_len] at hm24
  have hV : ∀ p ∈ m, (f p.1).length = 512 ∧ ∀ x ∈ f p.1, 0 ≤ x ∧ x ≤ 255 := fun p hp => hx.byt (p.1, f p.1) (List.mem_map.2 ⟨p, hp, rfl⟩)
  obtain ⟨c1, c2, c3, c4⟩ := rdB_coms (place := place) (seq := (seq : Int)) (f := f) (m := m) h.good (by omega) h.s2 hm24 hV (by omega)
  have hat : ∀ o, atN st sz place o = atN st sz place0 ((strm seq0 T).length + o) := fun o => by rw [h.p1]; exact plEnd_at st sz T seq0 place0 o
  have hlenS : strm (seq0 : Int) (T ++ [txM f m]) = strm seq0 T ++ txS seq (txM f m) := by
    rw [strm_snoc]
    congr 2
    omega
  refine ⟨c3, c4, h1, h.s2, ?_, h.q0, by simp; omega, h.p0, by rw [plEnd_snoc, txM_len, ← h.p1], ?_, by omega, fun x hx' => ?_, fun o b hb => ?_, fun p hp1 hp2 s hs' => ?_⟩
  · rw [c2 st (fun j _ e => by have := (atN_in (st := st) (place := place) (i := j) (show 2 ≤ sz by omega)).1; omega)]
    exact h.head
  · rw [hlenS, List.length_append, txS_len, txM_len]
    omega
  · rcases List.mem_append.1 hx' with q | q
    · exact h.ok x q
    · rw [List.mem_singleton.1 q]; exact hx
  · rw [hlenS] at hb
    by_cases q : o < (strm (seq0 : Int) T).length
    · rw [List.getElem?_append_left q] at hb
      rw [c2 _ (fun j hj e => ?_)]
      · exact h.str o b hb
      · rw [hat] at e
        have := atN_inj (by omega) (by omega) e
        omega
    · rw [List.getElem?_append_right (by omega)] at hb
      have := c1 _ b hb
      rw [hat] at this
      rw [show (strm (seq0 : Int) T).length + (o - (strm (seq0 : Int) T).length) = o by omega] at this
      exact this
  · by_cases q : ∃ j, j < m.length + 2 ∧ atN st sz place j = p
    · obtain ⟨j, hj, rfl⟩ := q
      obtain ⟨b, hb⟩ : ∃ b, (txS (seq : Int) (txM f m))[j]? = some b := ⟨_, List.getElem?_eq_getElem (by rw [txS_len, txM_len]; exact hj)⟩
      rw [c1 j b hb]
      have hm : b ∈ txS (seq : Int) (txM f m) := List.mem_of_getElem? hb
      unfold txS at hm
      rcases List.mem_cons.1 hm with rfl | hm
      · exact des_no _ _ _
      · rcases List.mem_append.1 hm with hm | hm
        · obtain ⟨r, _, rfl⟩ := List.mem_map.1 hm
          exact hid_no _ _
        · rw [List.mem_singleton.1 hm, com_back (seq : Int) s ⟨by omega, by omega⟩]
          simp
          omega
    · rw [c2 p (fun j hj e => q ⟨j, hj, e⟩)]
      exact h.noc p hp1 hp2 s (by omega)
/-- Behind a checkpoint. -/
theorem Lg.ck {S : DevS} {k st sz seq place : Nat} {free : Int} {T : List TxL} {seq0 place0 : Nat} (h : Lg S k st sz seq place free T seq0 place0) {fa : Nat → List Int} {a : List (Nat × Nat)} (hr : Rising a) (ho : OutA k st sz a) (hf : ∀ p ∈ a, (fa p.1).length = 512 ∧ ∀ x ∈ fa p.1, 0 ≤ x ∧ x ≤ 255) : Lg (ckS S fa a st seq place) k st sz seq place ((sz : Int) - 1) [] seq place := by
  have h1 := h.s1
  obtain ⟨c1, c2, c3⟩ := rdB_ck (seq := (seq : Int)) (place := place) h.good (show st < k by have := h.s2; omega) hr (fun p hp => (ho p hp).1) hf
  have hq := h.q0
  have hq1 := h.q1
  refine ⟨c2, c3, h1, h.s2, by rw [c1, if_pos rfl], by omega, by simp, by rw [h.p1]; exact plEnd_lt T h.p0, rfl, by simp [strm], by omega, (fun x hx => by cases hx), (fun o b hb => by simp [strm] at hb), fun p hp1 hp2 s hs => ?_⟩
  rw [c1, if_neg (by omega), if_neg (fun q => ?_)]
  · exact h.noc p hp1 hp2 s hs
  · obtain ⟨r, hr', hre⟩ := List.mem_map.1 q
    have := (ho r hr').2
    omega
/-- Nothing but the fuse or the power has changed. -/
theorem Lg.like {S S' : DevS} {k st sz seq place : Nat} {free : Int} {T : List TxL} {seq0 place0 : Nat} (h : Lg S k st sz seq place free T seq0 place0) (hl : S'.last = S.last) (hp : S'.pend = []) (hf : S'.fuse ≤ 9223372036854775807) : Lg S' k st sz seq place free T seq0 place0 := by
  have e : ∀ b, rdB S' b = rdB S b := fun b => by unfold rdB; rw [hl, hp, h.calm]
  have g := h.good
  exact { h with
    good := ⟨by rw [hl]; exact g.len, g.pos, g.top, by rw [hl]; exact g.by_, (fun p hp' => by rw [hp] at hp'; cases hp'), hf⟩
    calm := hp
    head := by rw [e]; exact h.head
    str := fun o b hb => by rw [e]; exact h.str o b hb
    noc := fun p h1 h2 s hs => by rw [e]; exact h.noc p h1 h2 s hs }
/-- It opens. -/
theorem Lg.log {S : DevS} {k st sz seq place : Nat} {free : Int} {T : List TxL} {seq0 place0 : Nat} (h : Lg S k st sz seq place free T seq0 place0) (hs : seq ≤ 4611686018427387904) : LogT S k st sz seq0 place0 ((sz : Int) - 1) T := by
  have h1 := h.s1
  have hfr := h.fr
  have hf0 := h.f0
  have hq := h.q1
  exact log_of h.good.top (by omega) T seq0 place0 _ h.ok (by omega) (by omega) (by omega) h.str (by rw [show (seq0 : Int) + (T.length : Int) = (seq : Int) by omega]; exact h.noc)
/-- A journal that was just formatted. -/
theorem Lg.fmt {S : DevS} {k st sz : Nat} (h : Good S k) (h1 : 27 ≤ sz) (h2 : st + sz ≤ k) : Lg (fmtS S st sz) k st sz 1 0 ((sz : Int) - 1) [] 1 0 := by
  have e := rdB_fmt h (show 1 ≤ sz by omega) h2
  refine ⟨h.fmt (by omega) h2, rfl, h1, h2, by rw [e, if_pos rfl]; rfl, Nat.le_refl _, rfl, by omega, rfl, by simp [strm], by omega, (fun x hx => by cases hx), (fun o b hb => by simp [strm] at hb), fun p hp1 hp2 s hs => ?_⟩
  rw [e, if_neg (by omega), if_pos (by omega)]
  exact zB_no s
end Go.Proofs.YtnmdnglbpkpfdaaGreatDoor
