/- Plain mathematics: transactions laid into a log one behind the other are taken up. -/
import Derived.Test.YtlcjkbhcbiggcaaGreatDoorPk18
import Derived.Test.YtlcjkbhcbiggcaaGreatDoorPk17
import Derived.Test.YtlcjkbhcbiggcaaGreatDoorPk09
namespace Go.Proofs.YtlcjkbhcbiggcaaGreatDoor
open Go.RowKit Go.Maps
set_option maxRecDepth 100000

/-- The lines of a transaction. -/
def lnsT (x : TxL) : List (Nat × Nat) := x.map fun p => (p.1, flagN p.2)
theorem lnsT_len (x : TxL) : (lnsT x).length = x.length := by simp [lnsT]
theorem lnsT_getD (x : TxL) (i : Nat) (h : i < x.length) : (lnsT x).getD i (0, 0) = (x[i].1, flagN x[i].2) := by simp [lnsT, List.getD, h]
/-- How a transaction stands in the log. -/
def txS (seq : Int) (x : TxL) : List (List Int) := desB seq (lnsT x) :: (x.map (fun p => hidB p.2 (flagN p.2)) ++ [comB seq])
theorem txS_len (seq : Int) (x : TxL) : (txS seq x).length = x.length + 2 := by simp [txS]
theorem txS_hid (seq : Int) (x : TxL) (i : Nat) (h : i < x.length) : (txS seq x)[i + 1]? = some (hidB x[i].2 (flagN x[i].2)) := by
  simp [txS, List.getElem?_append_left, h]
theorem txS_com (seq : Int) (x : TxL) : (txS seq x)[x.length + 1]? = some (comB seq) := by
  simp [txS]
/-- How transactions stand in the log. -/
def strm (seq : Int) : List TxL → List (List Int)
  | [] => []
  | x :: T => txS seq x ++ strm (seq + 1) T
theorem strm_snoc (T : List TxL) (x : TxL) : ∀ seq : Int, strm seq (T ++ [x]) = strm seq T ++ txS (seq + T.length) x := by
  induction T with
  | nil => intro seq; simp [strm]
  | cons y T ih =>
    intro seq
    show txS seq y ++ strm (seq + 1) (T ++ [x]) = txS seq y ++ strm (seq + 1) T ++ txS (seq + ((y :: T).length : Nat)) x
    rw [ih (seq + 1), show seq + 1 + (T.length : Int) = seq + ((y :: T).length : Nat) by simp; omega]
    simp
/-- A transaction that may be. -/
structure TxOk (k st sz : Nat) (x : TxL) : Prop where
  ne : 0 < x.length
  few : x.length ≤ 24
  ris : x.Pairwise (fun p q => p.1 < q.1)
  out : ∀ p ∈ x, p.1 < k ∧ (p.1 < st ∨ st + sz ≤ p.1)
  byt : ∀ p ∈ x, p.2.length = 512 ∧ ∀ b ∈ p.2, 0 ≤ b ∧ b ≤ 255
theorem TxOk.may {k st sz : Nat} {x : TxL} (h : TxOk k st sz x) : mayB k st sz (lnsT x) = true := by
  unfold mayB
  rw [List.all_eq_true]
  intro t ht
  rw [List.mem_range, lnsT_len] at ht
  unfold mayT
  have ho := h.out x[t] (List.getElem_mem ht)
  rw [lnsT_getD x t ht]
  have e1 : outB k st sz ((x[t].1 : Nat) : Int) = true := by
    unfold outB
    simp
    omega
  rw [e1, Bool.true_and]
  by_cases e0 : t = 0
  · simp [e0]
  · rw [lnsT_getD x (t - 1) (by omega)]
    have := List.pairwise_iff_getElem.1 h.ris (t - 1) t (by omega) ht (by omega)
    simp [e0, this]
theorem atN_next (st sz place n o : Nat) : atN st sz ((place + n + 2) % (sz - 1)) o = atN st sz place (n + 2 + o) := by
  unfold atN
  rw [Nat.mod_add_mod]
  congr 2
  omega
/-- The transaction at a place is taken up. -/
theorem next_of {S : DevS} {k st sz : Nat} {seq : Int} {place : Nat} {free : Int} {x : TxL} (hx : TxOk k st sz x) (hk : k ≤ 4096) (hs : 0 ≤ seq ∧ seq ≤ 4611686018427387905) (hf : (x.length : Int) + 2 ≤ free) (hstr : ∀ o b, (txS seq x)[o]? = some b → rdB S (atN st sz place o) = b) : nextL S k st sz seq place free = lnsT x ∧ txOf S st sz place (lnsT x) = x := by
  have h0 : rdB S (atN st sz place 0) = desB seq (lnsT x) := hstr 0 _ rfl
  have hl : linesR (rdB S (atN st sz place 0)) seq = lnsT x := by
    rw [h0]
    refine lines_back seq _ hs (by rw [lnsT_len]; exact hx.few) (fun p hp => ?_)
    obtain ⟨r, hr, rfl⟩ := List.mem_map.1 hp
    have := (hx.out r hr).1
    exact ⟨by simp only; omega, flagN_le _⟩
  have hi : ∀ i (h : i < x.length), rdB S (atN st sz place (i + 1)) = hidB x[i].2 (flagN x[i].2) := fun i h => hstr (i + 1) _ (txS_hid seq x i h)
  have hne : lnsT x ≠ [] := fun e => by
    have h2 : x.length = 0 := by rw [← lnsT_len, e]; rfl
    have := hx.ne
    omega
  refine ⟨?_, ?_⟩
  · unfold nextL
    simp only [hl]
    rw [if_pos]
    refine ⟨hne, by rw [lnsT_len]; exact hf, hx.may, ?_, ?_⟩
    · rw [lnsT_len, hstr _ _ (txS_com seq x), com_back seq seq hs]
      simp
    · unfold nxOk
      rw [List.all_eq_true]
      intro i hi'
      rw [List.mem_range, lnsT_len] at hi'
      rw [hi i hi', lnsT_getD x i hi']
      exact (show_back _).2
  · unfold txOf
    refine List.ext_getElem (by simp [lnsT_len]) (fun i h1 h2 => ?_)
    rw [List.getElem_map, List.getElem_range, lnsT_getD x i h2]
    unfold nxB
    rw [hi i h2, lnsT_getD x i h2, (show_back _).1]
/-- No commit of that number or a later one stands in the log. -/
def NoCom (S : DevS) (st sz : Nat) (seq : Int) : Prop := ∀ p, st < p → p < st + sz → ∀ s, seq ≤ s → isCom (rdB S p) s = false
theorem next_no {S : DevS} {k st sz : Nat} {seq : Int} {place : Nat} {free : Int} (h : NoCom S st sz seq) (h1 : 2 ≤ sz) : nextL S k st sz seq place free = [] := by
  unfold nextL
  simp only
  rw [if_neg]
  rintro ⟨_, _, _, hc, _⟩
  generalize (linesR (rdB S (atN st sz place 0)) seq).length + 1 = L at hc
  have hm := Nat.mod_lt (place + L) (show 0 < sz - 1 by omega)
  rw [h _ (by unfold atN; omega) (by unfold atN; omega) seq (Int.le_refl _)] at hc
  cases hc
theorem log_of {S : DevS} {k st sz : Nat} (hk : k ≤ 4096) (h1 : 2 ≤ sz) : ∀ (T : List TxL) (seq : Int) (place : Nat) (free : Int), (∀ x ∈ T, TxOk k st sz x) → 0 ≤ seq → seq + T.length ≤ 4611686018427387905 → ((strm seq T).length : Int) ≤ free → (∀ o b, (strm seq T)[o]? = some b → rdB S (atN st sz place o) = b) → NoCom S st sz (seq + T.length) → LogT S k st sz seq place free T
  | [], seq, place, free, _, _, _, _, _, hn => LogT.nil (next_no (by simpa using hn) h1)
  | x :: T, seq, place, free, hok, hs0, hs1, hf, hstr, hn => by
    have hlen : (strm seq (x :: T)).length = x.length + 2 + (strm (seq + 1) T).length := by
      show (txS seq x ++ strm (seq + 1) T).length = _
      rw [List.length_append, txS_len]
    simp only [List.length_cons] at hs1 hn
    obtain ⟨e1, e2⟩ := next_of (S := S) (place := place) (free := free) (seq := seq) (hok x List.mem_cons_self) hk ⟨hs0, by omega⟩ (by omega) (fun o b hb => hstr o b (by
      show (txS seq x ++ strm (seq + 1) T)[o]? = some b
      rw [List.getElem?_append_left (List.getElem?_eq_some_iff.1 hb).1]
      exact hb))
    have hne : lnsT x ≠ [] := fun e => by
      have h2 : x.length = 0 := by rw [← lnsT_len, e]; rfl
      have := (hok x List.mem_cons_self).ne
      omega
    have hrest := log_of hk h1 T (seq + 1) ((place + x.length + 2) % (sz - 1)) (free - (x.length + 2)) (fun y hy => hok y (List.mem_cons_of_mem _ hy)) (by omega) (by omega) (by omega) (fun o b hb => by
      rw [atN_next]
      refine hstr (x.length + 2 + o) b ?_
      show (txS seq x ++ strm (seq + 1) T)[x.length + 2 + o]? = some b
      rw [List.getElem?_append_right (by rw [txS_len]; omega), txS_len, show x.length + 2 + o - (x.length + 2) = o by omega]
      exact hb) (by rw [show seq + 1 + (T.length : Int) = seq + ((T.length + 1 : Nat) : Int) by omega]; exact hn)
    have := LogT.cons (S := S) (k := k) (st := st) (sz := sz) (T := T) e1 hne (by rw [lnsT_len]; exact hrest)
    rw [e2] at this
    exact this
end Go.Proofs.YtlcjkbhcbiggcaaGreatDoor

/- Plain mathematics: what a device with a journal holds; commits and checkpoints keep it. -/
namespace Go.Proofs.YtlcjkbhcbiggcaaGreatDoor
open Go.RowKit Go.Maps
set_option maxRecDepth 100000

theorem atN_inj {st sz place i j : Nat} (hi : i < sz - 1) (hj : j < sz - 1) (h : atN st sz place i = atN st sz place j) : i = j := by
  unfold atN at h
  have e : (place + i) % (sz - 1) = (place + j) % (sz - 1) := by omega
  rcases Nat.le_total i j with q | q
  · have h1 := Nat.sub_mod_eq_zero_of_mod_eq e.symm
    rw [show place + j - (place + i) = j - i by omega, Nat.mod_eq_of_lt (by omega)] at h1
    omega
  · have h1 := Nat.sub_mod_eq_zero_of_mod_eq e
    rw [show place + i - (place + j) = i - j by omega, Nat.mod_eq_of_lt (by omega)] at h1
    omega
theorem atN_in {st sz place i : Nat} (h : 2 ≤ sz) : st < atN st sz place i ∧ atN st sz place i < st + sz := by
  have := Nat.mod_lt (place + i) (show 0 < sz - 1 by omega)
  unfold atN
  omega
theorem rdB_put (S : DevS) (st sz place i : Nat) (bs : List Int) (b : Nat) : rdB (putL S st sz place i bs) b = if atN st sz place i = b then bs else rdB S b := by
  show rdB (wrote (burnt S) (atN st sz place i) bs) b = _
  rw [rdB_wrote, rdB_burnt]
/-- A map's blocks as a transaction. -/
def txM (f : Nat → List Int) (m : List (Nat × Nat)) : TxL := m.map fun p => (p.1, f p.1)
theorem txM_len (f : Nat → List Int) (m : List (Nat × Nat)) : (txM f m).length = m.length := by simp [txM]
theorem txM_lns (f : Nat → List Int) (m : List (Nat × Nat)) : lnsT (txM f m) = lnsOf f m := by simp [lnsT, txM, lnsOf]
theorem rdB_hids {S : DevS} {st sz place : Nat} {seq : Int} {f : Nat → List Int} {m : List (Nat × Nat)} (hl : m.length + 2 ≤ sz - 1) : ∀ i, i ≤ m.length → (∀ j, j ≤ i → ∀ b, (txS seq (txM f m))[j]? = some b → rdB (hidS S st sz place seq f m i) (atN st sz place j) = b) ∧ ∀ b, (∀ j, j ≤ i → atN st sz place j ≠ b) → rdB (hidS S st sz place seq f m i) b = rdB S b
  | 0, _ => by
    refine ⟨fun j hj b hb => ?_, fun b hb => ?_⟩
    · obtain rfl : j = 0 := by omega
      show rdB (putL S st sz place 0 (desB seq (lnsOf f m))) _ = b
      rw [rdB_put, if_pos rfl, ← txM_lns]
      simpa [txS] using hb
    · show rdB (putL S st sz place 0 (desB seq (lnsOf f m))) b = _
      rw [rdB_put, if_neg (hb 0 (Nat.le_refl _))]
  | i + 1, hi => by
    obtain ⟨h1, h2⟩ := rdB_hids (S := S) (st := st) (place := place) (seq := seq) (f := f) hl i (by omega)
    have hg : (m.map (·.1)).getD i 0 = (m[i]'(by omega)).1 := by simp [List.getD, show i < m.length by omega]
    refine ⟨fun j hj b hb => ?_, fun b hb => ?_⟩
    · show rdB (putL (hidS S st sz place seq f m i) st sz place (i + 1) _) _ = b
      rw [rdB_put]
      by_cases e : j = i + 1
      · subst e
        rw [if_pos rfl, hg]
        have := txS_hid seq (txM f m) i (by rw [txM_len]; omega)
        rw [this] at hb
        simp only [txM, List.getElem_map, Option.some.injEq] at hb
        exact hb
      · rw [if_neg (fun q => e (atN_inj (by omega) (by omega) q.symm))]
        exact h1 j (by omega) b hb
    · show rdB (putL (hidS S st sz place seq f m i) st sz place (i + 1) _) b = _
      rw [rdB_put, if_neg (hb (i + 1) (Nat.le_refl _))]
      exact h2 b (fun j hj => hb j (by omega))
/-- What a commit leaves. -/
theorem rdB_coms {S : DevS} {k st sz place : Nat} {seq : Int} {f : Nat → List Int} {m : List (Nat × Nat)} (h : Good S k) (hs : 2 ≤ sz) (hst : st + sz ≤ k) (hm : m.length ≤ 24) (hV : ∀ p ∈ m, (f p.1).length = 512 ∧ ∀ x ∈ f p.1, 0 ≤ x ∧ x ≤ 255) (hl : m.length + 2 ≤ sz - 1) : (∀ j b, (txS seq (txM f m))[j]? = some b → rdB (comS S st sz place seq f m) (atN st sz place j) = b) ∧ (∀ b, (∀ j, j < m.length + 2 → atN st sz place j ≠ b) → rdB (comS S st sz place seq f m) b = rdB S b) ∧ Good (comS S st sz place seq f m) k ∧ (comS S st sz place seq f m).pend = [] := by
  have ghid : ∀ i, i ≤ m.length → Good (hidS S st sz place seq f m i) k := fun i => by
    induction i with
    | zero =>
      intro _
      exact h.burnt.wrote (by have := (atN_in (st := st) (place := place) (i := 0) hs).2; unfold atN at this; omega) (desB_len _ _ (by rw [lnsOf_len]; exact hm)) (desB_by _ _)
    | succ i ih =>
      intro hi
      have hg : (m.map (·.1)).getD i 0 = (m[i]'(by omega)).1 := by simp [List.getD, show i < m.length by omega]
      have hv := hV (m[i]'(by omega)) (List.getElem_mem _)
      refine (ih (by omega)).burnt.wrote (by have := (atN_in (st := st) (place := place) (i := i + 1) hs).2; unfold atN at this; omega) ?_ ?_
      · rw [hg]; exact hidB_len hv.1 _
      · rw [hg]; exact hidB_by hv.2 _
  have g1 := ghid m.length (Nat.le_refl _)
  have g2 : Good (putL (flushed (burnt (hidS S st sz place seq f m m.length))) st sz place (m.length + 1) (comB seq)) k := g1.burnt.flushed.burnt.wrote (by have := (atN_in (st := st) (place := place) (i := m.length + 1) hs).2; unfold atN at this; omega) (comB_len seq) (comB_by seq)
  obtain ⟨h1, h2⟩ := rdB_hids (S := S) (st := st) (place := place) (seq := seq) (f := f) hl m.length (Nat.le_refl _)
  have e : ∀ b, rdB (comS S st sz place seq f m) b = if atN st sz place (m.length + 1) = b then comB seq else rdB (hidS S st sz place seq f m m.length) b := fun b => by
    unfold comS
    rw [rdB_flushed g2.burnt, rdB_burnt, rdB_put, rdB_flushed g1.burnt, rdB_burnt]
  refine ⟨fun j b hb => ?_, fun b hb => ?_, g2.burnt.flushed, rfl⟩
  · rw [e]
    have hj : j < m.length + 2 := by
      have := (List.getElem?_eq_some_iff.1 hb).1
      rwa [txS_len, txM_len] at this
    by_cases q : j = m.length + 1
    · subst q
      rw [if_pos rfl]
      have := txS_com seq (txM f m)
      rw [txM_len, hb] at this
      exact (Option.some.inj this).symm
    · rw [if_neg (fun r => q (atN_inj (by omega) (by omega) r.symm))]
      exact h1 j (by omega) b hb
  · rw [e, if_neg (hb (m.length + 1) (by omega))]
    exact h2 b (fun j hj => hb j (by omega))
/-- What a checkpoint leaves. -/
theorem rdB_home {S : DevS} {fa : Nat → List Int} {a : List (Nat × Nat)} (hr : Rising a) : ∀ i, i ≤ a.length → ∀ b, rdB (homeS S fa a i) b = if b ∈ (a.take i).map (·.1) then fa b else rdB S b
  | 0, _, b => by simp [homeS]
  | i + 1, hi, b => by
    have e : (a.map (·.1)).getD i 0 = (a[i]'(by omega)).1 := by simp [List.getD, show i < a.length by omega]
    show rdB (wrote (burnt (homeS S fa a i)) _ _) b = _
    rw [rdB_wrote, rdB_burnt, rdB_home hr i (by omega) b, e, List.take_succ_eq_append_getElem (show i < a.length by omega), List.map_append]
    by_cases q : (a[i]'(by omega)).1 = b
    · rw [if_pos q, if_pos (by simp [q]), q]
    · rw [if_neg q]
      by_cases r : b ∈ (a.take i).map (·.1)
      · rw [if_pos r, if_pos (List.mem_append_left _ r)]
      · rw [if_neg r, if_neg (fun s => (List.mem_append.1 s).elim r (fun s => q (by simp at s; exact s.symm)))]
theorem Good.home {S : DevS} {k : Nat} {fa : Nat → List Int} {a : List (Nat × Nat)} (h : Good S k) (hk : ∀ p ∈ a, p.1 < k) (hf : ∀ p ∈ a, (fa p.1).length = 512 ∧ ∀ x ∈ fa p.1, 0 ≤ x ∧ x ≤ 255) : ∀ i, i ≤ a.length → Good (homeS S fa a i) k
  | 0, _ => h
  | i + 1, hi => by
    have e : (a.map (·.1)).getD i 0 = (a[i]'(by omega)).1 := by simp [List.getD, show i < a.length by omega]
    have hm := List.getElem_mem (show i < a.length by omega)
    have g := (Good.home h hk hf i (by omega)).burnt.wrote (hk _ hm) (hf _ hm).1 (hf _ hm).2
    rw [← e] at g
    exact g
theorem rdB_ck {S : DevS} {k st : Nat} {seq : Int} {place : Nat} {fa : Nat → List Int} {a : List (Nat × Nat)} (h : Good S k) (hst : st < k) (hr : Rising a) (hk : ∀ p ∈ a, p.1 < k) (hf : ∀ p ∈ a, (fa p.1).length = 512 ∧ ∀ x ∈ fa p.1, 0 ≤ x ∧ x ≤ 255) : (∀ b, rdB (ckS S fa a st seq place) b = if st = b then jheadB seq place else if b ∈ a.map (·.1) then fa b else rdB S b) ∧ Good (ckS S fa a st seq place) k ∧ (ckS S fa a st seq place).pend = [] := by
  have g1 := h.home hk hf a.length (Nat.le_refl _)
  have g2 : Good (wrote (burnt (flushed (burnt (homeS S fa a a.length)))) st (jheadB seq place)) k := g1.burnt.flushed.burnt.wrote hst (jheadB_len seq place) (jheadB_by seq place)
  refine ⟨fun b => ?_, g2.burnt.flushed, rfl⟩
  unfold ckS
  rw [rdB_flushed g2.burnt, rdB_burnt, rdB_wrote, rdB_burnt, rdB_flushed g1.burnt, rdB_burnt, rdB_home hr a.length (Nat.le_refl _) b, List.take_of_length_le (Nat.le_refl _)]
/-- A device with a journal: its head, the transactions in its log, and nothing behind them that looks committed. -/
structure Lg (S : DevS) (k st sz seq place : Nat) (free : Int) (T : List TxL) (seq0 place0 : Nat) : Prop where
  good : Good S k
  calm : S.pend = []
  s1 : 27 ≤ sz
  s2 : st + sz ≤ k
  head : rdB S st = jheadB seq0 place0
  q0 : 1 ≤ seq0
  q1 : seq = seq0 + T.length
  p0 : place0 < sz - 1
  p1 : place = plEnd sz place0 T
  fr : ((strm seq0 T).length : Int) + free = (sz : Int) - 1
  f0 : 0 ≤ free
  ok : ∀ x ∈ T, TxOk k st sz x
  str : ∀ o b, (strm seq0 T)[o]? = some b → rdB S (atN st sz place0 o) = b
  noc : NoCom S st sz seq
theorem plEnd_at (st sz : Nat) : ∀ (T : List TxL) (seq : Int) (place o : Nat), atN st sz (plEnd sz place T) o = atN st sz place ((strm seq T).length + o)
  | [], seq, place, o => by simp [plEnd, strm]
  | x :: T, seq, place, o => by
    have h := plEnd_at st sz T (seq + 1) ((place + x.length + 2) % (sz - 1)) o
    show atN st sz (plEnd sz ((place + x.length + 2) % (sz - 1)) T) o = _
    rw [h, atN_next]
    show _ = atN st sz place ((txS seq x ++ strm (seq + 1) T).length + o)
    rw [List.length_append, txS_len]
    congr 1
    omega
theorem plEnd_lt {sz place : Nat} (T : List TxL) (hp : place < sz - 1) : plEnd sz place T < sz - 1 := by
  induction T using snoc_ind with
  | h0 => exact hp
  | h1 T x _ => rw [plEnd_snoc]; exact Nat.mod_lt _ (by omega)
/-- Behind a commit. -/
theorem Lg.commit {S : DevS} {k st sz seq place : Nat} {free : Int} {T : List TxL} {seq0 place0 : Nat} (h : Lg S k st sz seq place free T seq0 place0) {f : Nat → List Int} {m : List (Nat × Nat)} (hx : TxOk k st sz (txM f m)) (hf : (m.length : Int) + 2 ≤ free) (hs : seq ≤ 4611686018427387904) : Lg (comS S st sz place seq f m) k st sz (seq + 1) ((place + m.length + 2) % (sz - 1)) (free - (m.length + 2)) (T ++ [txM f m]) seq0 place0 := by
  have h1 := h.s1
  have hq := h.q1
  have hfr := h.fr
  have hm24 := hx.few
  rw [txM_len] at hm24
  have hV : ∀ p ∈ m, (f p.1).length = 512 ∧ ∀ x ∈ f p.1, 0 ≤ x ∧ x ≤ 255 := fun p hp => hx.byt (p.1, f p.1) (List.mem_map.2 ⟨p, hp, rfl⟩)
  obtain ⟨c1, c2, c3, c4⟩ := rdB_coms (place := place) (seq := (seq : Int)) (f := f) (m := m) h.good (by omega) h.s2 hm24 hV (by omega)
  have hat : ∀ o, atN st sz place o = atN st sz place0 ((strm seq0 T).length + o) := fun o => by rw [h.p1]; exact plEnd_at st sz T seq0 place0 o
  have hlenS : strm (seq0 : Int) (T ++ [txM f m]) = strm seq0 T ++ txS seq (txM f m) := by
    rw [strm_snoc]
    congr 2
    omega
  refine ⟨c3, c4, h1, h.s2, ?_, h.q0, by simp; omega, h.p0, by rw [plEnd_snoc, txM_len, ← h.p1], ?_, by omega, fun x hx' => ?_, fun o b hb => ?_, fun p hp1 hp2 s hs' => ?_⟩
  · rw [c2 st (fun j _ e => by have := (atN_in (st := st) (place := place) (i := j) (show 2 ≤ sz by omega)).1; omega)]
    exact h.head
  · rw [hlenS, List.length_append, txS_len, txM_len]
    omega
  · rcases List.mem_append.1 hx' with q | q
    · exact h.ok x q
    · rw [List.mem_singleton.1 q]; exact hx
  · rw [hlenS] at hb
    by_cases q : o < (strm (seq0 : Int) T).length
    · rw [List.getElem?_append_left q] at hb
      rw [c2 _ (fun j hj e => ?_)]
      · exact h.str o b hb
      · rw [hat] at e
        have := atN_inj (by omega) (by omega) e
        omega
    · rw [List.getElem?_append_right (by omega)] at hb
      have := c1 _ b hb
      rw [hat] at this
      rw [show (strm (seq0 : Int) T).length + (o - (strm (seq0 : Int) T).length) = o by omega] at this
      exact this
  · by_cases q : ∃ j, j < m.length + 2 ∧ atN st sz place j = p
    · obtain ⟨j, hj, rfl⟩ := q
      obtain ⟨b, hb⟩ : ∃ b, (txS (seq : Int) (txM f m))[j]? = some b := ⟨_, List.getElem?_eq_getElem (by rw [txS_len, txM_len]; exact hj)⟩
      rw [c1 j b hb]
      have hm : b ∈ txS (seq : Int) (txM f m) := List.mem_of_getElem? hb
      unfold txS at hm
      rcases List.mem_cons.1 hm with rfl | hm
      · exact des_no _ _ _
      · rcases List.mem_append.1 hm with hm | hm
        · obtain ⟨r, _, rfl⟩ := List.mem_map.1 hm
          exact hid_no _ _
        · rw [List.mem_singleton.1 hm, com_back (seq : Int) s ⟨by omega, by omega⟩]
          simp
          omega
    · rw [c2 p (fun j hj e => q ⟨j, hj, e⟩)]
      exact h.noc p hp1 hp2 s (by omega)
/-- Behind a checkpoint. -/
theorem Lg.ck {S : DevS} {k st sz seq place : Nat} {free : Int} {T : List TxL} {seq0 place0 : Nat} (h : Lg S k st sz seq place free T seq0 place0) {fa : Nat → List Int} {a : List (Nat × Nat)} (hr : Rising a) (ho : OutA k st sz a) (hf : ∀ p ∈ a, (fa p.1).length = 512 ∧ ∀ x ∈ fa p.1, 0 ≤ x ∧ x ≤ 255) : Lg (ckS S fa a st seq place) k st sz seq place ((sz : Int) - 1) [] seq place := by
  have h1 := h.s1
  obtain ⟨c1, c2, c3⟩ := rdB_ck (seq := (seq : Int)) (place := place) h.good (show st < k by have := h.s2; omega) hr (fun p hp => (ho p hp).1) hf
  have hq := h.q0
  have hq1 := h.q1
  refine ⟨c2, c3, h1, h.s2, by rw [c1, if_pos rfl], by omega, by simp, by rw [h.p1]; exact plEnd_lt T h.p0, rfl, by simp [strm], by omega, (fun x hx => by cases hx), (fun o b hb => by simp [strm] at hb), fun p hp1 hp2 s hs => ?_⟩
  rw [c1, if_neg (by omega), if_neg (fun q => ?_)]
  · exact h.noc p hp1 hp2 s hs
  · obtain ⟨r, hr', hre⟩ := List.mem_map.1 q
    have := (ho r hr').2
    omega
/-- Nothing but the fuse or the power has changed. -/
theorem Lg.like {S S' : DevS} {k st sz seq place : Nat} {free : Int} {T : List TxL} {seq0 place0 : Nat} (h : Lg S k st sz seq place free T seq0 place0) (hl : S'.last = S.last) (hp : S'.pend = []) (hf : S'.fuse ≤ 9223372036854775807) : Lg S' k st sz seq place free T seq0 place0 := by
  have e : ∀ b, rdB S' b = rdB S b := fun b => by unfold rdB; rw [hl, hp, h.calm]
  have g := h.good
  exact { h with
    good := ⟨by rw [hl]; exact g.len, g.pos, g.top, by rw [hl]; exact g.by_, (fun p hp' => by rw [hp] at hp'; cases hp'), hf⟩
    calm := hp
    head := by rw [e]; exact h.head
    str := fun o b hb => by rw [e]; exact h.str o b hb
    noc := fun p h1 h2 s hs => by rw [e]; exact h.noc p h1 h2 s hs }
/-- It opens. -/
theorem Lg.log {S : DevS} {k st sz seq place : Nat} {free : Int} {T : List TxL} {seq0 place0 : Nat} (h : Lg S k st sz seq place free T seq0 place0) (hs : seq ≤ 4611686018427387904) : LogT S k st sz seq0 place0 ((sz : Int) - 1) T := by
  have h1 := h.s1
  have hfr := h.fr
  have hf0 := h.f0
  have hq := h.q1
  exact log_of h.good.top (by omega) T seq0 place0 _ h.ok (by omega) (by omega) (by omega) h.str (by rw [show (seq0 : Int) + (T.length : Int) = (seq : Int) by omega]; exact h.noc)
/-- A journal that was just formatted. -/
theorem Lg.fmt {S : DevS} {k st sz : Nat} (h : Good S k) (h1 : 27 ≤ sz) (h2 : st + sz ≤ k) : Lg (fmtS S st sz) k st sz 1 0 ((sz : Int) - 1) [] 1 0 := by
  have e := rdB_fmt h (show 1 ≤ sz by omega) h2
  refine ⟨h.fmt (by omega) h2, rfl, h1, h2, by rw [e, if_pos rfl]; rfl, Nat.le_refl _, rfl, by omega, rfl, by simp [strm], by omega, (fun x hx => by cases hx), (fun o b hb => by simp [strm] at hb), fun p hp1 hp2 s hs => ?_⟩
  rw [e, if_neg (by omega), if_pos (by omega)]
  exact zB_no s
end Go.Proofs.YtlcjkbhcbiggcaaGreatDoor

/- A journal and what its device holds, through commits. -/
namespace Go.Proofs.YtlcjkbhcbiggcaaGreatDoor
open Go.RowKit Go.Maps
set_option maxRecDepth 100000

theorem burnt_fuse (S : DevS) : (burnt S).fuse = S.fuse - 1 := by
  unfold burnt
  split
  · omega
  · rfl
theorem hidS_fuse (S : DevS) (st sz place : Nat) (seq : Int) (f : Nat → List Int) (m : List (Nat × Nat)) : ∀ i, (hidS S st sz place seq f m i).fuse = S.fuse - (i + 1)
  | 0 => burnt_fuse S
  | i + 1 => by
    show (burnt (hidS S st sz place seq f m i)).fuse = _
    rw [burnt_fuse, hidS_fuse S st sz place seq f m i]
    omega
theorem comS_fuse (S : DevS) (st sz place : Nat) (seq : Int) (f : Nat → List Int) (m : List (Nat × Nat)) : (comS S st sz place seq f m).fuse = S.fuse - (m.length + 4) := by
  show (burnt (wrote (burnt (flushed (burnt (hidS S st sz place seq f m m.length)))) _ _)).fuse = _
  rw [burnt_fuse]
  show (burnt (flushed (burnt (hidS S st sz place seq f m m.length)))).fuse - 1 = _
  rw [burnt_fuse]
  show (burnt (hidS S st sz place seq f m m.length)).fuse - 1 - 1 = _
  rw [burnt_fuse, hidS_fuse]
  omega
theorem homeS_fuse (S : DevS) (fa : Nat → List Int) (a : List (Nat × Nat)) : ∀ i, (homeS S fa a i).fuse = S.fuse - i
  | 0 => rfl
  | i + 1 => by
    show (burnt (homeS S fa a i)).fuse = _
    rw [burnt_fuse, homeS_fuse S fa a i]
    omega
theorem ckS_fuse (S : DevS) (fa : Nat → List Int) (a : List (Nat × Nat)) (st : Nat) (seq : Int) (place : Nat) : (ckS S fa a st seq place).fuse = S.fuse - (a.length + 3) := by
  show (burnt (wrote (burnt (flushed (burnt (homeS S fa a a.length)))) _ _)).fuse = _
  rw [burnt_fuse]
  show (burnt (flushed (burnt (homeS S fa a a.length)))).fuse - 1 = _
  rw [burnt_fuse]
  show (burnt (homeS S fa a a.length)).fuse - 1 - 1 = _
  rw [burnt_fuse, homeS_fuse]
  omega
theorem comS_lasts {S : DevS} {st sz place : Nat} {seq : Int} {f : Nat → List Int} {m : List (Nat × Nat)} {n : Nat} (h : Lasts S (m.length + 4 + n)) : Lasts (comS S st sz place seq f m) n := by
  have h3 : Lasts (hidS S st sz place seq f m m.length) (n + 3) := hidS_lasts m.length (n + 3) (by rw [show m.length + 1 + (n + 3) = m.length + 4 + n by omega]; exact h)
  exact ((h3.burnt.flushed).putL _ _ _ _ _).burnt.flushed
/-- A journal, and what its device holds. -/
structure JS (w : World) (d : Nat) (S : DevS) (k N : Nat) (G : Nat → Prop) (jb st sz seq place : Nat) (free : Int) (bm nd : Nat) (a : List (Nat × Nat)) (fa : Nat → List Int) (T : List TxL) (seq0 place0 : Nat) : Prop where
  J : Jn w d S k N G jb st sz (seq : Int) place free bm nd a fa
  L : Lg S k st sz seq place free T seq0 place0
  C : Cont a fa T
  O : OutA k st sz a
  nb : (nd : Int) + free ≤ sz
theorem ovl_pos {k st sz : Nat} {T : List TxL} (hne : T ≠ []) (hok : ∀ x ∈ T, TxOk k st sz x) : ∃ b, (ovl T b).isSome = true := by
  induction T using snoc_ind with
  | h0 => exact absurd rfl hne
  | h1 T x _ =>
    have hx := (hok x (by simp)).ne
    refine ⟨(x[0]'hx).1, ?_⟩
    rw [ovl_snoc]
    have : (txAt x (x[0]'hx).1).isSome = true := by
      unfold txAt
      rw [Option.isSome_map, List.find?_isSome]
      exact ⟨x[0]'hx, List.getElem_mem hx, by simp⟩
    obtain ⟨v, hv⟩ := Option.isSome_iff_exists.1 this
    rw [hv]
    rfl
theorem Cont.pos {k st sz : Nat} {a : List (Nat × Nat)} {fa : Nat → List Int} {T : List TxL} (h : Cont a fa T) (hne : T ≠ []) (hok : ∀ x ∈ T, TxOk k st sz x) : 0 < a.length := by
  obtain ⟨b, hb⟩ := ovl_pos hne hok
  rw [← h b, Option.isSome_map] at hb
  cases a with
  | nil => simp [lk] at hb
  | cons => simp
/-- What is seen of a journal with no open transaction. -/
theorem sees_ovl {S : DevS} {a : List (Nat × Nat)} {fa f : Nat → List Int} {T : List TxL} (h : Cont a fa T) (o : Nat) : seesF S [] f a fa o = (ovl T o).getD (rdB S o) := by
  unfold seesF
  rw [← h o]
  cases e : lk a o <;> simp [lk]
theorem txM_at {f : Nat → List Int} {m : List (Nat × Nat)} (b : Nat) : (lk m b).map (fun _ => f b) = txAt (txM f m) b := by
  unfold txAt txM
  induction m with
  | nil => rfl
  | cons p m ih =>
    rw [lk_cons, List.map_cons, List.find?_cons]
    by_cases e : p.1 = b
    · simp [e]
    · simp only [if_neg e]
      rw [ih]
      have : (p.1 == b) = false := by simp [e]
      rw [this]
theorem TxOk.ofM {w : World} {k st sz ns wm : Nat} {f : Nat → List Int} {m : List (Nat × Nat)} (hM : Mp w wm ns m) (hV : Vals w f m) (h0 : 0 < m.length) (h24 : m.length ≤ 24) (ho : ∀ p ∈ m, p.1 < k ∧ (p.1 < st ∨ st + sz ≤ p.1)) : TxOk k st sz (txM f m) := by
  refine ⟨by rw [txM_len]; exact h0, by rw [txM_len]; exact h24, ?_, fun p hp => ?_, fun p hp => ?_⟩
  · unfold txM
    rw [List.pairwise_map]
    exact hM.ris
  · obtain ⟨r, hr, rfl⟩ := List.mem_map.1 hp
    exact ho r hr
  · obtain ⟨r, hr, rfl⟩ := List.mem_map.1 hp
    exact (hV r hr).2
/-- How many operations a Commit takes. -/
def costC (m a : List (Nat × Nat)) (free : Int) : Nat := if m = [] then 0 else m.length + 4 + (if free < (m.length : Int) + 2 then a.length + 3 else 0)
/-- What a Commit leaves. -/
structure CmR (w w' : World) (d : Nat) (S : DevS) (k N : Nat) (G : Nat → Prop) (jb st sz seq : Nat) (free : Int) (bm : Nat) (a : List (Nat × Nat)) (fa : Nat → List Int) (tb : Nat) (m : List (Nat × Nat)) (f : Nat → List Int) : Prop where
  td : Td w' tb
  tr : Turns (fun i => G i ∨ i = bm ∨ i = jb ∨ i = tb) w w'
  ex : ∃ (S' : DevS) (N' : Nat) (G' : Nat → Prop) (seq' place' : Nat) (free' : Int) (bm' nd' : Nat) (a' : List (Nat × Nat)) (fa' : Nat → List Int) (T' : List TxL) (seq0' place0' : Nat), JS w' d S' k N' G' jb st sz seq' place' free' bm' nd' a' fa' T' seq0' place0' ∧ (∀ i, G' i → G i ∨ w.heap.size ≤ i) ∧ (bm' = bm ∨ w.heap.size ≤ bm') ∧ N' ≤ N + 5000 ∧ seq ≤ seq' ∧ seq' ≤ seq + 1 ∧ S'.off = false ∧ S'.fuse = S.fuse - costC m a free ∧ (∀ o, o < k → (o < st ∨ st + sz ≤ o) → seesF S' [] fa' a' fa' o = seesF S m f a fa o)
end Go.Proofs.YtlcjkbhcbiggcaaGreatDoor

/- Commit by its contract: what the device holds behind it, and what it cost. -/
namespace Go.Proofs.YtlcjkbhcbiggcaaGreatDoor
open Go.RowKit Go.Maps
set_option maxRecDepth 100000

theorem commitG {w : World} {d : Nat} {S : DevS} {k N : Nat} {G : Nat → Prop} {jb st sz seq place : Nat} {free : Int} {bm nd : Nat} {a : List (Nat × Nat)} {fa : Nat → List Int} {tb wm ns : Nat} {m : List (Nat × Nat)} {f : Nat → List Int} {sv : Value} {last : Int} {T : List TxL} {seq0 place0 : Nat} (X : Tx w d S k N G jb st sz (seq : Int) place free bm nd a fa tb wm ns m f sv last) (L : Lg S k st sz seq place free T seq0 place0) (C : Cont a fa T) (O : OutA k st sz a) (nb : (nd : Int) + free ≤ sz) (hmo : ∀ p ∈ m, p.1 < k ∧ (p.1 < st ∨ st + sz ≤ p.1)) (h24 : m.length ≤ 24) (hS : Lasts S (costC m a free)) (hN : N ≤ 900000000) (hs : seq ≤ 4611686018427387903) :
    Calls Tryz.prog 90 #[.pointer (some ⟨tb, 0, none⟩)] w fun e w' => e = .returned (.int .i64 0) ∧ CmR w w' d S k N G jb st sz seq free bm a fa tb m f := by
  have h1 := L.s1
  have h2 := L.s2
  have hk := L.good.top
  have hpl := L.p1
  have hpl2 : place < sz - 1 := by rw [hpl]; exact plEnd_lt T L.p0
  have hf0 := L.f0
  have hfr := L.fr
  by_cases hm0 : m = []
  · subst hm0
    refine (commit_none X.D X.T X.J X.M X.tj X.tm X.jm X.gj X.gt X.gm hS.on).mono ?_
    rintro e w' ⟨rfl, T', J', D', t'⟩
    have nv : ∀ (g : Nat) (l : List Int), w.heap[g]? = some (bl l) → ¬ (g = tb ∨ g = jb) := fun g l hg e => by
      rcases e with rfl | rfl
      · have := X.T; unfold Tb at this; rw [hg] at this; simp [bl] at this
      · have := X.J; unfold Jb at this; rw [hg] at this; simp [bl] at this
    refine ⟨rfl, T', t'.mono (fun i _ r => ?_), S, N, G, seq, place, free, bm, nd, a, fa, T, seq0, place0, ⟨⟨D', J', X.A.turns t' (fun r => ?_), X.VA.turns t' (fun p hp r => ?_), X.gj, X.ga, X.gva, X.ja⟩, L, C, O, nb⟩, fun i hi => Or.inl hi, Or.inl rfl, by omega, by omega, by omega, hS.on, by simp [costC], fun o _ _ => ?_⟩
    · rcases r with r | r | r
      · exact Or.inl r
      · exact Or.inr (Or.inr (Or.inr r))
      · exact Or.inr (Or.inr (Or.inl r))
    · rcases r with r | r | r
      · exact X.ga r
      · exact X.ta r.symm
      · exact X.ja r.symm
    · exact r.elim (X.gva p hp) (nv _ _ (X.VA p hp).1)
    · simp [seesF, lk]
  · have hl1 : 1 ≤ m.length := by cases m with | nil => exact absurd rfl hm0 | cons => simp
    have hLa := O.low hk
    have hLm : Low m := fun p hp => by have := (hmo p hp).1; omega
    have hx := TxOk.ofM (k := k) (st := st) (sz := sz) X.M X.V (by omega) h24 hmo
    have hc : costC m a free = m.length + 4 + (if free < (m.length : Int) + 2 then a.length + 3 else 0) := by unfold costC; rw [if_neg hm0]
    by_cases hfull : free < (m.length : Int) + 2
    · rw [hc, if_pos hfull] at hS
      have hne : T ≠ [] := fun e => by subst e; simp [strm] at hfr; omega
      have ha0 := C.pos hne L.ok
      refine (txCommit_ck X hl1 h24 hLa hLm hfull ha0 (fun p hp => (O p hp).1) h1 h2 hk (by rw [show a.length + 3 + (m.length + 4) = m.length + 4 + (a.length + 3) by omega]; exact hS) (by omega) (by omega) (by omega)).mono ?_
      rintro e w' ⟨rfl, T', t', G', bm9, lb9, J', hG'⟩
      have Lc := L.ck X.A.ris O (fun p hp => (X.VA p hp).2)
      have Lm := Lc.commit hx (by omega) (by omega)
      have hla := low_len X.A.ris hLa
      have cA := rdB_ck (seq := (seq : Int)) (place := place) L.good (show st < k by omega) X.A.ris (fun p hp => (O p hp).1) (fun p hp => (X.VA p hp).2)
      have cB := rdB_coms (S := ckS S fa a st seq place) (place := place) (seq := (seq : Int)) (f := f) (m := m) cA.2.1 (by omega) h2 h24 (fun p hp => (X.V p hp).2) (by omega)
      have C9 : Cont (mmerge [] m) (mergeF m f (fun _ => [])) ([] ++ [txM f m]) := Cont.merge (fun b => rfl) List.Pairwise.nil X.M.ris (fun b => txM_at b)
      refine ⟨rfl, T', t'.mono (fun i _ r => ?_), comS (ckS S fa a st seq place) st sz place seq f m, N + a.length + 1 + m.length + 2, G', seq + 1, (place + m.length + 2) % (sz - 1), (sz : Int) - 1 - (m.length + 2), bm9, 0 + m.length, mmerge [] m, mergeF m f (fun _ => []), [] ++ [txM f m], seq, place, ⟨J', Lm, C9, ?_, by omega⟩, hG', Or.inr lb9, by omega, by omega, by omega, ?_, ?_, fun o ho1 ho2 => ?_⟩
      · exact r.elim Or.inl (fun r => Or.inr (Or.inr r))
      · exact OutA.merge (fun p hp => by cases hp) hmo
      · exact (comS_lasts (n := 0) (ckS_lasts (by rw [show a.length + 3 + (m.length + 4 + 0) = m.length + 4 + (a.length + 3) by omega]; exact hS))).on
      · rw [comS_fuse, ckS_fuse, hc, if_pos hfull]
        omega
      · rw [sees_ovl C9 o, List.nil_append]
        have e1 : ovl [txM f m] o = (lk m o).map (fun _ => f o) := by
          have := ovl_snoc [] (txM f m) o
          rw [List.nil_append] at this
          rw [this, ← txM_at]
          simp [ovl_nil]
        rw [e1, cB.2.1 o (fun j _ e => by have := atN_in (st := st) (place := place) (i := j) (show 2 ≤ sz by omega); omega), cA.1, if_neg (by omega)]
        unfold seesF
        cases q1 : lk m o with
        | some g => simp
        | none =>
          cases q2 : lk a o with
          | some g =>
            have : o ∈ a.map (·.1) := lk_keys.1 (by rw [q2]; rfl)
            simp [this]
          | none =>
            have : ¬ o ∈ a.map (·.1) := fun q => by have := lk_keys.2 q; rw [q2] at this; cases this
            simp [this]
    · rw [hc, if_neg hfull] at hS
      refine (txCommit_ok X hl1 h24 hLa hLm (by omega) (by omega) h1 h2 hk hS (by omega) (by omega) (by omega) (by omega)).mono ?_
      rintro e w' ⟨rfl, T', t', G', J', hG'⟩
      have Lm := L.commit hx (by omega) (by omega)
      have cB := rdB_coms (S := S) (place := place) (seq := (seq : Int)) (f := f) (m := m) L.good (by omega) h2 h24 (fun p hp => (X.V p hp).2) (by omega)
      have C9 := C.merge X.A.ris X.M.ris (fun b => txM_at (f := f) (m := m) b)
      refine ⟨rfl, T', t', comS S st sz place seq f m, N + m.length + 2, G', seq + 1, (place + m.length + 2) % (sz - 1), free - (m.length + 2), bm, nd + m.length, mmerge a m, mergeF m f fa, T ++ [txM f m], seq0, place0, ⟨J', Lm, C9, O.merge hmo, by omega⟩, hG', Or.inl rfl, by omega, by omega, by omega, ?_, ?_, fun o ho1 ho2 => ?_⟩
      · exact (comS_lasts (n := 0) hS).on
      · rw [comS_fuse, hc, if_neg hfull]
      · rw [sees_ovl C9 o, ovl_snoc, ← txM_at, cB.2.1 o (fun j _ e => by have := atN_in (st := st) (place := place) (i := j) (show 2 ≤ sz by omega); omega), ← C o]
        unfold seesF
        cases q1 : lk m o with
        | some g => simp
        | none => cases q2 : lk a o <;> simp
end Go.Proofs.YtlcjkbhcbiggcaaGreatDoor

/- A transaction as the layers above have it: what it sees, which blocks it has written, what is its own. -/
namespace Go.Proofs.YtlcjkbhcbiggcaaGreatDoor
open Go.RowKit Go.Maps
set_option maxRecDepth 100000

/-- The power is on, and no fuse is laid. -/
structure Calm (S : DevS) : Prop where
  on : S.off = false
  fu : S.fuse = 0
theorem Calm.lasts {S : DevS} (h : Calm S) (m : Nat) : Lasts S m := ⟨h.on, Or.inl h.fu⟩
theorem Calm.burnt {S : DevS} (h : Calm S) : Calm (burnt S) := by
  have : Go.Proofs.YtlcjkbhcbiggcaaGreatDoor.burnt S = S := by unfold Go.Proofs.YtlcjkbhcbiggcaaGreatDoor.burnt; rw [if_pos h.fu]
  rw [this]; exact h
theorem Calm.wrote {S : DevS} (h : Calm S) (b : Nat) (d : List Int) : Calm (wrote S b d) := ⟨h.on, h.fu⟩
theorem Calm.flushed {S : DevS} (h : Calm S) : Calm (flushed S) := ⟨h.on, h.fu⟩
theorem Calm.zrs {S : DevS} (h : Calm S) (st : Nat) : ∀ p, Calm (zrs S st p)
  | 0 => h
  | p + 1 => (Calm.zrs h st p).burnt.wrote _ _
theorem Calm.fmt {S : DevS} (h : Calm S) (st sz : Nat) : Calm (fmtS S st sz) := (((h.zrs st _).burnt.flushed).burnt.wrote _ _).burnt.flushed
/-- Where a transaction lies: its device, its journal, its own block and maps. -/
structure Kc where
  d : Nat
  S : DevS
  k : Nat
  N : Nat
  G : Nat → Prop
  jb : Nat
  st : Nat
  sz : Nat
  seq : Nat
  place : Nat
  free : Int
  bm : Nat
  nd : Nat
  a : List (Nat × Nat)
  fa : Nat → List Int
  tb : Nat
  wm : Nat
  sv : Value
  last : Int
/-- A block outside the journal's region. -/
def Kc.out (c : Kc) (b : Nat) : Prop := b < c.k ∧ (b < c.st ∨ c.st + c.sz ≤ b)
/-- What its device's region holds. -/
structure Kq (c : Kc) (i : Nat) : Prop where
  lo : ∃ (L : List TxL) (q0 p0 : Nat), Lg c.S c.k c.st c.sz c.seq c.place c.free L q0 p0 ∧ Cont c.a c.fa L
  O : OutA c.k c.st c.sz c.a
  nb : (c.nd : Int) + c.free ≤ c.sz
  cm : Calm c.S
  N : c.N ≤ 100 + 100000 * i
  sq : c.seq ≤ 1 + i
/-- What belongs to a transaction. -/
def foot (c : Kc) (m : List (Nat × Nat)) (i : Nat) : Prop := c.G i ∨ i = c.jb ∨ i = c.tb ∨ i = c.bm ∨ i = c.wm ∨ (∃ p ∈ m, p.2 = i) ∨ ∃ p ∈ c.a, p.2 = i
/-- An open transaction with what it has written. -/
structure Ta (w : World) (c : Kc) (ns : Nat) (m : List (Nat × Nat)) (f : Nat → List Int) : Prop where
  X : Tx w c.d c.S c.k c.N c.G c.jb c.st c.sz (c.seq : Int) c.place c.free c.bm c.nd c.a c.fa c.tb c.wm ns m f c.sv c.last
  key : ∀ p ∈ m, c.out p.1
/-- An open transaction: it sees v, it has written the blocks ks, and F is its own. -/
structure Tv (w : World) (c : Kc) (i : Nat) (F : Nat → Prop) (v : Nat → List Int) (ks : List Nat) (n : Nat) : Prop where
  ex : ∃ ns m f, Ta w c ns m f ∧ ns ≤ n ∧ m.map (·.1) = ks ∧ (∀ i, foot c m i → F i) ∧ ∀ b, c.out b → seesF c.S m f c.a c.fa b = v b
  Q : Kq c i
  lt : ∀ i, F i → i < w.heap.size
  len : ∀ b, c.out b → (v b).length = 512 ∧ ∀ x ∈ v b, 0 ≤ x ∧ x ≤ 255
theorem Tx.keep {X : Nat → Prop} {w w' : World} {c : Kc} {ns : Nat} {m : List (Nat × Nat)} {f : Nat → List Int} (h : Tx w c.d c.S c.k c.N c.G c.jb c.st c.sz (c.seq : Int) c.place c.free c.bm c.nd c.a c.fa c.tb c.wm ns m f c.sv c.last) (t : Turns X w w') (hX : ∀ i, foot c m i → ¬ X i) : Tx w' c.d c.S c.k c.N c.G c.jb c.st c.sz (c.seq : Int) c.place c.free c.bm c.nd c.a c.fa c.tb c.wm ns m f c.sv c.last :=
  { h with
    D := h.D.turns t (fun i hi hx => hX i (Or.inl hi) hx)
    J := (t.block c.jb (heap_lt h.J) (hX _ (Or.inr (Or.inl rfl)))).trans h.J
    T := (t.block c.tb (heap_lt h.T) (hX _ (Or.inr (Or.inr (Or.inl rfl))))).trans h.T
    A := h.A.turns t (hX _ (Or.inr (Or.inr (Or.inr (Or.inl rfl)))))
    VA := h.VA.turns t (fun p hp => hX _ (Or.inr (Or.inr (Or.inr (Or.inr (Or.inr (Or.inr ⟨p, hp, rfl⟩)))))))
    M := h.M.turns t (hX _ (Or.inr (Or.inr (Or.inr (Or.inr (Or.inl rfl))))))
    V := h.V.turns t (fun p hp => hX _ (Or.inr (Or.inr (Or.inr (Or.inr (Or.inr (Or.inl ⟨p, hp, rfl⟩))))))) }
theorem Tv.keep {X F : Nat → Prop} {w w' : World} {c : Kc} {i n : Nat} {v : Nat → List Int} {ks : List Nat} (h : Tv w c i F v ks n) (t : Turns X w w') (hX : ∀ i, F i → ¬ X i) : Tv w' c i F v ks n := by
  obtain ⟨ns, m, f, A, h1, h2, h3, h4⟩ := h.ex
  exact ⟨⟨ns, m, f, ⟨A.X.keep t (fun i hi => hX i (h3 i hi)), A.key⟩, h1, h2, h3, h4⟩, h.Q, fun i hi => Nat.lt_of_lt_of_le (h.lt i hi) t.size, h.len⟩
theorem Tv.below {F : Nat → Prop} {w w' : World} {c : Kc} {i n : Nat} {v : Nat → List Int} {ks : List Nat} (h : Tv w c i F v ks n) (b : Below w.heap.size w w') : Tv w' c i F v ks n :=
  h.keep (Below.turns b (fun _ => False)) (fun _ _ q => q)
theorem Tv.later {F F' : Nat → Prop} {w : World} {c : Kc} {i n n' : Nat} {v : Nat → List Int} {ks : List Nat} (h : Tv w c i F v ks n) (hF : ∀ i, F i → F' i) (hl : ∀ i, F' i → i < w.heap.size) (hn : n ≤ n') : Tv w c i F' v ks n' := by
  obtain ⟨ns, m, f, A, h1, h2, h3, h4⟩ := h.ex
  exact ⟨⟨ns, m, f, A, by omega, h2, fun i hi => hF i (h3 i hi), h4⟩, h.Q, hl, h.len⟩
theorem Kq.reg {c : Kc} {i : Nat} (h : Kq c i) : c.st + c.sz ≤ c.k := by
  obtain ⟨L, q0, p0, hL, _⟩ := h.lo
  exact hL.s2
/-- Read. -/
theorem Tv.read {F : Nat → Prop} {w : World} {c : Kc} {i n : Nat} {v : Nat → List Int} {ks : List Nat} (h : Tv w c i F v ks n) (b : Nat) (hb : c.out b) :
    Calls Tryz.prog 60 #[.pointer (some ⟨c.tb, 0, none⟩), .int .i64 (b : Nat)] w fun e w' => ∃ g, e = .returned (.tuple #[hv g, .int .i64 0]) ∧ w.heap.size ≤ g ∧ w'.heap[g]? = some (bl (v b)) ∧ Tv w' c i F v ks n ∧ Turns F w w' := by
  obtain ⟨ns, m, f, A, h1, h2, h3, h4⟩ := h.ex
  have e := h4 b hb
  have hl := (h.len b hb).1
  rw [← e] at hl
  refine (A.X.read h.Q.cm.on h.Q.reg b hb.1 hb.2 hl).mono ?_
  rintro x w' ⟨g, rfl, lg, hg, X', t⟩
  rw [e] at hg
  exact ⟨g, rfl, lg, hg, ⟨⟨ns, m, f, ⟨X', A.key⟩, h1, h2, h3, h4⟩, h.Q, fun i hi => Nat.lt_of_lt_of_le (h.lt i hi) t.size, h.len⟩, t.mono (fun i _ hi => h3 i (Or.inl hi))⟩
/-- The keys with one more. -/
def kput (ks : List Nat) (b : Nat) : List Nat := (mput (ks.map fun x => (x, 0)) b 0).map (·.1)
theorem mput_keys : ∀ (m : List (Nat × Nat)) (b g : Nat), (mput m b g).map (·.1) = kput (m.map (·.1)) b
  | [], b, g => by simp [kput, mput]
  | p :: m, b, g => by
    have h := mput_keys m b g
    unfold kput at h ⊢
    simp only [List.map_cons, mput]
    split
    · simp
    · split
      · simp
      · simp only [List.map_cons, h]
theorem keys_map (m : List (Nat × Nat)) (b : Nat) : (lk m b).isSome = true ↔ b ∈ m.map (·.1) := lk_keys
/-- Write. -/
theorem Tv.write {F : Nat → Prop} {w : World} {c : Kc} {i n : Nat} {v : Nat → List Int} {ks : List Nat} (h : Tv w c i F v ks n) (b : Nat) (hb : c.out b) (ao : Option Addr) (cp : Nat) (ds : List Int) (hL : Lies w ao 512 cp ds) (hy : ∀ x ∈ ds, 0 ≤ x ∧ x ≤ 255) (haF : ∀ ad, ao = some ad → ¬ F ad.block) (hroom : b ∈ ks ∨ ks.length < 24) (hn : n ≤ 1000000) :
    Calls Tryz.prog 94 #[.pointer (some ⟨c.tb, 0, none⟩), .int .i64 b, .slice ao 512 cp] w fun e w' => ∃ F', e = .returned (.int .i64 0) ∧ Tv w' c i F' (updF v b ds) (kput ks b) (n + 1) ∧ Turns F w w' ∧ (∀ i, F' i → F i ∨ w.heap.size ≤ i) ∧ ∀ i, F i → F' i := by
  obtain ⟨ns, m, f, A, h1, h2, h3, h4⟩ := h.ex
  have hr : (lk m b).isSome = true ∨ m.length < 24 := by
    rcases hroom with q | q
    · exact Or.inl (lk_keys.2 (by rw [h2]; exact q))
    · exact Or.inr (by rw [← h2, List.length_map] at q; exact q)
  refine (A.X.write h.Q.cm.on h.Q.reg b hb.1 hb.2 ao cp ds hL hy (fun ad e q => haF ad e (h3 _ (Or.inl q))) hr (by omega)).mono ?_
  rintro x w' ⟨g, rfl, lg, X', t⟩
  have hg : w'.heap[g]? = some (bl ds) := by
    have hm : (b, g) ∈ mput m b g := mem_lk (by rw [lk_mput m b g b A.X.M.ris, if_pos rfl])
    have := (X'.V _ hm).1
    simpa [updF] using this
  have gl := heap_lt hg
  have t' : Turns F w w' := t.mono (fun i _ q => h3 i (q.elim Or.inl (fun q => Or.inr (Or.inr (Or.inr (Or.inr (Or.inl q)))))))
  refine ⟨fun i => F i ∨ i = g, rfl, ⟨⟨ns + 1, mput m b g, updF f b ds, ⟨X', fun p hp => ?_⟩, by omega, ?_, fun j hj => ?_, fun x hx => ?_⟩, h.Q, fun j hj => ?_, fun x hx => ?_⟩, t', fun j hj => hj.elim Or.inl (fun e => Or.inr (e ▸ lg)), fun j hj => Or.inl hj⟩
  · rcases mput_mem hp with rfl | hp
    · exact hb
    · exact A.key p hp
  · rw [mput_keys, h2]
  · rcases hj with q | q | q | q | q | ⟨p, hp, q⟩ | q
    · exact Or.inl (h3 j (Or.inl q))
    · exact Or.inl (h3 j (Or.inr (Or.inl q)))
    · exact Or.inl (h3 j (Or.inr (Or.inr (Or.inl q))))
    · exact Or.inl (h3 j (Or.inr (Or.inr (Or.inr (Or.inl q)))))
    · exact Or.inl (h3 j (Or.inr (Or.inr (Or.inr (Or.inr (Or.inl q))))))
    · rcases mput_mem hp with rfl | hp
      · exact Or.inr q.symm
      · exact Or.inl (h3 j (Or.inr (Or.inr (Or.inr (Or.inr (Or.inr (Or.inl ⟨p, hp, q⟩)))))))
    · exact Or.inl (h3 j (Or.inr (Or.inr (Or.inr (Or.inr (Or.inr (Or.inr q)))))))
  · have h5 := h4 x hx
    unfold seesF updF at *
    rw [lk_mput m b g x A.X.M.ris]
    by_cases e : x = b
    · subst e
      simp
    · have e' : ¬ b = x := fun q => e q.symm
      simp only [e, e', if_false]
      exact h5
  · rcases hj with q | q
    · exact Nat.lt_of_lt_of_le (h.lt j q) t.size
    · exact q ▸ gl
  · unfold updF
    by_cases e : x = b
    · rw [if_pos e]
      exact ⟨hL.hlen, hy⟩
    · rw [if_neg e]
      exact h.len x hx
/-- Seq. -/
theorem Tv.seq {F : Nat → Prop} {w : World} {c : Kc} {i n : Nat} {v : Nat → List Int} {ks : List Nat} (h : Tv w c i F v ks n) :
    Calls Tryz.prog 59 #[.pointer (some ⟨c.tb, 0, none⟩)] w fun e w' => e = .returned (.int .i64 (c.seq : Nat)) ∧ w' = w := by
  obtain ⟨ns, m, f, A, _⟩ := h.ex
  exact seq_ok A.X.T A.X.J
theorem Tv.cells {F : Nat → Prop} {w : World} {c : Kc} {i n : Nat} {v : Nat → List Int} {ks : List Nat} (h : Tv w c i F v ks n) : F c.tb ∧ F c.jb := by
  obtain ⟨ns, m, f, A, _, _, h3, _⟩ := h.ex
  exact ⟨h3 _ (Or.inr (Or.inr (Or.inl rfl))), h3 _ (Or.inr (Or.inl rfl))⟩
/-- Blocks. -/
theorem Tv.blocks {F : Nat → Prop} {w : World} {c : Kc} {i n : Nat} {v : Nat → List Int} {ks : List Nat} (h : Tv w c i F v ks n) (hk : ks.length ≤ 1000) :
    Calls Tryz.prog 28 #[.pointer (some ⟨c.tb, 0, none⟩)] w fun e w' => ∃ g cp, e = .returned (.slice (some ⟨g, 0, none⟩) ks.length cp) ∧ w'.ownsRow w.heap.size 3 1 (.slice (some ⟨g, 0, none⟩) ks.length cp) ks.length (ks.map fun x => .int .i64 (x : Nat)) ∧ Below w.heap.size w w' := by
  obtain ⟨ns, m, f, A, _, h2, _, _⟩ := h.ex
  have hl : m.length = ks.length := by rw [← h2, List.length_map]
  have := blocks_ok A.X.T A.X.M (by omega)
  rw [hl] at this
  rw [show (m.map fun p => Value.int .i64 (p.1 : Nat)) = ks.map fun x => .int .i64 (x : Nat) by rw [← h2, List.map_map]; rfl] at this
  exact this
end Go.Proofs.YtlcjkbhcbiggcaaGreatDoor

/- A slot written. -/
namespace Go.Proofs.YtlcjkbhcbiggcaaGreatDoor
open Go.RowKit Go.Maps
set_option maxRecDepth 100000

/-- A slot that was read: its block in memory. -/
structure Sr (w : World) (c : Kc) (s : Slt) (n a g : Nat) (bs : List Int) : Prop where
  tx : s.tx = some ⟨c.tb, 0, none⟩
  n : s.n = (n : Nat)
  at_ : s.at_ = (a : Nat)
  bk : s.bk = some ⟨g, 0, none⟩
  len : s.len = 512
  cap : s.cap = 512
  row : w.heap[g]? = some (bl bs)
  bl : bs.length = 512
  by_ : ∀ x ∈ bs, 0 ≤ x ∧ x ≤ 255
theorem splice_by {l r : List Int} (o : Nat) (hl : ∀ x ∈ l, 0 ≤ x ∧ x ≤ 255) (hr : ∀ x ∈ r, 0 ≤ x ∧ x ≤ 255) : ∀ x ∈ splice l o r, 0 ≤ x ∧ x ≤ 255 := by
  intro x hx
  unfold splice at hx
  rcases List.mem_append.1 hx with h | h
  · exact hl x (List.mem_of_mem_take h)
  · rcases List.mem_append.1 h with h | h
    · exact hr x h
    · exact hl x (List.mem_of_mem_drop h)
attribute [local go_sem ↓ 100000] sl_store sl_load sl_ex
attribute [local go_sem] SlStore.newS
set_option maxHeartbeats 4000000 in
theorem swrite_ok {w : World} {c : Kc} {i m n a g : Nat} {F : Nat → Prop} {v : Nat → List Int} {ks : List Nat} {s : Slt} {bs : List Int} (h : Tv w c i F v ks m) (hs : Sr w c s n a g bs) (hn : n ≤ 1000) (ha : c.out a) (hgF : ¬ F g) (r : List Int) (hr : r.length = 128) (hy : ∀ x ∈ r, 0 ≤ x ∧ x ≤ 255) (hroom : a ∈ ks ∨ ks.length < 24) (hm : m ≤ 1000000) :
    Calls Tryz.prog 105 #[slV s, .agg (rcA r)] w fun e w' => ∃ F', e = .returned (.int .i64 0) ∧ Tv w' c i F' (updF v a (splice bs (n % 4 * 128) r)) (kput ks a) (m + 1) ∧ Turns (fun i => F i ∨ i = g) w w' ∧ (∀ i, F' i → F i ∨ w.heap.size ≤ i) ∧ ∀ i, F i → F' i := by
  obtain ⟨W1, hW1⟩ : ∃ W, (w.alloc (.cells (slA s) 142)).alloc (.cells (rcA r) 165) = W := ⟨_, rfl⟩
  have s1 : W1.heap.size = w.heap.size + 2 := by rw [← hW1]; simp
  have b1 : Below w.heap.size w W1 := by rw [← hW1]; exact ((Below.refl _ w).alloc (Nat.le_refl _) _).alloc (by simp) _
  have S1 : SlBox W1 w.heap.size s := by
    rw [← hW1]
    exact ((Below.refl _ _).alloc (Nat.le_refl _) _).block _ (by simp) |>.trans (heap_alloc_last w _)
  have R1 : RcBox W1 (w.heap.size + 1) r := by
    have := heap_alloc_last (w.alloc (.cells (slA s) 142)) (.cells (rcA r) 165)
    rw [hW1, show (w.alloc (.cells (slA s) 142)).heap.size = w.heap.size + 1 by simp] at this
    exact this
  have hsz : (Tryz.prog.info? 5).map (·.size) = some 1 := by kernel_rfl
  have hld := SlLoad.row S1 (slA_size s)
  go_enter Tryz.func105, Tryz.ntmps105
  go_wp2_with fail
  try rw [hW1]
  go_wp2_with fail
  have hgl := heap_lt hs.row
  have e1 := SlEx.row S1 (slA_size s)
  have e2 := SlEx.row (w := W1.drew) S1 (slA_size s)
  have P1 := place_ok s n g hs.n hs.bk hs.len hs.cap hn
  have k1 := (b1.block _ hgl).trans hs.row
  have hbs := hs.bl
  clear hld
  go_region_held3 (fun w' => (SlEx (.pointer (some ⟨w.heap.size, 0, none⟩))).run Tryz.prog w' = .ok (.value (slV s)) w')
    (first | exact e1 | exact e2 | exact y1 | exact y2)
    (first
      | (go_at_call 144; refine (P1 _).mono ?_; rintro e w2 ⟨rfl, b2⟩; have S2 := SlBox.below (w := W1.drew) S1 b2; have y1 := SlEx.row S2 (slA_size s); have R2 := RcBox.below (w := W1.drew) R1 b2; have k2 := (b2.block _ (heap_lt k1)).trans k1; have L2 := R2.lies 0 128 128 (by omega) (by omega); rw [List.drop_zero, List.take_of_length_le (by omega)] at L2)
      | (refine step_copy_set rfl (.tmp 6) (.tmp 7) 39 39 rfl 5 Tryz.underlying39 hsz g (n % 4 * 128) 128 128 ⟨w.heap.size + 1, 0, none⟩ 128 128 rfl rfl (bs.map (Value.int .u8)) 5 k2 (r.map (Value.int .u8)) (by simp [hr]) (L2.hcells _ rfl) (by simp [hr, hbs]; omega) (ints_oneCell _ _) ?_; intro w3 HG3 hg3; have S3 : SlBox w3 w.heap.size s := (hg3.block _ (heap_lt S2) (by simp; omega)).trans S2; have y2 := SlEx.row S3 (slA_size s)))
  have gr := HG3.out
  have e3 : splice (bs.map (Value.int .u8)) (n % 4 * 128) (r.map (Value.int .u8)) = (splice bs (n % 4 * 128) r).map (Value.int .u8) := by simp [splice, List.map_take, List.map_drop]
  rw [e3] at gr
  have t3 : Turns (fun i => i = g) w w3 := ((Below.turns b1 _).trans (Below.turns (Below.drew (Below.refl _ W1)) _) (fun _ _ h => h)).trans ((Below.turns b2 _).trans (Turns.grown (F := fun i => i = g) hg3 (fun b hb => (Option.some.inj hb).symm)) (fun _ _ h => h)) (fun _ _ h => h)
  have h3 := h.keep t3 (fun i hi e => hgF (e ▸ hi))
  have c0 := S3.cells.c0
  have c2 := S3.cells.c2
  have c3 := S3.cells.c3
  rw [hs.tx] at c0
  rw [hs.at_] at c2
  rw [hs.bk, hs.len, hs.cap] at c3
  have hl3 : (splice bs (n % 4 * 128) r).length = 512 := by rw [length_splice _ _ _ (by omega)]; exact hbs
  have hy3 := splice_by (n % 4 * 128) hs.by_ hy
  obtain ⟨ds, hds⟩ : ∃ ds, splice bs (n % 4 * 128) r = ds := ⟨_, rfl⟩
  have HDS : Hid (splice bs (n % 4 * 128) r = ds) := hds
  rw [hds] at gr hl3 hy3
  clear hds e1 e2 y1 y2 HG3 e3
  go_wp2_with fail
  refine (h3.write a ha (some ⟨g, 0, none⟩) 512 ds (Lies.full gr hl3) hy3 (fun ad e q => by cases e; exact hgF q) hroom hm).mono ?_
  rintro e w4 ⟨F', rfl, T4, t4, f1, f2⟩
  go_wp2_with fail
  go_ret
  refine ⟨F', rfl, by rw [HDS.out]; exact T4, (t3.mono (fun _ _ e => Or.inr e)).trans t4 (fun _ _ q => Or.inl q), fun j hj => (f1 j hj).elim Or.inl (fun q => Or.inr (Nat.le_trans t3.size q)), f2⟩
end Go.Proofs.YtlcjkbhcbiggcaaGreatDoor
