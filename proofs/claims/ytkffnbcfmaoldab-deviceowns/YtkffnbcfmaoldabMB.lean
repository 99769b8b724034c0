/- What is read, blockwise: plain mathematics; sameAll by its contract. -/
import Derived.Test.YtkffnbcfmaoldabMA
namespace Go.Proofs.Ytkffnbcfmaoldab
open Go.RowKit Go.Maps
set_option maxRecDepth 100000

/-- A block of a list of bytes. -/
abbrev blk (l : List Int) (b : Nat) : List Int := (l.drop (512 * b)).take 512
theorem blk_at (l : List Int) (b t : Nat) : (blk l b)[t]? = if t < 512 then l[512 * b + t]? else none := by
  rw [List.getElem?_take]
  by_cases h : t < 512
  · rw [if_pos h, if_pos h, List.getElem?_drop]
  · rw [if_neg h, if_neg h]
theorem splice_at (l d : List Int) (o i : Nat) (h : o + d.length ≤ l.length) : (splice l o d)[i]? = if i < o then l[i]? else if i < o + d.length then d[i - o]? else l[i]? := by
  unfold splice
  have e1 : (l.take o).length = o := by simp; omega
  by_cases h1 : i < o
  · rw [if_pos h1, List.getElem?_append_left (by omega), List.getElem?_take, if_pos h1]
  · rw [if_neg h1, List.getElem?_append_right (by omega), e1]
    by_cases h2 : i < o + d.length
    · rw [if_pos h2, List.getElem?_append_left (by omega)]
    · rw [if_neg h2, List.getElem?_append_right (by omega), List.getElem?_drop]
      congr 1
      omega
theorem blk_lay (l : List Int) (k b : Nat) (d : List Int) (x : Nat) (hl : l.length = 512 * k) (hb : b < k) (hd : d.length = 512) : blk (layB l (b, d)) x = if b = x then d else blk l x := by
  apply List.ext_getElem?
  intro t
  rw [blk_at]
  unfold layB
  rw [splice_at _ _ _ _ (by simp only; omega)]
  simp only
  by_cases ht : t < 512
  · rw [if_pos ht]
    by_cases e : b = x
    · subst e
      rw [if_pos rfl, if_neg (by omega), if_pos (by omega)]
      congr 1
      omega
    · rw [if_neg e, blk_at, if_pos ht]
      by_cases h1 : 512 * x + t < 512 * b
      · rw [if_pos h1]
      · rw [if_neg h1, if_neg (by omega)]
  · rw [if_neg ht]
    by_cases e : b = x
    · rw [if_pos e, List.getElem?_eq_none (by omega)]
    · rw [if_neg e, blk_at, if_neg ht]
theorem rdB_wrote (S : DevS) (b : Nat) (d : List Int) (x : Nat) : rdB (wrote S b d) x = if b = x then d else rdB S x := by
  unfold rdB
  have e1 : newest (wrote S b d).pend x = if b = x then some d else newest S.pend x := newest_snoc S.pend b d x
  rw [e1]
  by_cases e : b = x
  · rw [if_pos e, if_pos e]; rfl
  · rw [if_neg e, if_neg e]; rfl
theorem snoc_ind {α : Type} {P : List α → Prop} (h0 : P []) (h1 : ∀ l a, P l → P (l ++ [a])) : ∀ l, P l := fun l => by
  have q : ∀ l : List α, P l.reverse := fun l => by
    induction l with
    | nil => exact h0
    | cons a l ih => rw [List.reverse_cons]; exact h1 _ _ ih
  simpa using q l.reverse
/-- What is read, is what all writes that pend, laid over, leave. -/
theorem blk_layAll (l : List Int) (k : Nat) (hl : l.length = 512 * k) (hy : ∀ x ∈ l, 0 ≤ x ∧ x ≤ 255) (ps : List (Nat × List Int)) (hp : ∀ p ∈ ps, p.1 < k ∧ p.2.length = 512 ∧ ∀ x ∈ p.2, 0 ≤ x ∧ x ≤ 255) (x : Nat) : blk (layAll l ps) x = (newest ps x).getD (blk l x) := by
  induction ps using snoc_ind with
  | h0 => rfl
  | h1 ps p ih =>
    obtain ⟨b, d⟩ := p
    have ih := ih (fun p hm => hp p (List.mem_append_left _ hm))
    have hq := hp (b, d) (by simp)
    have hg := (layAll_good ps l hl hy (fun p hm => hp p (List.mem_append_left _ hm))).1
    have e1 : layAll l (ps ++ [(b, d)]) = layB (layAll l ps) (b, d) := by unfold layAll; rw [List.foldl_append]; rfl
    rw [e1, blk_lay _ k b d x hg hq.1 hq.2.1, newest_snoc, ih]
    by_cases e : b = x
    · rw [if_pos e, if_pos e]; rfl
    · rw [if_neg e, if_neg e]
theorem rdB_flushed {S : DevS} {k : Nat} (h : Good S k) (x : Nat) : rdB (flushed S) x = rdB S x := blk_layAll S.last k h.len h.by_ S.pend h.pend x
theorem flat_blk (l : List Int) (k : Nat) (hl : l.length = 512 * k) : flatL (blk l) k = l := by
  have : ∀ j, j ≤ k → flatL (blk l) j = l.take (512 * j) := by
    intro j
    induction j with
    | zero => intro _; simp [flatL]
    | succ j ih =>
      intro hj
      rw [flatL_succ, ih (by omega), show 512 * (j + 1) = 512 * j + 512 by omega, List.take_add]
  rw [this k (Nat.le_refl _), List.take_of_length_le (by omega)]
theorem flatL_congr {f g : Nat → List Int} (k : Nat) (h : ∀ b, b < k → f b = g b) : flatL f k = flatL g k := by
  induction k with
  | zero => rfl
  | succ k ih => rw [flatL_succ, flatL_succ, ih (fun b hb => h b (by omega)), h k (by omega)]
/-- All that is read, one block behind the other, is what a flush leaves. -/
theorem flat_rd {S : DevS} {k : Nat} (h : Good S k) : flatL (rdB S) k = (flushed S).last := by
  have e := (Good.flushed h).len
  rw [← flat_blk (flushed S).last k e]
  exact flatL_congr k (fun b _ => (rdB_flushed h b).symm)
theorem Now.congr {B : Nat} {w : World} {v : Value} {k : Nat} {gs : List Nat} {f g : Nat → List Int} (h : Now B w v k gs f) (e : ∀ b, b < k → f b = g b) : Now B w v k gs g :=
  ⟨h.row, h.len, fun b x hx => by rw [← e b (by rw [← h.len]; exact (List.getElem?_eq_some_iff.1 hx).1)]; exact h.dat b x hx, h.out⟩
/-- A block of the list is set anew. -/
theorem Now.set {B : Nat} {w : World} {g cap k : Nat} {gs : List Nat} {f : Nat → List Int} (h : Now B w (.slice (some ⟨g, 0, none⟩) k cap) k gs f) (b x : Nat) (hb : b < k) (d : List Int) (hx : w.heap[x]? = some (bl d)) (hxg : x ≠ g) :
    Now B (w.setCell ⟨g, b, none⟩ (hv x)) (.slice (some ⟨g, 0, none⟩) k cap) k (gs.set b x) (fun y => if b = y then d else f y) := by
  have hT := Turns.cell w g b (hv x)
  have hgo : ∀ y ∈ gs, y ≠ g := fun y hy e => h.out y hy (by rw [e]; rfl)
  refine ⟨?_, by simp [h.len], fun y z hz => ?_, fun y hy e => ?_⟩
  · have hl := h.row.1
    rcases h.row.2 with ⟨e, _⟩ | ⟨g', cap', cur, e, h0, hg, h1, h2, h3, h4⟩
    · cases e
    · cases e
      refine ⟨by simp [h.len], Or.inr ⟨g, cap, cur.setIfInBounds b (hv x), rfl, h0, ?_, h1, h2, by simp [h3], ?_⟩⟩
      · exact heap_setCell_same _ _ _ _ _ _ hg
      · rw [Array.toList_setIfInBounds, List.take_set, h4, List.map_set]
  · rw [List.getElem?_set] at hz
    by_cases e : b = y
    · subst e
      rw [if_pos rfl, if_pos (by rw [h.len]; exact hb)] at hz
      cases hz
      rw [if_pos rfl]
      exact (hT.block x (heap_lt hx) hxg).trans hx
    · rw [if_neg e] at hz
      rw [if_neg e]
      exact (hT.block z (heap_lt (h.dat y z hz)) (hgo z (List.mem_of_getElem? hz))).trans (h.dat y z hz)
  · rcases List.mem_or_eq_of_mem_set hy with q | q
    · exact h.out y q e
    · subst q
      exact hxg (by simpa [Value.ownBlock] using e.symm)
set_option maxHeartbeats 2000000 in
theorem sameAll_any {B : Nat} {w : World} {ao : Option Addr} {k c N db : Nat} {gs : List Nat} {S : DevS} {F : Nat → Prop} (h : Now B w (.slice ao k c) k gs (rdB S)) (hk : k ≤ 64) (hD : Dev w db 0 S k N F) (ho : S.off = false) (h1 : ∀ b, (Value.slice ao k c).ownBlock = some b → ¬ F b) (h2 : ∀ g ∈ gs, ¬ F g) :
    Calls Try.prog 18 #[.pointer (some ⟨db, 0, none⟩), .slice ao k c] w fun e w' => e = .returned (.bool true) ∧ Same0 w w' db S k N F := by
  have hki : (k : Int) ≤ 64 := by omega
  go_enter Try.func18, Try.ntmps18
  go_wp2_with fail
  go_loopw [5] (fun i wr => ∃ j : Nat, j ≤ k ∧ i = .int .i64 j ∧ Same0 w wr db S k N F) (fun i _ => k - (intOf i).toNat)
  case atStart => exact ⟨0, Nat.zero_le _, rfl, hD, Turns.refl _ _⟩
  case round =>
    obtain ⟨j, hj, rfl, q⟩ := hrel
    by_cases hlt : j < k
    · have hji : (j : Int) < k := by omega
      go_wp2_with fail
      refine (read_on q.1 ho j hlt).mono ?_
      rintro e w4 ⟨g4, rfl, o4, D4, t4, _⟩
      have q4 : Same0 w w4 db S k N F := ⟨D4, q.2.trans t4 (fun _ _ h => h)⟩
      obtain ⟨g, cap, x, e, hx, hc, hb⟩ := (h.turns q4.2 h1 h2).at_ hlt
      cases e
      have hrl := rdB_len D4.good hlt
      clear D4 t4 q
      go_wp2_with fail
      refine (same_true _ _ 512 512 512 512 (rdB S j) _ (by omega) (o4.lies hrl) (Lies.full hb hrl)).mono ?_
      rintro e w6 ⟨rfl, t6, rfl⟩
      have b6 : Below w4.heap.size w4 (w4.drewN t6) := Below.drewN (Below.refl _ w4) t6
      have q6 : Same0 w (w4.drewN t6) db S k N F := ⟨q4.1.below b6, q4.2.trans (Turns.drewN F w4 t6) (fun _ _ h => h)⟩
      clear q4 hb hc o4
      generalize w4.drewN t6 = w6 at *
      go_wp2_with (go_at_call 13; refine (num_id _ _).mono ?_; rintro e wn ⟨rfl, hwn⟩; subst wn)
      go_roundw
      case rel => first | exact ⟨j + 1, by omega, by go_num, q6⟩ | (repeat apply Exists.intro); exact And.intro ⟨j + 1, by omega, by go_num, q6⟩ rfl
      case measure => simp [intOf]; omega
    · obtain rfl : j = k := by omega
      go_wp2_with fail
      go_ret
      exact ⟨rfl, q⟩
end Go.Proofs.Ytkffnbcfmaoldab
