/- Plain mathematics: what is read of a device behind writes and flushes; a head is read back. -/
import Derived.Test.YtfmcbjlagdanjaaGreatDoorPk09
import Derived.Test.YtfmcbjlagdanjaaGreatDoorPk12
import Derived.Deep.MidRow
import Derived.BigQuiet
namespace Go.Proofs.YtfmcbjlagdanjaaGreatDoor
open Go.RowKit
set_option maxRecDepth 100000

/-- A block of a list of bytes. -/
abbrev blk (l : List Int) (b : Nat) : List Int := (l.drop (512 * b)).take 512
theorem blk_at (l : List Int) (b t : Nat) : (blk l b)[t]? = if t < 512 then l[512 * b + t]? else none := by
  rw [List.getElem?_take]
  by_cases h : t < 512
  · rw [if_pos h, if_pos h, List.getElem?_drop]
  · rw [if_neg h, if_neg h]
theorem splice_at (l d : List Int) (o i : Nat) (h : o + d.length ≤ l.length) : (splice l o d)[i]? = if i < o then l[i]? else if i < o + d.length then d[i - o]? else l[i]? := by
  unfold splice
  have e1 : (l.take o).length = o := by simp; omega
  by_cases h1 : i < o
  · rw [if_pos h1, List.getElem?_append_left (by omega), List.getElem?_take, if_pos h1]
  · rw [if_neg h1, List.getElem?_append_right (by omega), e1]
    by_cases h2 : i < o + d.length
    · rw [if_pos h2, List.getElem?_append_left (by omega)]
    · rw [if_neg h2, List.getElem?_append_right (by omega), List.getElem?_drop]
      congr 1
      omega
theorem blk_lay (l : List Int) (k b : Nat) (d : List Int) (x : Nat) (hl : l.length = 512 * k) (hb : b < k) (hd : d.length = 512) : blk (layB l (b, d)) x = if b = x then d else blk l x := by
  apply List.ext_getElem?
  intro t
  rw [blk_at]
  unfold layB
  rw [splice_at _ _ _ _ (by simp only; omega)]
  simp only
  by_cases ht : t < 512
  · rw [if_pos ht]
    by_cases e : b = x
    · subst e
      rw [if_pos rfl, if_neg (by omega), if_pos (by omega)]
      congr 1
      omega
    · rw [if_neg e, blk_at, if_pos ht]
      by_cases h1 : 512 * x + t < 512 * b
      · rw [if_pos h1]
      · rw [if_neg h1, if_neg (by omega)]
  · rw [if_neg ht]
    by_cases e : b = x
    · rw [if_pos e, List.getElem?_eq_none (by omega)]
    · rw [if_neg e, blk_at, if_neg ht]
theorem rdB_wrote (S : DevS) (b : Nat) (d : List Int) (x : Nat) : rdB (wrote S b d) x = if b = x then d else rdB S x := by
  unfold rdB
  have e1 : newest (wrote S b d).pend x = if b = x then some d else newest S.pend x := newest_snoc S.pend b d x
  rw [e1]
  by_cases e : b = x
  · rw [if_pos e, if_pos e]; rfl
  · rw [if_neg e, if_neg e]; rfl
theorem snoc_ind {α : Type} {P : List α → Prop} (h0 : P []) (h1 : ∀ l a, P l → P (l ++ [a])) : ∀ l, P l := fun l => by
  have q : ∀ l : List α, P l.reverse := fun l => by
    induction l with
    | nil => exact h0
    | cons a l ih => rw [List.reverse_cons]; exact h1 _ _ ih
  simpa using q l.reverse
/-- What is read, is what all writes that pend, laid over, leave. -/
theorem blk_layAll (l : List Int) (k : Nat) (hl : l.length = 512 * k) (hy : ∀ x ∈ l, 0 ≤ x ∧ x ≤ 255) (ps : List (Nat × List Int)) (hp : ∀ p ∈ ps, p.1 < k ∧ p.2.length = 512 ∧ ∀ x ∈ p.2, 0 ≤ x ∧ x ≤ 255) (x : Nat) : blk (layAll l ps) x = (newest ps x).getD (blk l x) := by
  induction ps using snoc_ind with
  | h0 => rfl
  | h1 ps p ih =>
    obtain ⟨b, d⟩ := p
    have ih := ih (fun p hm => hp p (List.mem_append_left _ hm))
    have hq := hp (b, d) (by simp)
    have hg := (layAll_good ps l hl hy (fun p hm => hp p (List.mem_append_left _ hm))).1
    have e1 : layAll l (ps ++ [(b, d)]) = layB (layAll l ps) (b, d) := by unfold layAll; rw [List.foldl_append]; rfl
    rw [e1, blk_lay _ k b d x hg hq.1 hq.2.1, newest_snoc, ih]
    by_cases e : b = x
    · rw [if_pos e, if_pos e]; rfl
    · rw [if_neg e, if_neg e]
theorem rdB_flushed {S : DevS} {k : Nat} (h : Good S k) (x : Nat) : rdB (flushed S) x = rdB S x := blk_layAll S.last k h.len h.by_ S.pend h.pend x
theorem fold_val : ∀ (l : List Int) (a : Int), l.foldl (fun x c => x * 256 + c) a = a * 256 ^ l.length + val l
  | [], a => by simp [val]
  | c :: l, a => by
    have h1 := fold_val l (a * 256 + c)
    have h2 := fold_val l (0 * 256 + c)
    simp only [List.foldl_cons, val, List.length_cons] at *
    rw [h1, h2, Int.pow_succ]
    have : (a * 256 + c) * 256 ^ l.length = a * (256 ^ l.length * 256) + (0 * 256 + c) * 256 ^ l.length := by
      rw [Int.add_mul, Int.mul_assoc, Int.mul_comm 256 (256 ^ l.length)]; simp
    omega
theorem val_cons (c : Int) (l : List Int) : val (c :: l) = c * 256 ^ l.length + val l := by
  have := fold_val l (0 * 256 + c)
  simp only [val, List.foldl_cons] at *
  rw [this]; simp

theorem p256 (k : Nat) : (256 : Int) ^ k = 2 ^ (8 * k) := by
  rw [Int.pow_mul]; rfl

theorem be_add (c : Int) (m : Nat) (X : Int) : ∀ k, k ≤ m → be (X + c * 2 ^ (8 * m)) k = be X k
  | 0, _ => rfl
  | k + 1, h => by
    simp only [be]
    rw [be_add c m X k (by omega)]
    congr 1
    have hp : (2 : Int) ^ (8 * k) ≠ 0 := Int.ne_of_gt (Int.pow_pos (by decide))
    have e : c * 2 ^ (8 * m) = (c * 2 ^ (8 * (m - k - 1)) * 256) * 2 ^ (8 * k) := by
      rw [Int.mul_assoc, Int.mul_assoc]
      congr 1
      rw [show (256 : Int) = 2 ^ 8 by rfl, ← Int.pow_add, ← Int.pow_add]
      congr 1
      omega
    rw [e, Int.add_mul_ediv_right _ _ hp, Int.add_mul_emod_self_right]

theorem be_val : ∀ (l : List Int), (∀ x ∈ l, 0 ≤ x ∧ x ≤ 255) → be (val l) l.length = l
  | [], _ => rfl
  | c :: l, h => by
    have hc := h c (by simp)
    have hl : ∀ x ∈ l, 0 ≤ x ∧ x ≤ 255 := fun x hx => h x (by simp [hx])
    have hb := val_bd l hl
    rw [val_cons, p256, List.length_cons, be]
    rw [p256] at hb
    have hp : (2 : Int) ^ (8 * l.length) ≠ 0 := Int.ne_of_gt (Int.pow_pos (by decide))
    congr 1
    · rw [Int.add_comm, Int.add_mul_ediv_right _ _ hp, Int.ediv_eq_zero_of_lt hb.1 hb.2]
      omega
    · rw [Int.add_comm, be_add c l.length (val l) l.length (Nat.le_refl _)]
      exact be_val l hl

theorem be_mod (X : Int) (k : Nat) : be X k = be (X % 2 ^ (8 * k)) k := by
  have h := be_add (X / 2 ^ (8 * k)) k (X % 2 ^ (8 * k)) k (Nat.le_refl _)
  rw [Int.mul_comm, Int.emod_add_mul_ediv] at h
  exact h
theorem val_be : ∀ (k : Nat) (X : Int), 0 ≤ X → X < 2 ^ (8 * k) → val (be X k) = X
  | 0, X, h0, h1 => by simp at h1; simp [be, val]; omega
  | k + 1, X, h0, h1 => by
    have hp : (0 : Int) < 2 ^ (8 * k) := Int.pow_pos (by decide)
    rw [be, val_cons, be_length, p256, be_mod X k, val_be k _ (Int.emod_nonneg _ (Int.ne_of_gt hp)) (Int.emod_lt_of_pos _ hp)]
    have hq0 : 0 ≤ X / 2 ^ (8 * k) := Int.ediv_nonneg h0 (Int.le_of_lt hp)
    have hq1 : X / 2 ^ (8 * k) < 256 := by
      rw [Int.ediv_lt_iff_lt_mul hp]
      rw [show 8 * (k + 1) = 8 * k + 8 by omega, Int.pow_add] at h1
      rw [Int.mul_comm]; exact h1
    rw [Int.emod_eq_of_lt hq0 hq1]
    have := Int.emod_add_mul_ediv X (2 ^ (8 * k))
    rw [Int.mul_comm] at this
    omega



theorem jsum_u (l : List Int) : 0 ≤ jsum l ∧ jsum l ≤ 18446744073709551615 := S2.U.fwd (h := 14695981039346656037) l ⟨by decide, by decide⟩
theorem u64_same (x : Int) (h0 : 0 ≤ x) (h1 : x ≤ 4611686018427387905) : IntKind.u64.wrap x = x := Go.IntWalk.u64_in x ⟨h0, by omega⟩
/-- The twenty bytes of a head behind its mark and zeros. -/
theorem head_cut (seq place : Int) : (((jheadB seq place).drop 8).take 20) = be (IntKind.u64.wrap seq) 8 ++ be (IntKind.u64.wrap place) 4 ++ be (jsum (hdB seq place)) 8 := by
  have h : jheadB seq place = ([65, 78, 88, 72] ++ be 0 4) ++ ((be (IntKind.u64.wrap seq) 8 ++ be (IntKind.u64.wrap place) 4 ++ be (jsum (hdB seq place)) 8) ++ List.replicate 484 0) := by
    unfold jheadB fillB
    rw [List.length_append, hdB_len, be_length]
    simp [hdB]
  rw [h, List.drop_left' (by simp [be_length]), List.take_left' (by simp [be_length])]
theorem head_front (seq place : Int) : (jheadB seq place).take 20 = hdB seq place := by
  unfold jheadB fillB
  rw [List.append_assoc, List.take_left' (hdB_len seq place)]
theorem head_back (seq place : Nat) (places : Int) (h0 : 1 ≤ seq) (h1 : seq ≤ 4611686018427387905) (hp : (place : Int) < places) (hq : places ≤ 4096) : (hdR (jheadB seq place) places).1.1 = seq ∧ (hdR (jheadB seq place) places).2.1.1 = place ∧ hdOk (jheadB seq place) places = true := by
  have hs := jsum_u (hdB seq place)
  have e1 := u64_same (seq : Int) (by omega) (by omega)
  have e2 := u64_same (place : Int) (by omega) (by omega)
  have hc := head_cut seq place
  rw [e1, e2] at hc
  have d1 : ((be (seq : Int) 8 ++ be (place : Int) 4 ++ be (jsum (hdB seq place)) 8).drop 0).take 8 = be (seq : Int) 8 := by
    rw [List.drop_zero, List.append_assoc, List.take_left' (be_length _ _)]
  have d2 : ((be (seq : Int) 8 ++ be (place : Int) 4 ++ be (jsum (hdB seq place)) 8).drop 8).take 4 = be (place : Int) 4 := by
    rw [List.append_assoc, List.drop_left' (be_length _ _), List.take_left' (be_length _ _)]
  have d3 : ((be (seq : Int) 8 ++ be (place : Int) 4 ++ be (jsum (hdB seq place)) 8).drop 12).take 8 = be (jsum (hdB seq place)) 8 := by
    rw [List.drop_left' (by simp [be_length]), List.take_of_length_le (by simp [be_length])]
  have a1 : rdNum 8 20 (be (seq : Int) 8 ++ be (place : Int) 4 ++ be (jsum (hdB seq place)) 8) 0 0 4611686018427387905 = ((seq : Int), 8, 0) := by
    unfold rdNum
    rw [if_neg (by simp), if_neg (by omega), d1, val_be 8 _ (by omega) (Int.lt_of_le_of_lt (show (seq : Int) ≤ 4611686018427387905 by omega) (by decide)), if_neg (by omega)]
  have a2 : rdNum 4 20 (be (seq : Int) 8 ++ be (place : Int) 4 ++ be (jsum (hdB seq place)) 8) 8 0 (places - 1) = ((place : Int), 12, 0) := by
    unfold rdNum
    rw [if_neg (by simp), if_neg (by omega), d2, val_be 4 _ (by omega) (Int.lt_of_le_of_lt (show (place : Int) ≤ 4096 by omega) (by decide)), if_neg (by omega)]
  have a3 : rdSum 20 (be (seq : Int) 8 ++ be (place : Int) 4 ++ be (jsum (hdB seq place)) 8) 12 0 = (jsum (hdB seq place), 20, 0) := by
    unfold rdSum
    rw [if_neg (by simp), if_neg (by omega), d3, val_be 8 _ hs.1 (Int.lt_of_le_of_lt hs.2 (by decide))]
  have hR : hdR (jheadB seq place) places = (((seq : Int), 8, 0), ((place : Int), 12, 0), (jsum (hdB seq place), 20, 0)) := by
    unfold hdR
    simp only [hc, a1, a2, a3]
  refine ⟨by rw [hR], by rw [hR], ?_⟩
  unfold hdOk
  rw [hR, head_front]
  have hb : begs (jheadB seq place) [65, 78, 88, 72] = true := by
    unfold begs
    refine decide_eq_true ?_
    have h : jheadB seq place = [65, 78, 88, 72] ++ ((be 0 4 ++ be (IntKind.u64.wrap seq) 8 ++ be (IntKind.u64.wrap place) 4 ++ be (jsum (hdB seq place)) 8) ++ List.replicate 484 0) := by
      unfold jheadB fillB
      rw [List.length_append, hdB_len, be_length]
      simp [hdB]
    rw [h]
    rfl
  rw [hb]
  simp
  omega
theorem rdB_burnt (S : DevS) (x : Nat) : rdB (burnt S) x = rdB S x := by
  unfold burnt
  split <;> rfl
theorem zB_len : zB.length = 512 := by simp [zB]
theorem Good.zrs {S : DevS} {k st : Nat} (h : Good S k) : ∀ p, st + 1 + p ≤ k → Good (zrs S st p) k
  | 0, _ => h
  | p + 1, hp => (Good.zrs h p (by omega)).burnt.wrote (by omega) zB_len zB_by
theorem rdB_zrs {S : DevS} {st x : Nat} : ∀ p, rdB (zrs S st p) x = if st + 1 ≤ x ∧ x < st + 1 + p then zB else rdB S x
  | 0 => by rw [if_neg (by omega)]; rfl
  | p + 1 => by
    show rdB (wrote (burnt (zrs S st p)) (st + 1 + p) zB) x = _
    rw [rdB_wrote, rdB_burnt, rdB_zrs p]
    by_cases e : st + 1 + p = x
    · rw [if_pos e, if_pos (by omega)]
    · rw [if_neg e]
      by_cases c : st + 1 ≤ x ∧ x < st + 1 + p
      · rw [if_pos c, if_pos (by omega)]
      · rw [if_neg c, if_neg (by omega)]
theorem Good.fmt {S : DevS} {k st sz : Nat} (h : Good S k) (h1 : 1 ≤ sz) (h2 : st + sz ≤ k) : Good (fmtS S st sz) k := by
  have g1 := (Good.zrs (st := st) h (sz - 1) (by omega)).burnt.flushed
  exact (g1.burnt.wrote (by omega) (jheadB_len 1 0) (jheadB_by 1 0)).burnt.flushed
/-- What is read behind Format. -/
theorem rdB_fmt {S : DevS} {k st sz : Nat} (h : Good S k) (h1 : 1 ≤ sz) (h2 : st + sz ≤ k) (x : Nat) : rdB (fmtS S st sz) x = if st = x then jheadB 1 0 else if st + 1 ≤ x ∧ x < st + sz then zB else rdB S x := by
  have g0 := (Good.zrs (st := st) h (sz - 1) (by omega)).burnt
  have g1 := g0.flushed
  have g2 := (g1.burnt.wrote (b := st) (by omega) (jheadB_len 1 0) (jheadB_by 1 0)).burnt
  show rdB (flushed (burnt (wrote (burnt (flushed (burnt (zrs S st (sz - 1))))) st (jheadB 1 0)))) x = _
  rw [rdB_flushed g2, rdB_burnt, rdB_wrote, rdB_burnt, rdB_flushed g0, rdB_burnt, rdB_zrs]
  by_cases e : st = x
  · rw [if_pos e, if_pos e]
  · rw [if_neg e, if_neg e]
    by_cases c : st + 1 ≤ x ∧ x < st + sz
    · rw [if_pos c, if_pos (by omega)]
    · rw [if_neg c, if_neg (by omega)]
theorem zB_begs : begs zB [65, 78, 88, 68] = false := by decide
end Go.Proofs.YtfmcbjlagdanjaaGreatDoor

/- The statements' small shape and its layout; shape, num, Plan of it by their contracts. -/
namespace Go.Proofs.YtfmcbjlagdanjaaGreatDoor
open Go.RowKit Go.Maps
set_option maxRecDepth 100000

/-- The shape with so many data blocks. -/
def shp8 (D : Nat) : Shp := ⟨1, 1, 1, 1, 2, 0, D, 27⟩
/-- Its layout. -/
def lay8 (D : Nat) : Lay := ⟨1, 2, 27, 29, 4, 33, 1, 34, 1, 35, D, 35 + D, shp8 D⟩
theorem plan8_e {D : Nat} (h1 : 8 ≤ D) (h2 : D ≤ 500) : planE (shp8 D) = 0 := by
  have hi : InB (shp8 D) := by constructor <;> simp [shp8] <;> omega
  unfold planE
  rw [if_neg (by simpa using hi), if_neg]
  simp [shp8, leastD, layOf]
  omega
theorem plan8_l {D : Nat} (h1 : 8 ≤ D) (h2 : D ≤ 500) : planL (shp8 D) = lay8 D := by
  unfold planL
  rw [if_pos (plan8_e h1 h2)]
  simp [layOf, shp8, lay8]
theorem lay8_ok {D : Nat} (h1 : 8 ≤ D) (h2 : D ≤ 500) : lyOk (lay8 D) = true := by
  have e1 : planE (lay8 D).sh = 0 := plan8_e h1 h2
  have e2 : planL (lay8 D).sh = lay8 D := plan8_l h1 h2
  unfold lyOk
  rw [e1, e2, show lyEq (lay8 D) (lay8 D) = true from decide_eq_true rfl]
  rfl
theorem num8_any (x : Int) (w : World) : Calls Tryz.prog 13 #[.int .i64 x] w fun e w' => e = .returned (.int .i64 x) ∧ w' = w := by
  go_enter Tryz.func13, Tryz.ntmps13
  go_wp2
  go_ret
  exact ⟨rfl, rfl⟩
theorem shape8_any (D : Nat) (w : World) : Calls Tryz.prog 40 #[.int .i64 D] w fun e w' => e = .returned (shV (shp8 D)) ∧ Below w.heap.size w w' := by
  go_enter Tryz.func40, Tryz.ntmps40
  go_wp2
  refine bodyPost_ret (results_cell_row rfl _ _ w.heap.size 27 _ (0, 0) _ rfl (heap_alloc_new w _) Tryz.underlying27 rfl (by kernel_rfl)) rfl ?_
  exact ⟨rfl, (Below.refl _ w).alloc (Nat.le_refl _) _⟩
/-- May a layout have so many? -/
def fitsB (x : Int) : Bool := decide (8 ≤ x ∧ x ≤ 500)
theorem fits8_any (x : Int) (w : World) : Calls Tryz.prog 10 #[.int .i64 x] w fun e w' => e = .returned (.bool (fitsB x)) ∧ w' = w := by
  by_cases h1 : 8 ≤ x
  · by_cases h2 : x ≤ 500
    · have HE : Hid (fitsB x = true) := decide_eq_true (And.intro h1 h2)
      go_enter Tryz.func10, Tryz.ntmps10
      go_wp2
      go_ret
      exact ⟨by rw [HE.out]; rfl, rfl⟩
    · have HE : Hid (fitsB x = false) := decide_eq_false (fun h => h2 h.2)
      go_enter Tryz.func10, Tryz.ntmps10
      go_wp2
      go_ret
      exact ⟨by rw [HE.out]; rfl, rfl⟩
  · have HE : Hid (fitsB x = false) := decide_eq_false (fun h => h1 h.1)
    go_enter Tryz.func10, Tryz.ntmps10
    go_wp2
    go_ret
    exact ⟨by rw [HE.out]; rfl, rfl⟩
set_option maxHeartbeats 1000000 in
/-- Plan of the small shape. -/
theorem plan8_ok {D K : Nat} (h1 : 8 ≤ D) (h2 : D ≤ 500) (hK : 35 + D = K) (w : World) (hB : Bds w) :
    Calls Tryz.prog 39 #[shV (shp8 D)] w fun e w' => e = .returned (.tuple #[.agg #[.int .i64 1, .int .i64 2, .int .i64 27, .int .i64 29, .int .i64 4, .int .i64 33, .int .i64 1, .int .i64 34, .int .i64 1, .int .i64 35, .int .i64 D, .int .i64 K, .int .i64 1, .int .i64 1, .int .i64 1, .int .i64 1, .int .i64 2, .int .i64 0, .int .i64 D, .int .i64 27], .int .i64 0]) ∧ Below w.heap.size w w' := by
  refine (plan_any (shp8 D) w hB).mono ?_
  rintro e w' ⟨rfl, b⟩
  refine ⟨?_, b⟩
  rw [plan8_l h1 h2, plan8_e h1 h2, ← hK]
  rfl
/-- Every block that can be read. -/
theorem Good.reads {S : DevS} {k : Nat} (h : Good S k) (b : Nat) (hb : b < k) : (rdB S b).length = 512 ∧ ∀ x ∈ rdB S b, 0 ≤ x ∧ x ≤ 255 := by
  unfold rdB
  cases hn : newest S.pend b with
  | none =>
    refine ⟨?_, fun x hx => h.by_ x ?_⟩
    · show ((S.last.drop (512 * b)).take 512).length = 512
      have := h.len
      simp
      omega
    · exact List.mem_of_mem_drop (List.mem_of_mem_take (show x ∈ (S.last.drop (512 * b)).take 512 from hx))
  | some d =>
    unfold newest at hn
    rw [Option.map_eq_some_iff] at hn
    obtain ⟨p, hp, rfl⟩ := hn
    have hm := List.mem_of_find?_eq_some hp
    exact (h.pend p (List.mem_reverse.1 hm)).2
theorem rd_zero8 (k b : Nat) (hb : b < k) : rdB (fresh (List.replicate (512 * k) 0)) b = List.replicate 512 0 := by
  show ((List.replicate (512 * k) (0 : Int)).drop (512 * b)).take 512 = _
  rw [List.drop_replicate, List.take_replicate]
  congr 1
  omega
theorem fmtS_off {S : DevS} {st sz : Nat} (h : Lasts S (sz + 2)) (h1 : 1 ≤ sz) : (fmtS S st sz).off = false :=
  ((((zrs_lasts (st := st) (m := 3) (sz - 1) (h.mono (by omega))).burnt.flushed).burnt.wrote st (jheadB 1 0)).burnt.flushed).on
end Go.Proofs.YtfmcbjlagdanjaaGreatDoor

/- A world of the statements, just begun. -/
namespace Go.Proofs.YtfmcbjlagdanjaaGreatDoor
open Go.RowKit Go.Maps
set_option maxRecDepth 100000

theorem Mp.ne {w : World} {bm n b : Nat} {m : List (Nat × Nat)} {cs : Array Value} {t : TypeId} {fr : Nat × Nat} (h : Mp w bm n m) (hc : w.heap[b]? = some (.cells cs t fr)) : b ≠ bm := by
  rintro rfl
  obtain ⟨es, ck, h1, _⟩ := h.own
  rw [hc] at h1
  cases h1
/-- A world of the statements: its block, its transaction. -/
structure Wd (w0 w : World) (wb : Nat) (c : Tc) (D : Nat) : Prop where
  box : w.heap[wb]? = some (.cells #[.int .i64 1, .int .i64 2, .int .i64 27, .int .i64 29, .int .i64 4, .int .i64 33, .int .i64 1, .int .i64 34, .int .i64 1, .int .i64 35, .int .i64 D, .int .i64 (35 + D : Nat), .int .i64 1, .int .i64 1, .int .i64 1, .int .i64 1, .int .i64 2, .int .i64 0, .int .i64 D, .int .i64 27, .pointer (some ⟨c.d, 0, none⟩), .pointer (some ⟨c.jb, 0, none⟩), .pointer (some ⟨c.tb, 0, none⟩), .slice none 0 0] 35 (0, 0))
  fit : LyFit (lay8 D) c D 35
  new : w0.heap.size ≤ wb
  gnew : ∀ i, c.G i → w0.heap.size ≤ i
  jnew : w0.heap.size ≤ c.jb
  tnew : w0.heap.size ≤ c.tb
  mnew : w0.heap.size ≤ c.wm
  nG : ¬ c.G wb
  nm : wb ≠ c.wm
  nt : wb ≠ c.tb
  nj : wb ≠ c.jb
theorem ly8_cells {w : World} {b D K : Nat} (h : w.heap[b]? = some (.cells #[.int .i64 1, .int .i64 2, .int .i64 27, .int .i64 29, .int .i64 4, .int .i64 33, .int .i64 1, .int .i64 34, .int .i64 1, .int .i64 35, .int .i64 D, .int .i64 K, .int .i64 1, .int .i64 1, .int .i64 1, .int .i64 1, .int .i64 2, .int .i64 0, .int .i64 D, .int .i64 27] 29 (0, 0))) : w.cell? ⟨b, 0, none⟩ = some (.int .i64 1) ∧ w.cell? ⟨b, 1, none⟩ = some (.int .i64 2) ∧ w.cell? ⟨b, 2, none⟩ = some (.int .i64 27) ∧ w.cell? ⟨b, 3, none⟩ = some (.int .i64 29) ∧ w.cell? ⟨b, 4, none⟩ = some (.int .i64 4) ∧ w.cell? ⟨b, 5, none⟩ = some (.int .i64 33) ∧ w.cell? ⟨b, 6, none⟩ = some (.int .i64 1) ∧ w.cell? ⟨b, 7, none⟩ = some (.int .i64 34) ∧ w.cell? ⟨b, 8, none⟩ = some (.int .i64 1) ∧ w.cell? ⟨b, 9, none⟩ = some (.int .i64 35) ∧ w.cell? ⟨b, 10, none⟩ = some (.int .i64 (D : Int)) ∧ w.cell? ⟨b, 11, none⟩ = some (.int .i64 (K : Int)) ∧ w.cell? ⟨b, 12, none⟩ = some (.int .i64 1) ∧ w.cell? ⟨b, 13, none⟩ = some (.int .i64 1) ∧ w.cell? ⟨b, 14, none⟩ = some (.int .i64 1) ∧ w.cell? ⟨b, 15, none⟩ = some (.int .i64 1) ∧ w.cell? ⟨b, 16, none⟩ = some (.int .i64 2) ∧ w.cell? ⟨b, 17, none⟩ = some (.int .i64 0) ∧ w.cell? ⟨b, 18, none⟩ = some (.int .i64 (D : Int)) ∧ w.cell? ⟨b, 19, none⟩ = some (.int .i64 27) := by
  refine ⟨?_, ?_, ?_, ?_, ?_, ?_, ?_, ?_, ?_, ?_, ?_, ?_, ?_, ?_, ?_, ?_, ?_, ?_, ?_, ?_⟩ <;> simp [World.cell?, h]
/-- The device behind Format. -/
theorem fmt8 {K M : Nat} (h1 : 43 ≤ K) (hM : 512 * K = M) (hG : Good (fresh (List.replicate M 0)) K) : ∃ S, fmtS (fresh (List.replicate M 0)) 2 27 = S ∧ S.off = false ∧ zB = rdB S 33 ∧ rdB S 2 = jheadB 1 0 ∧ rdB S (2 + 1 + 0 % (27 - 1)) = zB := by
  refine ⟨_, rfl, fmtS_off (S := fresh (List.replicate M 0)) (st := 2) (sz := 27) ⟨rfl, Or.inl rfl⟩ (by omega), ?_, ?_, ?_⟩
  · rw [rdB_fmt hG (by omega) (by omega), if_neg (by omega), if_neg (by omega), ← hM, rd_zero8 K 33 (by omega)]
    rfl
  · rw [rdB_fmt hG (by omega) (by omega), if_pos rfl]
  · rw [rdB_fmt hG (by omega) (by omega), if_neg (by omega), if_pos (by omega)]
/-- What a world is made of. -/
theorem stood_end {w wa : World} {D K db jb bm tb wm N : Nat} {free : Int} {G : Nat → Prop} {S : DevS} (hK : 35 + D = K) (h1 : 8 ≤ D) (h2 : D ≤ 500) (hoff : S.off = false) (hsee : zB = rdB S 33)
    (Ja : Jb wa jb db 2 27 (1 : Nat) (0 : Nat) free bm (some tb)) (Ta : Tb wa tb jb wm (.slice none 0 0) 0) (Ma : Mp wa wm 0 []) (Aa : Mp wa bm 0 []) (Da : Dev wa db 0 S K N G)
    (njG : ¬ G jb) (ntG : ¬ G tb) (nmG : ¬ G wm) (nbG : ¬ G bm) (htj : tb ≠ jb) (hjm : jb ≠ wm) (hbm : bm ≠ wm) (F9 : ∀ i, G i → w.heap.size ≤ i) (hj : w.heap.size ≤ jb) (ht : w.heap.size ≤ tb) (hm : w.heap.size ≤ wm) (b0a : Below w.heap.size w wa) :
    ∃ wb c, (Ending.returned (.pointer (some ⟨wa.heap.size, 0, none⟩)) : Ending) = .returned (.pointer (some ⟨wb, 0, none⟩)) ∧ Wd w (wa.alloc (.cells #[.int .i64 1, .int .i64 2, .int .i64 27, .int .i64 29, .int .i64 4, .int .i64 33, .int .i64 1, .int .i64 34, .int .i64 1, .int .i64 35, .int .i64 D, .int .i64 K, .int .i64 1, .int .i64 1, .int .i64 1, .int .i64 1, .int .i64 2, .int .i64 0, .int .i64 D, .int .i64 27, .pointer (some ⟨db, 0, none⟩), .pointer (some ⟨jb, 0, none⟩), .pointer (some ⟨tb, 0, none⟩), .slice none 0 0] 35)) wb c D ∧ Ts (wa.alloc (.cells #[.int .i64 1, .int .i64 2, .int .i64 27, .int .i64 29, .int .i64 4, .int .i64 33, .int .i64 1, .int .i64 34, .int .i64 1, .int .i64 35, .int .i64 D, .int .i64 K, .int .i64 1, .int .i64 1, .int .i64 1, .int .i64 1, .int .i64 2, .int .i64 0, .int .i64 D, .int .i64 27, .pointer (some ⟨db, 0, none⟩), .pointer (some ⟨jb, 0, none⟩), .pointer (some ⟨tb, 0, none⟩), .slice none 0 0] 35)) c 0 [] zB ∧ Below w.heap.size w (wa.alloc (.cells #[.int .i64 1, .int .i64 2, .int .i64 27, .int .i64 29, .int .i64 4, .int .i64 33, .int .i64 1, .int .i64 34, .int .i64 1, .int .i64 35, .int .i64 D, .int .i64 K, .int .i64 1, .int .i64 1, .int .i64 1, .int .i64 1, .int .i64 2, .int .i64 0, .int .i64 D, .int .i64 27, .pointer (some ⟨db, 0, none⟩), .pointer (some ⟨jb, 0, none⟩), .pointer (some ⟨tb, 0, none⟩), .slice none 0 0] 35)) := by
  obtain ⟨o, ho⟩ : ∃ o : Obj, o = .cells #[.int .i64 1, .int .i64 2, .int .i64 27, .int .i64 29, .int .i64 4, .int .i64 33, .int .i64 1, .int .i64 34, .int .i64 1, .int .i64 35, .int .i64 D, .int .i64 K, .int .i64 1, .int .i64 1, .int .i64 1, .int .i64 1, .int .i64 2, .int .i64 0, .int .i64 D, .int .i64 27, .pointer (some ⟨db, 0, none⟩), .pointer (some ⟨jb, 0, none⟩), .pointer (some ⟨tb, 0, none⟩), .slice none 0 0] 35 := ⟨_, rfl⟩
  rw [← ho]
  have bo : Below wa.heap.size wa (wa.alloc o) := (Below.refl _ wa).alloc (Nat.le_refl _) o
  have to := Below.turns bo (fun _ => False)
  have hbox := heap_alloc_last wa o
  have Jo := (to.block jb (heap_lt Ja) id).trans Ja
  have To := (to.block tb (heap_lt Ta) id).trans Ta
  have Mo := Ma.turns to id
  have Ao := Aa.turns to id
  have Do := Da.below bo
  have hFl := Da.lt
  have hjl := heap_lt Ja
  have htl := heap_lt Ta
  have hml := Ma.lt
  have hsa := b0a.size
  have htm : tb ≠ wm := Ma.ne Ta
  refine ⟨wa.heap.size, ⟨db, S, K, N, G, jb, 2, 27, tb, wm, bm, 33, (1 : Nat), (0 : Nat), free, 0, .slice none 0 0⟩, rfl, ?_, ?_, ?_⟩
  · refine ⟨?_, ⟨rfl, rfl, lay8_ok h1 h2, rfl, by omega, rfl, by omega⟩, hsa, F9, hj, ht, hm, ?_, ?_, ?_, ?_⟩
    · rw [hbox, ho, hK]
    · intro h; have := hFl _ h; omega
    · show wa.heap.size ≠ wm; omega
    · show wa.heap.size ≠ tb; omega
    · show wa.heap.size ≠ jb; omega
  · exact ⟨Do, Jo, To, Mo, Ao, njG, ntG, nmG, nbG, htm, htj, hjm, hbm, hoff, by show 2 + 27 ≤ K; omega, by show 33 < K; omega, Or.inr (by show 2 + 27 ≤ 33; omega), Or.inl rfl, Or.inr ⟨rfl, Or.inr ⟨rfl, hsee⟩⟩, zB_len, zB_by⟩
  · exact b0a.trans (bo.mono hsa)
end Go.Proofs.YtfmcbjlagdanjaaGreatDoor

/- annexlaw8.stood by its contract. -/
namespace Go.Proofs.YtfmcbjlagdanjaaGreatDoor
open Go.RowKit Go.Maps
set_option maxRecDepth 100000

/-- The layout's cells. -/
def LsAt (D K lb : Nat) (w : World) : Prop := w.rangeAt lb 0 [.int .i64 1, .int .i64 2, .int .i64 27, .int .i64 29, .int .i64 4, .int .i64 33, .int .i64 1, .int .i64 34, .int .i64 1, .int .i64 35, .int .i64 D, .int .i64 K, .int .i64 1, .int .i64 1, .int .i64 1, .int .i64 1, .int .i64 2, .int .i64 0, .int .i64 D, .int .i64 27]
theorem LsAt.of {w : World} {b D K : Nat} (h : w.heap[b]? = some (.cells #[.int .i64 1, .int .i64 2, .int .i64 27, .int .i64 29, .int .i64 4, .int .i64 33, .int .i64 1, .int .i64 34, .int .i64 1, .int .i64 35, .int .i64 D, .int .i64 K, .int .i64 1, .int .i64 1, .int .i64 1, .int .i64 1, .int .i64 2, .int .i64 0, .int .i64 D, .int .i64 27] 29 (0, 0))) : LsAt D K b w := by
  intro j v hv
  rw [Nat.zero_add]
  unfold World.cell?
  rw [h]
  show (Array.mk _)[j]? = _
  rw [← Array.getElem?_toList]
  exact hv
theorem LsAt.ld {w : World} {b D K : Nat} (h : LsAt D K b w) : (Instr.loadAt 29 (.pointer (some ⟨b, 0, none⟩))).run Tryz.prog w = .ok (.agg #[.int .i64 1, .int .i64 2, .int .i64 27, .int .i64 29, .int .i64 4, .int .i64 33, .int .i64 1, .int .i64 34, .int .i64 1, .int .i64 35, .int .i64 D, .int .i64 K, .int .i64 1, .int .i64 1, .int .i64 1, .int .i64 1, .int .i64 2, .int .i64 0, .int .i64 D, .int .i64 27]) w :=
  run_loadAt_mid w b 0 29 _ _ h Tryz.underlying29 rfl ly_size
attribute [local go_sem ↓ 100000] ly_store ly_load
attribute [local go_sem] LyStore.new LyStore.drew LyLoad.new LyLoad.drew
set_option maxHeartbeats 8000000 in
theorem stood_ok {D : Nat} (h1 : 8 ≤ D) (h2 : D ≤ 500) (w : World) (hB : Bds w) {er : Nat → Addr} (hE : Errs w er) :
    Calls Tryz.prog 11 #[.int .i64 D, .slice none 0 0] w fun e w' => ∃ wb c, e = .returned (.pointer (some ⟨wb, 0, none⟩)) ∧ Wd w w' wb c D ∧ Ts w' c 0 [] zB ∧ Below w.heap.size w w' := by
  obtain ⟨K, hK⟩ : ∃ K, 35 + D = K := ⟨_, rfl⟩
  obtain ⟨M, hM⟩ : ∃ M, 512 * K = M := ⟨_, rfl⟩
  have hMi : 512 * (K : Int) = M := by omega
  have hKi : ¬ (K : Int) < 1 := by omega
  have hK9 : (K : Int) ≤ 535 := by omega
  obtain ⟨i0, hi, hz0, hz1, hz2⟩ := info_parts Tryz.info5
  have HK : Hid (35 + D = K ∧ 512 * K = M) := ⟨hK, hM⟩
  have hMb : M ≤ 273920 := by omega
  clear hK hM
  go_enter Tryz.func11, Tryz.ntmps11
  go_wp2_with fail
  refine (shape8_any D w).mono ?_
  rintro e w1 ⟨rfl, b1⟩
  go_wp2_with fail
  refine (plan8_ok h1 h2 HK.out.1 w1 (hB.later b1 (Nat.le_refl _))).mono ?_
  rintro e w2 ⟨rfl, b2⟩
  have b02 := b1.trans (b2.mono b1.size)
  obtain ⟨W3, hW3⟩ : ∃ W, w2.alloc (.cells #[.int .i64 1, .int .i64 2, .int .i64 27, .int .i64 29, .int .i64 4, .int .i64 33, .int .i64 1, .int .i64 34, .int .i64 1, .int .i64 35, .int .i64 D, .int .i64 K, .int .i64 1, .int .i64 1, .int .i64 1, .int .i64 1, .int .i64 2, .int .i64 0, .int .i64 D, .int .i64 27] 29) = W := ⟨_, rfl⟩
  have b3 : Below w2.heap.size w2 W3 := by rw [← hW3]; exact (Below.refl _ w2).alloc (Nat.le_refl _) _
  have L3 : W3.heap[w2.heap.size]? = some (.cells #[.int .i64 1, .int .i64 2, .int .i64 27, .int .i64 29, .int .i64 4, .int .i64 33, .int .i64 1, .int .i64 34, .int .i64 1, .int .i64 35, .int .i64 D, .int .i64 K, .int .i64 1, .int .i64 1, .int .i64 1, .int .i64 1, .int .i64 2, .int .i64 0, .int .i64 D, .int .i64 27] 29 (0, 0)) := by rw [← hW3]; exact heap_alloc_last w2 _
  have b03 := b02.trans (b3.mono b02.size)
  go_wp2_with fail
  try rw [hW3]
  obtain ⟨lb, hlb⟩ : ∃ lb, w2.heap.size = lb := ⟨_, rfl⟩
  rw [hlb] at L3
  have q11 : W3.cell? ⟨lb, 11, none⟩ = some (.int .i64 (K : Int)) := by simp [World.cell?, L3]
  refine (num8_any _ _).mono ?_
  rintro e w4 ⟨rfl, hw4⟩
  subst w4
  clear hW3
  obtain ⟨W5, hW5⟩ : ∃ W, W3.alloc (.cells (madeCells #[.int .u8 0] M) 5) = W := ⟨_, rfl⟩
  have b5 : Below W3.heap.size W3 W5 := by rw [← hW5]; exact (Below.refl _ W3).alloc (Nat.le_refl _) _
  have Z5 := zeros_bl W3 M
  rw [hW5] at Z5
  have L5 := (b5.block _ (heap_lt L3)).trans L3
  obtain ⟨zb, hzb⟩ : ∃ zb, W3.heap.size = zb := ⟨_, rfl⟩
  rw [hzb] at Z5
  have b05 := b03.trans (b5.mono b03.size)
  go_wp2_with (at_make; refine wpList_make_row _ rfl _ _ 66 rfl 5 i0 (.int .u8 0) Tryz.underlying66 hi hz0 hz1 rfl _ _ M rfl rfl (by rw [hz2]; omega) (by omega) ?_; rw [hW5])
  go_loopw [8] (fun i wr => i = .int .i64 0 ∧ wr = W5) (fun _ _ => 0)
  case atStart => exact ⟨rfl, rfl⟩
  case round =>
    obtain ⟨rfl, hwr⟩ := hrel
    subst wr
    go_wp2_with fail
    have hz : ∀ x ∈ List.replicate M (0 : Int), 0 ≤ x ∧ x ≤ 255 := fun x hx => by have := List.eq_of_mem_replicate hx; omega
    have hI := image_good (some ⟨zb, 0, none⟩) K M (List.replicate M 0) W5 (by have := HK.out; omega) (by have := HK.out; omega) (by rw [HK.out.2]; exact Lies.full Z5 (by simp)) hz
    rw [HK.out.2] at hI
    refine hI.mono ?_
    rintro e w6 ⟨db, rfl, D6, b6⟩
    have s6 := b6.size
    have L6 := (b6.block _ (heap_lt L5)).trans L5
    have b06 := b05.trans (b6.mono b05.size)
    have F6 : ∀ i, grow (fun _ => False) W5 w6 i → w.heap.size ≤ i := fun i h => h.elim False.elim (fun h => by have := b05.size; omega)
    have nl6 : ¬ grow (fun _ => False) W5 w6 lb := fun h => h.elim id (fun h => by have := heap_lt L5; omega)
    have q1 : w6.cell? ⟨lb, 1, none⟩ = some (.int .i64 2) := by simp [World.cell?, L6]
    have q2 : w6.cell? ⟨lb, 2, none⟩ = some (.int .i64 27) := by simp [World.cell?, L6]
    clear hI
    go_wp2_with fail
    refine (num8_any _ _).mono ?_
    rintro e w7 ⟨rfl, hw7⟩
    subst w7
    go_wp2_with fail
    have HS := fmt8 (K := K) (M := M) (by have := HK.out; omega) HK.out.2 D6.good
    refine (format_ok D6 2 27 (by omega) (by have := HK.out; omega) ⟨rfl, Or.inl rfl⟩ (by omega)).mono ?_
    rintro e w8 ⟨rfl, D8, t8⟩
    have s8 := t8.size
    have L8 := (t8.block _ (heap_lt L6) nl6).trans L6
    have b68 : Below w.heap.size w6 w8 := t8.below F6 b06.size
    have b08 := b06.trans b68
    have F8 : ∀ i, grow (grow (fun _ => False) W5 w6) w6 w8 i → w.heap.size ≤ i := fun i h => h.elim (F6 i) (fun h => by have := b06.size; omega)
    have nl8 : ¬ grow (grow (fun _ => False) W5 w6) w6 w8 lb := fun h => h.elim nl6 (fun h => by have := heap_lt L6; omega)
    have x1 : w8.cell? ⟨lb, 1, none⟩ = some (.int .i64 2) := by simp [World.cell?, L8]
    have x2 : w8.cell? ⟨lb, 2, none⟩ = some (.int .i64 27) := by simp [World.cell?, L8]
    obtain ⟨S, hS, hoff, hsee, hr2, hr3⟩ := HS
    rw [hS] at D8
    clear hS
    have HX : Hid (zB = rdB S 33 ∧ rdB S 2 = jheadB 1 0 ∧ rdB S (2 + 1 + 0 % (27 - 1)) = zB) := ⟨hsee, hr2, hr3⟩
    clear hsee hr2 hr3
    have HO : Hid (Calls Tryz.prog 29 #[.pointer (some ⟨db, 0, none⟩), .int .i64 (2 : Nat), .int .i64 (27 : Nat)] w8 fun e w' => ∃ jb bm, e = .returned (.tuple #[.pointer (some ⟨jb, 0, none⟩), .int .i64 0, .int .i64 0]) ∧ w8.heap.size ≤ jb ∧ w8.heap.size ≤ bm ∧ Jb w' jb db 2 27 (1 : Nat) (0 : Nat) ((27 : Nat) - 1) bm none ∧ Mp w' bm 0 [] ∧ (∃ G, Dev w' db 0 S K (0 + 27) G ∧ (∀ i, G i → grow (grow (fun _ => False) W5 w6) w6 w8 i ∨ w8.heap.size ≤ i) ∧ ¬ G jb ∧ ¬ G bm) ∧ Turns (grow (grow (fun _ => False) W5 w6) w6 w8) w8 w') := by
      have hr2 := HX.out.2.1
      have hr3 := HX.out.2.2
      have hh := head_back 1 0 ((27 : Nat) - 1) (by omega) (by omega) (by omega) (by omega)
      refine open_empty D8 2 27 (by omega) (by have := HK.out; omega) hoff (fun w' t => hE.below (b08.trans (t.below F8 b08.size)) (Nat.le_refl _)) 1 0 ?_ ?_ (by omega) (by omega) ?_ (fun b hb => D8.good.reads b hb)
      · rw [hr2]; exact ⟨hh.1, hh.2.1⟩
      · rw [hr2]; exact hh.2.2
      · rw [hr3]; exact zB_begs
    clear q1 q2
    go_wp2_with fail
    refine HO.out.mono ?_
    rintro e w9 ⟨jb, bm, rfl, ljb, lbm, J9, M9, ⟨G, D9, hG9, njG, nbG⟩, t9⟩
    have s9 := t9.size
    have L9 := (t9.block _ (heap_lt L8) nl8).trans L8
    have b89 : Below w.heap.size w8 w9 := t9.below F8 b08.size
    have b09 := b08.trans b89
    have F9 : ∀ i, G i → w.heap.size ≤ i := fun i h => (hG9 i h).elim (F8 i) (fun h => by have := b08.size; omega)
    clear HO x1 x2
    go_wp2_with fail
    refine (num8_any _ _).mono ?_
    rintro e wa ⟨rfl, hwa⟩
    subst wa
    go_wp2_with fail
    refine (num8_any _ _).mono ?_
    rintro e wa ⟨rfl, hwa⟩
    subst wa
    have hld := LsAt.of (D := D) (K := K) L9
    have hld1 := LsAt.of (D := D) (K := K) (w := w9.drew) L9
    have hm : ∀ w', LsAt D K lb w' → (Instr.loadAt 29 (.pointer (some ⟨lb, 0, none⟩))).run Tryz.prog w' = .ok (.agg #[.int .i64 1, .int .i64 2, .int .i64 27, .int .i64 29, .int .i64 4, .int .i64 33, .int .i64 1, .int .i64 34, .int .i64 1, .int .i64 35, .int .i64 D, .int .i64 K, .int .i64 1, .int .i64 1, .int .i64 1, .int .i64 1, .int .i64 2, .int .i64 0, .int .i64 D, .int .i64 27]) w' := fun _ h => h.ld
    have nlG : ¬ G lb := fun h => (hG9 lb h).elim nl8 (fun h => by have := heap_lt L8; omega)
    have nlj : lb ≠ jb := fun e => by have := heap_lt L8; omega
    go_wp2_with fail
    refine wp_region_held_drew (S := LsAt D K lb) (by kernel_rfl) hld1 (fun hHeld => ?_)
    refine wpAnyH_take (i := 0) (oi := ⟨some 94, .load 29 (.tmp 5), 29, "world.go:53", #[], none⟩) (v := .agg #[.int .i64 1, .int .i64 2, .int .i64 27, .int .i64 29, .int .i64 4, .int .i64 33, .int .i64 1, .int .i64 34, .int .i64 1, .int .i64 35, .int .i64 D, .int .i64 K, .int .i64 1, .int .i64 1, .int .i64 1, .int .i64 1, .int .i64 2, .int .i64 0, .int .i64 D, .int .i64 27]) rfl (by kernel_rfl) (by kernel_rfl) (by kernel_rfl) (fun _ _ _ h => h) (yieldsIf_load_mid (by rfl) _ _ rfl _ _ rfl [.int .i64 1, .int .i64 2, .int .i64 27, .int .i64 29, .int .i64 4, .int .i64 33, .int .i64 1, .int .i64 34, .int .i64 1, .int .i64 35, .int .i64 D, .int .i64 K, .int .i64 1, .int .i64 1, .int .i64 1, .int .i64 1, .int .i64 2, .int .i64 0, .int .i64 D, .int .i64 27] _ (fun _ h => h) Tryz.underlying29 rfl ly_size) hHeld ?_
    simp only [Act.put, List.setIfInBounds_toArray, List.set_cons_zero, List.set_cons_succ]
    refine wpAnyH_take (i := 1) (oi := ⟨some 95, .move (.tmp 9), 30, "world.go:53", #[], none⟩) (v := .pointer (some ⟨db, 0, none⟩)) rfl (by kernel_rfl) (by kernel_rfl) (by kernel_rfl) (fun _ _ _ h => h) (Or.inl ⟨by rfl, fun _ _ => rfl⟩) hHeld ?_
    simp only [Act.put, List.setIfInBounds_toArray, List.set_cons_zero, List.set_cons_succ]
    refine wpAnyH_take (i := 2) (oi := ⟨some 96, .move (.tmp 12), 31, "world.go:53", #[], none⟩) (v := .pointer (some ⟨jb, 0, none⟩)) rfl (by kernel_rfl) (by kernel_rfl) (by kernel_rfl) (fun _ _ _ h => h) (Or.inl ⟨by rfl, fun _ _ => rfl⟩) hHeld ?_
    simp only [Act.put, List.setIfInBounds_toArray, List.set_cons_zero, List.set_cons_succ]
    refine wpAnyH_take (i := 3) (oi := ⟨some 97, .move (.tmp 12), 31, "world.go:53", #[], none⟩) (v := .pointer (some ⟨jb, 0, none⟩)) rfl (by kernel_rfl) (by kernel_rfl) (by kernel_rfl) (fun _ _ _ h => h) (Or.inl ⟨by rfl, fun _ _ => rfl⟩) hHeld ?_
    simp only [Act.put, List.setIfInBounds_toArray, List.set_cons_zero, List.set_cons_succ]
    refine wpAnyH_ready (rs := [4]) (by kernel_rfl) (by simp) ?_
    refine AllReadyH.cons (o := ⟨some 98, .call ⟨.value (.func 30), #[.tmp 97], #[31]⟩, 32, "world.go:53", #[⟨3, .data⟩], none⟩) rfl (fun KK hK => ?_) AllReadyH.nil
    go_simp
    refine (begin_ok (w := w9.drew) D9.drew J9 njG hoff).mono ?_
    rintro e wa ⟨tb, wm, rfl, ltb, lwm, Ja, Ta, Ma, Da, ta⟩
    have ta : Turns (fun i => G i ∨ i = jb) w9 wa := ta.fromDrew
    have La := (ta.block lb (heap_lt L9) (fun h => h.elim nlG nlj)).trans L9
    have hld2 := LsAt.of (D := D) (K := K) La
    go_wp2_with fail
    refine hK.out _ _ hld2 (fun hHeld => ?_)
    clear hK KK
    try simp only [Act.put, List.setIfInBounds_toArray, List.set_cons_zero, List.set_cons_succ]
    refine wpAnyH_ready (rs := [5]) (by kernel_rfl) (by simp) ?_
    refine AllReadyH.cons (o := ⟨some 99, .build 35 #[(0, .tmp 94), (1, .tmp 95), (2, .tmp 96), (3, .tmp 98)], 35, "world.go:53", #[⟨0, .data⟩, ⟨1, .data⟩, ⟨2, .data⟩, ⟨4, .data⟩], none⟩) rfl (fun KK hK => ?_) AllReadyH.nil
    go_simp
    refine hK.out _ _ hld2 (fun hHeld => ?_)
    clear hK KK
    try simp only [Act.put, List.setIfInBounds_toArray, List.set_cons_zero, List.set_cons_succ]
    refine wpAnyH_ready (rs := [6]) (by kernel_rfl) (by simp) ?_
    refine AllReadyH.cons (o := ⟨some 100, .box 35 (.tmp 99), 24, "world.go:53", #[⟨5, .data⟩], none⟩) rfl (fun KK hK => ?_) AllReadyH.nil
    go_simp
    refine hK.out _ _ (LsAt.of ((((Below.refl _ wa).alloc (Nat.le_refl _) _).block lb (heap_lt La)).trans La)) (fun hHeld => ?_)
    clear hK KK
    try simp only [Act.put, List.setIfInBounds_toArray, List.set_cons_zero, List.set_cons_succ]
    refine wpAnyH_ready (rs := [7]) (by kernel_rfl) (by simp) ?_
    refine AllReadyH.cons (o := ⟨some 4, .assign (.tmp 100), 24, "world.go:53", #[⟨6, .data⟩, ⟨4, .chain⟩, ⟨0, .phase⟩, ⟨1, .phase⟩, ⟨2, .phase⟩, ⟨3, .phase⟩, ⟨4, .phase⟩, ⟨5, .phase⟩, ⟨6, .phase⟩], none⟩) rfl (fun KK hK => ?_) AllReadyH.nil
    go_simp
    refine hK.out _ _ hHeld (fun hHeld => ?_)
    clear hK KK
    try simp only [Act.put, List.setIfInBounds_toArray, List.set_cons_zero, List.set_cons_succ]
    refine wpAnyH_done (by kernel_rfl) ?_ _
    clear hHeld
    have hbj : jb ≠ bm := M9.ne J9
    have Aa := M9.turns ta (fun h => h.elim nbG (fun e => hbj e.symm))
    have hFl := D9.lt
    have hjl := heap_lt J9
    have hbl := M9.lt
    have ltb' : w9.heap.size ≤ tb := ltb
    have lwm' : w9.heap.size ≤ wm := lwm
    have b9a : Below w.heap.size w9 wa := ta.below (fun i h => h.elim (F9 i) (fun e => by have := b08.size; omega)) b09.size
    have b0a := b09.trans b9a
    have s0 := b08.size
    have HE := stood_end (w := w) HK.out.1 h1 h2 hoff HX.out.1 Ja Ta Ma Aa Da njG (fun h => by have := hFl _ h; omega) (fun h => by have := hFl _ h; omega) nbG (by omega) (by omega) (by omega) F9 (by omega) (by omega) (by omega) b0a
    clear hld hld1 hld2 Ja Ta Ma Aa Da HX
    go_wp2_with fail
    go_ret
    obtain ⟨wb, c, hw, HA, HT, HL⟩ := HE
    refine ⟨wb, c, ?_, ?_, ?_, ?_⟩
    · exact hw
    · with_reducible exact HA
    · with_reducible exact HT
    · with_reducible exact HL
end Go.Proofs.YtfmcbjlagdanjaaGreatDoor

/- What is read of a world's block; which bits are told. -/
namespace Go.Proofs.YtfmcbjlagdanjaaGreatDoor
open Go.RowKit Go.Maps
set_option maxRecDepth 100000

theorem Wd.later {w0 w w' : World} {wb : Nat} {c : Tc} {D : Nat} (h : Wd w0 w wb c D) (t : Turns (fun i => c.G i ∨ i = c.wm) w w') : Wd w0 w' wb c D :=
  { h with box := (t.block wb (heap_lt h.box) (fun q => q.elim h.nG h.nm)).trans h.box }
theorem Wd.ended {w0 w w' : World} {wb : Nat} {c : Tc} {D : Nat} (h : Wd w0 w wb c D) (t : Turns (fun i => c.G i ∨ i = c.tb ∨ i = c.jb) w w') : Wd w0 w' wb c D :=
  { h with box := (t.block wb (heap_lt h.box) (fun q => q.elim h.nG (fun q => q.elim h.nt h.nj))).trans h.box }
theorem Wd.below {w0 w w' : World} {wb : Nat} {c : Tc} {D : Nat} (h : Wd w0 w wb c D) (b : Below w.heap.size w w') : Wd w0 w' wb c D :=
  { h with box := (b.block wb (heap_lt h.box)).trans h.box }
theorem Wd.t {w0 w : World} {wb : Nat} {c : Tc} {D : Nat} (h : Wd w0 w wb c D) : w.cell? ⟨wb, 22, none⟩ = some (.pointer (some ⟨c.tb, 0, none⟩)) := by simp [World.cell?, h.box]
theorem Wd.bi {w0 w : World} {wb : Nat} {c : Tc} {D : Nat} (h : Wd w0 w wb c D) : w.cell? ⟨wb, 5, none⟩ = some (.int .i64 33) := by simp [World.cell?, h.box]
theorem Wd.bl {w0 w : World} {wb : Nat} {c : Tc} {D : Nat} (h : Wd w0 w wb c D) : w.cell? ⟨wb, 6, none⟩ = some (.int .i64 1) := by simp [World.cell?, h.box]
theorem Wd.dt {w0 w : World} {wb : Nat} {c : Tc} {D : Nat} (h : Wd w0 w wb c D) : w.cell? ⟨wb, 9, none⟩ = some (.int .i64 35) := by simp [World.cell?, h.box]
theorem Wd.dl {w0 w : World} {wb : Nat} {c : Tc} {D : Nat} (h : Wd w0 w wb c D) : w.cell? ⟨wb, 10, none⟩ = some (.int .i64 (D : Int)) := by simp [World.cell?, h.box]
theorem ld_wd {w0 w : World} {wb : Nat} {c : Tc} {D : Nat} (h : Wd w0 w wb c D) : (Instr.loadAt 29 (.pointer (some ⟨wb, 0, none⟩))).run Tryz.prog w = .ok (lyV (lay8 D)) w := by
  have hc : w.rangeAt wb 0 [.int .i64 1, .int .i64 2, .int .i64 27, .int .i64 29, .int .i64 4, .int .i64 33, .int .i64 1, .int .i64 34, .int .i64 1, .int .i64 35, .int .i64 D, .int .i64 (35 + D : Nat), .int .i64 1, .int .i64 1, .int .i64 1, .int .i64 1, .int .i64 2, .int .i64 0, .int .i64 D, .int .i64 27] := by
    intro j v hv
    have hj : j < 20 := (List.getElem?_eq_some_iff.1 hv).1
    rw [Nat.zero_add]
    unfold World.cell?
    rw [h.box]
    show (Array.mk _)[j]? = _
    rw [← Array.getElem?_toList]
    exact (List.getElem?_append_left (l₁ := ([.int .i64 1, .int .i64 2, .int .i64 27, .int .i64 29, .int .i64 4, .int .i64 33, .int .i64 1, .int .i64 34, .int .i64 1, .int .i64 35, .int .i64 D, .int .i64 (35 + D : Nat), .int .i64 1, .int .i64 1, .int .i64 1, .int .i64 1, .int .i64 2, .int .i64 0, .int .i64 D, .int .i64 27] : List Value)) (l₂ := ([.pointer (some ⟨c.d, 0, none⟩), .pointer (some ⟨c.jb, 0, none⟩), .pointer (some ⟨c.tb, 0, none⟩), .slice none 0 0] : List Value)) hj).trans hv
  exact run_loadAt_mid w wb 0 29 _ _ hc Tryz.underlying29 rfl ly_size
theorem Wd.ld {w0 w : World} {wb : Nat} {c : Tc} {D : Nat} (h : Wd w0 w wb c D) (o : Oper) (a : Act) (next : Act → World → Prop) (Q : Exit → Act → World → Prop) :
    LyLoad (.pointer (some ⟨wb, 0, none⟩)) o a w next Q = next (a.put o.dst (lyV (lay8 D))) w := by
  unfold LyLoad Oper.wp execOp
  simp only [Act.eval, Sem.run_bind, ld_wd h, Result.andThen_ok, Sem.run_pure]
  rfl
/-- A layout's load as the regions meet it. -/
def LyEx (p : Value) : Sem Next := do pure (.value (← Instr.loadAt 29 p))
theorem ex_load (ev : Operand → Value) (d : Option Tmp) (x : Operand) (t : TypeId) (p : String) (f : Array Edge) (g : Option (Nat × Bool)) : execOp ev ⟨d, .load 29 x, t, p, f, g⟩ = LyEx (ev x) := rfl
theorem Wd.s {w0 w : World} {wb : Nat} {c : Tc} {D : Nat} (h : Wd w0 w wb c D) : w.cell? ⟨wb, 22, none⟩ = some (.pointer (some ⟨c.tb, 0, none⟩)) ∧ (LyEx (.pointer (some ⟨wb, 0, none⟩))).run Tryz.prog w = .ok (.value (lyV (lay8 D))) w := ⟨h.t, by
  unfold LyEx
  simp only [Sem.run_bind, ld_wd h, Result.andThen_ok, Sem.run_pure]⟩
theorem Wd.s2 {w0 w : World} {wb : Nat} {c : Tc} {D : Nat} (h : Wd w0 w wb c D) : w.cell? ⟨wb, 9, none⟩ = some (.int .i64 35) ∧ w.cell? ⟨wb, 10, none⟩ = some (.int .i64 (D : Int)) := ⟨h.dt, h.dl⟩
theorem Wd.drew {w0 w : World} {wb : Nat} {c : Tc} {D : Nat} (h : Wd w0 w wb c D) : Wd w0 w.drew wb c D := { h with box := h.box }
theorem Ts.drew {w : World} {c : Tc} {n : Nat} {m : List (Nat × Nat)} {bs : List Int} (h : Ts w c n m bs) : Ts w.drew c n m bs := h.turns (Turns.drewN c.G w 1) h.dev.drew
theorem Bds.drew {w : World} (h : Bds w) : Bds w.drew := ⟨h.c0, h.c1, h.c2, h.c3, h.c4, h.c5, h.c6, h.c7, h.c8, h.c9, h.c10, h.c11, h.c12, h.c13, h.c14, h.c15⟩
theorem Wd.turned {w0 w w' : World} {wb : Nat} {c : Tc} {D : Nat} (h : Wd w0 w wb c D) (t : Turns (fun i => c.G i ∨ i = c.wm) w w') (hs : w0.heap.size ≤ w.heap.size) : Below w0.heap.size w w' :=
  t.below (fun _ q => q.elim (h.gnew _) (fun e => e ▸ h.mnew)) hs
theorem Wd.turnedE {w0 w w' : World} {wb : Nat} {c : Tc} {D : Nat} (h : Wd w0 w wb c D) (t : Turns (fun i => c.G i ∨ i = c.tb ∨ i = c.jb) w w') (hs : w0.heap.size ≤ w.heap.size) : Below w0.heap.size w w' :=
  t.below (fun _ q => q.elim (h.gnew _) (fun q => q.elim (fun e => e ▸ h.tnew) (fun e => e ▸ h.jnew))) hs
theorem cntB_all {bs : List Int} : ∀ {n : Nat}, (∀ j, j < n → bitB bs j = true) → cntB bs n = n
  | 0, _ => rfl
  | n + 1, h => by
    unfold cntB
    rw [cntB_all (fun j hj => h j (by omega)), h n (by omega)]
    rfl
theorem low_k0 : lowZ zB 20 = (0 : Nat) := by decide +kernel
theorem low_k1 : lowZ (flipB zB 0) 20 = (1 : Nat) := by decide +kernel
theorem bit_k2 : bitB (flipB (flipB zB 0) 1) 0 = true := by decide +kernel
theorem low_k3 : lowZ (flipB (flipB (flipB zB 0) 1) 0) 20 = (0 : Nat) := by decide +kernel
theorem cnt_k4 : cntB (flipB (flipB (flipB (flipB zB 0) 1) 0) 0) 20 = 2 := by decide +kernel
end Go.Proofs.YtfmcbjlagdanjaaGreatDoor

/- annexlaw8.known by its contract. -/
namespace Go.Proofs.YtfmcbjlagdanjaaGreatDoor
open Go.RowKit Go.Maps
set_option maxRecDepth 100000

attribute [local go_sem ↓ 100000] ly_store ly_load ex_load
set_option maxHeartbeats 4000000 in
theorem known_ok (w : World) (hB : Bds w) {er : Nat → Addr} (hE : Errs w er) :
    Calls Tryz.prog 9 #[] w fun e w' => e = .returned (.bool true) ∧ Below w.heap.size w w' := by
  go_enter Tryz.func9, Tryz.ntmps9
  go_wp2_with fail
  refine (stood_ok (D := 20) (by omega) (by omega) w hB hE).mono ?_
  rintro e w1 ⟨wb, c, rfl, A1, T1, b1⟩
  have s1 := b1.size
  have x1 := A1.t
  have q1 := A1.drew.s
  go_wp2_with fail
  have B1 : Bds w1.drew := (hB.later b1 (Nat.le_refl _)).drew
  go_region_held3 (fun w' => w'.cell? ⟨wb, 22, none⟩ = some (.pointer (some ⟨c.tb, 0, none⟩)) ∧ (LyEx (.pointer (some ⟨wb, 0, none⟩))).run Tryz.prog w' = .ok (.value (lyV (lay8 20))) w')
    (first | with_reducible exact q1 | with_reducible exact q2)
    (first
      | (go_at_call 12; refine (alloc_ok T1.drew A1.fit B1 0 (by omega) low_k0 (by omega)).mono ?_; rintro e w2 ⟨g2, rfl, T2, t2⟩; have t2 := t2.fromDrew; have A2 := A1.later t2; have q2 := A2.s))
  have b2 := b1.trans (A1.turned t2 s1)
  have s2 := b2.size
  have x2 := A2.t
  have q2 := A2.drew.s
  clear x1 q1 A1 T1 b1 t2 B1 s1
  go_wp2_with fail
  have B2 : Bds w2.drew := (hB.later b2 (Nat.le_refl _)).drew
  go_region_held3 (fun w' => w'.cell? ⟨wb, 22, none⟩ = some (.pointer (some ⟨c.tb, 0, none⟩)) ∧ (LyEx (.pointer (some ⟨wb, 0, none⟩))).run Tryz.prog w' = .ok (.value (lyV (lay8 20))) w')
    (first | with_reducible exact q2 | with_reducible exact q3)
    (first
      | (go_at_call 12; refine (alloc_ok T2.drew A2.fit B2 1 (by omega) low_k1 (by omega)).mono ?_; rintro e w3 ⟨g3, rfl, T3, t3⟩; have t3 := t3.fromDrew; have A3 := A2.later t3; have q3 := A3.s))
  have b3 := b2.trans (A2.turned t3 s2)
  have s3 := b3.size
  have x3 := A3.t
  have q3 := A3.drew.s
  clear x2 q2 A2 T2 b2 t3 B2 s2
  go_wp2_with fail
  have B3 : Bds w3.drew := (hB.later b3 (Nat.le_refl _)).drew
  go_region_held3 (fun w' => w'.cell? ⟨wb, 22, none⟩ = some (.pointer (some ⟨c.tb, 0, none⟩)) ∧ (LyEx (.pointer (some ⟨wb, 0, none⟩))).run Tryz.prog w' = .ok (.value (lyV (lay8 20))) w')
    (first | with_reducible exact q3 | with_reducible exact q4)
    (first
      | (go_at_call 14; refine (free_ok T3.drew A3.fit B3 0 (by omega) bit_k2 (by omega)).mono ?_; rintro e w4 ⟨g4, rfl, T4, t4⟩; have t4 := t4.fromDrew; have A4 := A3.later t4; have q4 := A4.s))
  have b4 := b3.trans (A3.turned t4 s3)
  have s4 := b4.size
  have x4 := A4.t
  have q4 := A4.drew.s
  clear x3 q3 A3 T3 b3 t4 B3 s3
  go_wp2_with fail
  have B4 : Bds w4.drew := (hB.later b4 (Nat.le_refl _)).drew
  go_region_held3 (fun w' => w'.cell? ⟨wb, 22, none⟩ = some (.pointer (some ⟨c.tb, 0, none⟩)) ∧ (LyEx (.pointer (some ⟨wb, 0, none⟩))).run Tryz.prog w' = .ok (.value (lyV (lay8 20))) w')
    (first | with_reducible exact q4 | with_reducible exact q5)
    (first
      | (go_at_call 12; refine (alloc_ok T4.drew A4.fit B4 0 (by omega) low_k3 (by omega)).mono ?_; rintro e w5 ⟨g5, rfl, T5, t5⟩; have t5 := t5.fromDrew; have A5 := A4.later t5; have q5 := A5.s))
  have b5 := b4.trans (A4.turned t5 s4)
  have s5 := b5.size
  have x5 := A5.t
  have q5 := A5.drew.s
  clear x4 q4 A4 T4 b4 t5 B4 s4
  go_wp2_with fail
  have B5 : Bds w5.drew := (hB.later b5 (Nat.le_refl _)).drew
  have U5 := used_ok T5.drew A5.fit B5
  rw [cnt_k4] at U5
  go_region_held3 (fun w' => w'.cell? ⟨wb, 22, none⟩ = some (.pointer (some ⟨c.tb, 0, none⟩)) ∧ (LyEx (.pointer (some ⟨wb, 0, none⟩))).run Tryz.prog w' = .ok (.value (lyV (lay8 20))) w')
    (first | with_reducible exact q5 | with_reducible exact q6)
    (first
      | (go_at_call 15; refine (U5).mono ?_; rintro e w6 ⟨rfl, T6, t6⟩; have t6 := (t6.fromDrew).mono (G := fun i => c.G i ∨ i = c.wm) (fun _ _ => Or.inl); have A6 := A5.later t6; have q6 := A6.s))
  have b6 := b5.trans (A5.turned t6 s5)
  have s6 := b6.size
  have x6 := A6.t
  have q6 := A6.drew.s
  clear x5 q5 A5 T5 b5 t6 B5 s5 U5
  have x7 := A6.dt
  go_wp2_with fail
  refine (num8_any _ _).mono ?_
  rintro e wz ⟨rfl, hwz⟩
  subst wz
  go_wp2_with fail
  refine (num8_any _ _).mono ?_
  rintro e wz ⟨rfl, hwz⟩
  subst wz
  go_wp2_with fail
  refine (num8_any _ _).mono ?_
  rintro e wz ⟨rfl, hwz⟩
  subst wz
  go_wp2_with fail
  refine (num8_any _ _).mono ?_
  rintro e wz ⟨rfl, hwz⟩
  subst wz
  go_wp2_with fail
  refine (num8_any _ _).mono ?_
  rintro e wz ⟨rfl, hwz⟩
  subst wz
  go_wp2_with fail
  go_ret
  exact ⟨rfl, b6⟩
end Go.Proofs.YtfmcbjlagdanjaaGreatDoor
