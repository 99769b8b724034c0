/- Plain mathematics: what is read of a device behind writes and flushes; a head is read back. -/
import Derived.Test.YtlcjkbhcbiggcaaGreatDoorPk07
import Derived.Test.YtlcjkbhcbiggcaaGreatDoorPk02
import Derived.Test.YtlcjkbhcbiggcaaGreatDoorPk05
import Derived.Test.YtlcjkbhcbiggcaaGreatDoorPk03
namespace Go.Proofs.YtlcjkbhcbiggcaaGreatDoor
open Go.RowKit
set_option maxRecDepth 100000

/-- A block of a list of bytes. -/
abbrev blk (l : List Int) (b : Nat) : List Int := (l.drop (512 * b)).take 512
theorem blk_at (l : List Int) (b t : Nat) : (blk l b)[t]? = if t < 512 then l[512 * b + t]? else none := by
  rw [List.getElem?_take]
  by_cases h : t < 512
  · rw [if_pos h, if_pos h, List.getElem?_drop]
  · rw [if_neg h, if_neg h]
theorem splice_at (l d : List Int) (o i : Nat) (h : o + d.length ≤ l.length) : (splice l o d)[i]? = if i < o then l[i]? else if i < o + d.length then d[i - o]? else l[i]? := by
  unfold splice
  have e1 : (l.take o).length = o := by simp; omega
  by_cases h1 : i < o
  · rw [if_pos h1, List.getElem?_append_left (by omega), List.getElem?_take, if_pos h1]
  · rw [if_neg h1, List.getElem?_append_right (by omega), e1]
    by_cases h2 : i < o + d.length
    · rw [if_pos h2, List.getElem?_append_left (by omega)]
    · rw [if_neg h2, List.getElem?_append_right (by omega), List.getElem?_drop]
      congr 1
      omega
theorem blk_lay (l : List Int) (k b : Nat) (d : List Int) (x : Nat) (hl : l.length = 512 * k) (hb : b < k) (hd : d.length = 512) : blk (layB l (b, d)) x = if b = x then d else blk l x := by
  apply List.ext_getElem?
  intro t
  rw [blk_at]
  unfold layB
  rw [splice_at _ _ _ _ (by simp only; omega)]
  simp only
  by_cases ht : t < 512
  · rw [if_pos ht]
    by_cases e : b = x
    · subst e
      rw [if_pos rfl, if_neg (by omega), if_pos (by omega)]
      congr 1
      omega
    · rw [if_neg e, blk_at, if_pos ht]
      by_cases h1 : 512 * x + t < 512 * b
      · rw [if_pos h1]
      · rw [if_neg h1, if_neg (by omega)]
  · rw [if_neg ht]
    by_cases e : b = x
    · rw [if_pos e, List.getElem?_eq_none (by omega)]
    · rw [if_neg e, blk_at, if_neg ht]
theorem rdB_wrote (S : DevS) (b : Nat) (d : List Int) (x : Nat) : rdB (wrote S b d) x = if b = x then d else rdB S x := by
  unfold rdB
  have e1 : newest (wrote S b d).pend x = if b = x then some d else newest S.pend x := newest_snoc S.pend b d x
  rw [e1]
  by_cases e : b = x
  · rw [if_pos e, if_pos e]; rfl
  · rw [if_neg e, if_neg e]; rfl
theorem snoc_ind {α : Type} {P : List α → Prop} (h0 : P []) (h1 : ∀ l a, P l → P (l ++ [a])) : ∀ l, P l := fun l => by
  have q : ∀ l : List α, P l.reverse := fun l => by
    induction l with
    | nil => exact h0
    | cons a l ih => rw [List.reverse_cons]; exact h1 _ _ ih
  simpa using q l.reverse
/-- What is read, is what all writes that pend, laid over, leave. -/
theorem blk_layAll (l : List Int) (k : Nat) (hl : l.length = 512 * k) (hy : ∀ x ∈ l, 0 ≤ x ∧ x ≤ 255) (ps : List (Nat × List Int)) (hp : ∀ p ∈ ps, p.1 < k ∧ p.2.length = 512 ∧ ∀ x ∈ p.2, 0 ≤ x ∧ x ≤ 255) (x : Nat) : blk (layAll l ps) x = (newest ps x).getD (blk l x) := by
  induction ps using snoc_ind with
  | h0 => rfl
  | h1 ps p ih =>
    obtain ⟨b, d⟩ := p
    have ih := ih (fun p hm => hp p (List.mem_append_left _ hm))
    have hq := hp (b, d) (by simp)
    have hg := (layAll_good ps l hl hy (fun p hm => hp p (List.mem_append_left _ hm))).1
    have e1 : layAll l (ps ++ [(b, d)]) = layB (layAll l ps) (b, d) := by unfold layAll; rw [List.foldl_append]; rfl
    rw [e1, blk_lay _ k b d x hg hq.1 hq.2.1, newest_snoc, ih]
    by_cases e : b = x
    · rw [if_pos e, if_pos e]; rfl
    · rw [if_neg e, if_neg e]
theorem rdB_flushed {S : DevS} {k : Nat} (h : Good S k) (x : Nat) : rdB (flushed S) x = rdB S x := blk_layAll S.last k h.len h.by_ S.pend h.pend x
theorem fold_val : ∀ (l : List Int) (a : Int), l.foldl (fun x c => x * 256 + c) a = a * 256 ^ l.length + val l
  | [], a => by simp [val]
  | c :: l, a => by
    have h1 := fold_val l (a * 256 + c)
    have h2 := fold_val l (0 * 256 + c)
    simp only [List.foldl_cons, val, List.length_cons] at *
    rw [h1, h2, Int.pow_succ]
    have : (a * 256 + c) * 256 ^ l.length = a * (256 ^ l.length * 256) + (0 * 256 + c) * 256 ^ l.length := by
      rw [Int.add_mul, Int.mul_assoc, Int.mul_comm 256 (256 ^ l.length)]; simp
    omega
theorem val_cons (c : Int) (l : List Int) : val (c :: l) = c * 256 ^ l.length + val l := by
  have := fold_val l (0 * 256 + c)
  simp only [val, List.foldl_cons] at *
  rw [this]; simp

theorem p256 (k : Nat) : (256 : Int) ^ k = 2 ^ (8 * k) := by
  rw [Int.pow_mul]; rfl

theorem be_add (c : Int) (m : Nat) (X : Int) : ∀ k, k ≤ m → be (X + c * 2 ^ (8 * m)) k = be X k
  | 0, _ => rfl
  | k + 1, h => by
    simp only [be]
    rw [be_add c m X k (by omega)]
    congr 1
    have hp : (2 : Int) ^ (8 * k) ≠ 0 := Int.ne_of_gt (Int.pow_pos (by decide))
    have e : c * 2 ^ (8 * m) = (c * 2 ^ (8 * (m - k - 1)) * 256) * 2 ^ (8 * k) := by
      rw [Int.mul_assoc, Int.mul_assoc]
      congr 1
      rw [show (256 : Int) = 2 ^ 8 by rfl, ← Int.pow_add, ← Int.pow_add]
      congr 1
      omega
    rw [e, Int.add_mul_ediv_right _ _ hp, Int.add_mul_emod_self_right]

theorem be_val : ∀ (l : List Int), (∀ x ∈ l, 0 ≤ x ∧ x ≤ 255) → be (val l) l.length = l
  | [], _ => rfl
  | c :: l, h => by
    have hc := h c (by simp)
    have hl : ∀ x ∈ l, 0 ≤ x ∧ x ≤ 255 := fun x hx => h x (by simp [hx])
    have hb := val_bd l hl
    rw [val_cons, p256, List.length_cons, be]
    rw [p256] at hb
    have hp : (2 : Int) ^ (8 * l.length) ≠ 0 := Int.ne_of_gt (Int.pow_pos (by decide))
    congr 1
    · rw [Int.add_comm, Int.add_mul_ediv_right _ _ hp, Int.ediv_eq_zero_of_lt hb.1 hb.2]
      omega
    · rw [Int.add_comm, be_add c l.length (val l) l.length (Nat.le_refl _)]
      exact be_val l hl

theorem be_mod (X : Int) (k : Nat) : be X k = be (X % 2 ^ (8 * k)) k := by
  have h := be_add (X / 2 ^ (8 * k)) k (X % 2 ^ (8 * k)) k (Nat.le_refl _)
  rw [Int.mul_comm, Int.emod_add_mul_ediv] at h
  exact h
theorem val_be : ∀ (k : Nat) (X : Int), 0 ≤ X → X < 2 ^ (8 * k) → val (be X k) = X
  | 0, X, h0, h1 => by simp at h1; simp [be, val]; omega
  | k + 1, X, h0, h1 => by
    have hp : (0 : Int) < 2 ^ (8 * k) := Int.pow_pos (by decide)
    rw [be, val_cons, be_length, p256, be_mod X k, val_be k _ (Int.emod_nonneg _ (Int.ne_of_gt hp)) (Int.emod_lt_of_pos _ hp)]
    have hq0 : 0 ≤ X / 2 ^ (8 * k) := Int.ediv_nonneg h0 (Int.le_of_lt hp)
    have hq1 : X / 2 ^ (8 * k) < 256 := by
      rw [Int.ediv_lt_iff_lt_mul hp]
      rw [show 8 * (k + 1) = 8 * k + 8 by omega, Int.pow_add] at h1
      rw [Int.mul_comm]; exact h1
    rw [Int.emod_eq_of_lt hq0 hq1]
    have := Int.emod_add_mul_ediv X (2 ^ (8 * k))
    rw [Int.mul_comm] at this
    omega



theorem jsum_u (l : List Int) : 0 ≤ jsum l ∧ jsum l ≤ 18446744073709551615 := S2.U.fwd (h := 14695981039346656037) l ⟨by decide, by decide⟩
theorem u64_same (x : Int) (h0 : 0 ≤ x) (h1 : x ≤ 4611686018427387905) : IntKind.u64.wrap x = x := Go.IntWalk.u64_in x ⟨h0, by omega⟩
/-- The twenty bytes of a head behind its mark and zeros. -/
theorem head_cut (seq place : Int) : (((jheadB seq place).drop 8).take 20) = be (IntKind.u64.wrap seq) 8 ++ be (IntKind.u64.wrap place) 4 ++ be (jsum (hdB seq place)) 8 := by
  have h : jheadB seq place = ([65, 78, 88, 72] ++ be 0 4) ++ ((be (IntKind.u64.wrap seq) 8 ++ be (IntKind.u64.wrap place) 4 ++ be (jsum (hdB seq place)) 8) ++ List.replicate 484 0) := by
    unfold jheadB fillB
    rw [List.length_append, hdB_len, be_length]
    simp [hdB]
  rw [h, List.drop_left' (by simp [be_length]), List.take_left' (by simp [be_length])]
theorem head_front (seq place : Int) : (jheadB seq place).take 20 = hdB seq place := by
  unfold jheadB fillB
  rw [List.append_assoc, List.take_left' (hdB_len seq place)]
theorem head_back (seq place : Nat) (places : Int) (h0 : 1 ≤ seq) (h1 : seq ≤ 4611686018427387905) (hp : (place : Int) < places) (hq : places ≤ 4096) : (hdR (jheadB seq place) places).1.1 = seq ∧ (hdR (jheadB seq place) places).2.1.1 = place ∧ hdOk (jheadB seq place) places = true := by
  have hs := jsum_u (hdB seq place)
  have e1 := u64_same (seq : Int) (by omega) (by omega)
  have e2 := u64_same (place : Int) (by omega) (by omega)
  have hc := head_cut seq place
  rw [e1, e2] at hc
  have d1 : ((be (seq : Int) 8 ++ be (place : Int) 4 ++ be (jsum (hdB seq place)) 8).drop 0).take 8 = be (seq : Int) 8 := by
    rw [List.drop_zero, List.append_assoc, List.take_left' (be_length _ _)]
  have d2 : ((be (seq : Int) 8 ++ be (place : Int) 4 ++ be (jsum (hdB seq place)) 8).drop 8).take 4 = be (place : Int) 4 := by
    rw [List.append_assoc, List.drop_left' (be_length _ _), List.take_left' (be_length _ _)]
  have d3 : ((be (seq : Int) 8 ++ be (place : Int) 4 ++ be (jsum (hdB seq place)) 8).drop 12).take 8 = be (jsum (hdB seq place)) 8 := by
    rw [List.drop_left' (by simp [be_length]), List.take_of_length_le (by simp [be_length])]
  have a1 : rdNum 8 20 (be (seq : Int) 8 ++ be (place : Int) 4 ++ be (jsum (hdB seq place)) 8) 0 0 4611686018427387905 = ((seq : Int), 8, 0) := by
    unfold rdNum
    rw [if_neg (by simp), if_neg (by omega), d1, val_be 8 _ (by omega) (Int.lt_of_le_of_lt (show (seq : Int) ≤ 4611686018427387905 by omega) (by decide)), if_neg (by omega)]
  have a2 : rdNum 4 20 (be (seq : Int) 8 ++ be (place : Int) 4 ++ be (jsum (hdB seq place)) 8) 8 0 (places - 1) = ((place : Int), 12, 0) := by
    unfold rdNum
    rw [if_neg (by simp), if_neg (by omega), d2, val_be 4 _ (by omega) (Int.lt_of_le_of_lt (show (place : Int) ≤ 4096 by omega) (by decide)), if_neg (by omega)]
  have a3 : rdSum 20 (be (seq : Int) 8 ++ be (place : Int) 4 ++ be (jsum (hdB seq place)) 8) 12 0 = (jsum (hdB seq place), 20, 0) := by
    unfold rdSum
    rw [if_neg (by simp), if_neg (by omega), d3, val_be 8 _ hs.1 (Int.lt_of_le_of_lt hs.2 (by decide))]
  have hR : hdR (jheadB seq place) places = (((seq : Int), 8, 0), ((place : Int), 12, 0), (jsum (hdB seq place), 20, 0)) := by
    unfold hdR
    simp only [hc, a1, a2, a3]
  refine ⟨by rw [hR], by rw [hR], ?_⟩
  unfold hdOk
  rw [hR, head_front]
  have hb : begs (jheadB seq place) [65, 78, 88, 72] = true := by
    unfold begs
    refine decide_eq_true ?_
    have h : jheadB seq place = [65, 78, 88, 72] ++ ((be 0 4 ++ be (IntKind.u64.wrap seq) 8 ++ be (IntKind.u64.wrap place) 4 ++ be (jsum (hdB seq place)) 8) ++ List.replicate 484 0) := by
      unfold jheadB fillB
      rw [List.length_append, hdB_len, be_length]
      simp [hdB]
    rw [h]
    rfl
  rw [hb]
  simp
  omega
theorem rdB_burnt (S : DevS) (x : Nat) : rdB (burnt S) x = rdB S x := by
  unfold burnt
  split <;> rfl
theorem zB_len : zB.length = 512 := by simp [zB]
theorem Good.zrs {S : DevS} {k st : Nat} (h : Good S k) : ∀ p, st + 1 + p ≤ k → Good (zrs S st p) k
  | 0, _ => h
  | p + 1, hp => (Good.zrs h p (by omega)).burnt.wrote (by omega) zB_len zB_by
theorem rdB_zrs {S : DevS} {st x : Nat} : ∀ p, rdB (zrs S st p) x = if st + 1 ≤ x ∧ x < st + 1 + p then zB else rdB S x
  | 0 => by rw [if_neg (by omega)]; rfl
  | p + 1 => by
    show rdB (wrote (burnt (zrs S st p)) (st + 1 + p) zB) x = _
    rw [rdB_wrote, rdB_burnt, rdB_zrs p]
    by_cases e : st + 1 + p = x
    · rw [if_pos e, if_pos (by omega)]
    · rw [if_neg e]
      by_cases c : st + 1 ≤ x ∧ x < st + 1 + p
      · rw [if_pos c, if_pos (by omega)]
      · rw [if_neg c, if_neg (by omega)]
theorem Good.fmt {S : DevS} {k st sz : Nat} (h : Good S k) (h1 : 1 ≤ sz) (h2 : st + sz ≤ k) : Good (fmtS S st sz) k := by
  have g1 := (Good.zrs (st := st) h (sz - 1) (by omega)).burnt.flushed
  exact (g1.burnt.wrote (by omega) (jheadB_len 1 0) (jheadB_by 1 0)).burnt.flushed
/-- What is read behind Format. -/
theorem rdB_fmt {S : DevS} {k st sz : Nat} (h : Good S k) (h1 : 1 ≤ sz) (h2 : st + sz ≤ k) (x : Nat) : rdB (fmtS S st sz) x = if st = x then jheadB 1 0 else if st + 1 ≤ x ∧ x < st + sz then zB else rdB S x := by
  have g0 := (Good.zrs (st := st) h (sz - 1) (by omega)).burnt
  have g1 := g0.flushed
  have g2 := (g1.burnt.wrote (b := st) (by omega) (jheadB_len 1 0) (jheadB_by 1 0)).burnt
  show rdB (flushed (burnt (wrote (burnt (flushed (burnt (zrs S st (sz - 1))))) st (jheadB 1 0)))) x = _
  rw [rdB_flushed g2, rdB_burnt, rdB_wrote, rdB_burnt, rdB_flushed g0, rdB_burnt, rdB_zrs]
  by_cases e : st = x
  · rw [if_pos e, if_pos e]
  · rw [if_neg e, if_neg e]
    by_cases c : st + 1 ≤ x ∧ x < st + sz
    · rw [if_pos c, if_pos (by omega)]
    · rw [if_neg c, if_neg (by omega)]
theorem zB_begs : begs zB [65, 78, 88, 68] = false := by decide
end Go.Proofs.YtlcjkbhcbiggcaaGreatDoor

/- Inodes, slots and records as data; a record's bytes. -/
namespace Go.Proofs.YtlcjkbhcbiggcaaGreatDoor
open Go.RowKit
set_option maxRecDepth 100000

structure Ino where
  id : Int
  kind : Int
  size : Int
  change : Int
  dir : Nat → Int
  ind : Int
def inA (x : Ino) : Array Value := #[.int .i64 x.id, .int .i64 x.kind, .int .i64 x.size, .int .i64 x.change, .int .i64 (x.dir 0), .int .i64 (x.dir 1), .int .i64 (x.dir 2), .int .i64 (x.dir 3), .int .i64 (x.dir 4), .int .i64 (x.dir 5), .int .i64 (x.dir 6), .int .i64 (x.dir 7), .int .i64 x.ind]
abbrev inV (x : Ino) : Value := .agg (inA x)
theorem inA_size (x : Ino) : (inA x).size = 13 := rfl
theorem inA_one (x : Ino) : (inA x).all (·.oneCell') = true := by simp [inA, Value.oneCell']
def ino0 : Ino := ⟨0, 0, 0, 0, fun _ => 0, 0⟩
/-- An inode in a box of its own. -/
def InBox (w : World) (b : Nat) (x : Ino) : Prop := w.heap[b]? = some (.cells (inA x) 38 (0, 0))
structure InCells (w : World) (b o : Nat) (x : Ino) : Prop where
  c0 : w.cell? ⟨b, o, none⟩ = some (.int .i64 x.id)
  c1 : w.cell? ⟨b, o + 1, none⟩ = some (.int .i64 x.kind)
  c2 : w.cell? ⟨b, o + 2, none⟩ = some (.int .i64 x.size)
  c3 : w.cell? ⟨b, o + 3, none⟩ = some (.int .i64 x.change)
  c12 : w.cell? ⟨b, o + 12, none⟩ = some (.int .i64 x.ind)
  all : w.rangeAt b o (inA x).toList
  dirs : w.rangeAt b (o + 4) ((List.range 8).map fun i => .int .i64 (x.dir i))
theorem InCells.of {w : World} {b o : Nat} {x : Ino} (h : w.rangeAt b o (inA x).toList) : InCells w b o x :=
  ⟨h 0 _ rfl, h 1 _ rfl, h 2 _ rfl, h 3 _ rfl, h 12 _ rfl, h, fun j v hv => by
    have hj : j < 8 := by
      have := (List.getElem?_eq_some_iff.1 hv).1
      simpa using this
    have e : (inA x).toList[4 + j]? = some v := by
      rw [← hv]
      obtain rfl | rfl | rfl | rfl | rfl | rfl | rfl | rfl : j = 0 ∨ j = 1 ∨ j = 2 ∨ j = 3 ∨ j = 4 ∨ j = 5 ∨ j = 6 ∨ j = 7 := by omega
      all_goals rfl
    have := h (4 + j) v e
    rwa [show o + (4 + j) = o + 4 + j by omega] at this⟩
theorem InBox.range {w : World} {b : Nat} {x : Ino} (h : InBox w b x) : w.rangeAt b 0 (inA x).toList := fun j v hv => by
  rw [Nat.zero_add]
  unfold InBox at h
  simpa [World.cell?, h] using hv
theorem InBox.cells {w : World} {b : Nat} {x : Ino} (h : InBox w b x) : InCells w b 0 x := .of h.range
theorem InBox.fz {w : World} {b : Nat} {x : Ino} (h : InBox w b x) (o : Nat) : w.frozen? ⟨b, o, none⟩ = false := by
  unfold InBox at h
  simp [World.frozen?, h]

structure Slt where
  tx : Option Addr
  n : Int
  at_ : Int
  bk : Option Addr
  len : Nat
  cap : Nat
  gen : Int
  x : Ino
def slA (s : Slt) : Array Value := #[.pointer s.tx, .int .i64 s.n, .int .i64 s.at_, .slice s.bk s.len s.cap, .int .i64 s.gen, .int .i64 s.x.id, .int .i64 s.x.kind, .int .i64 s.x.size, .int .i64 s.x.change, .int .i64 (s.x.dir 0), .int .i64 (s.x.dir 1), .int .i64 (s.x.dir 2), .int .i64 (s.x.dir 3), .int .i64 (s.x.dir 4), .int .i64 (s.x.dir 5), .int .i64 (s.x.dir 6), .int .i64 (s.x.dir 7), .int .i64 s.x.ind]
abbrev slV (s : Slt) : Value := .agg (slA s)
theorem slA_size (s : Slt) : (slA s).size = 18 := rfl
theorem slA_one (s : Slt) : (slA s).all (·.oneCell') = true := by simp [slA, Value.oneCell']
def slt0 : Slt := ⟨none, 0, 0, none, 0, 0, 0, ino0⟩
def SlBox (w : World) (b : Nat) (s : Slt) : Prop := w.heap[b]? = some (.cells (slA s) 142 (0, 0))
structure SlCells (w : World) (b : Nat) (s : Slt) : Prop where
  c0 : w.cell? ⟨b, 0, none⟩ = some (.pointer s.tx)
  c1 : w.cell? ⟨b, 1, none⟩ = some (.int .i64 s.n)
  c2 : w.cell? ⟨b, 2, none⟩ = some (.int .i64 s.at_)
  c3 : w.cell? ⟨b, 3, none⟩ = some (.slice s.bk s.len s.cap)
  c4 : w.cell? ⟨b, 4, none⟩ = some (.int .i64 s.gen)
  c5 : w.cell? ⟨b, 5, none⟩ = some (.int .i64 s.x.id)
  c6 : w.cell? ⟨b, 6, none⟩ = some (.int .i64 s.x.kind)
  inr : w.rangeAt b 5 (inA s.x).toList
  fz : ∀ o, w.frozen? ⟨b, o, none⟩ = false
theorem SlBox.cells {w : World} {b : Nat} {s : Slt} (h : SlBox w b s) : SlCells w b s := by
  unfold SlBox at h
  refine ⟨?_, ?_, ?_, ?_, ?_, ?_, ?_, ?_, fun o => by simp [World.frozen?, h]⟩
  all_goals first
    | (simp [World.cell?, h, slA]; done)
    | (intro j v hv
       have hj : j < 13 := by
         have := (List.getElem?_eq_some_iff.1 hv).1
         simpa [inA] using this
       unfold World.cell?
       rw [h]
       show (slA s)[5 + j]? = some v
       rw [← hv]
       obtain rfl | rfl | rfl | rfl | rfl | rfl | rfl | rfl | rfl | rfl | rfl | rfl | rfl : j = 0 ∨ j = 1 ∨ j = 2 ∨ j = 3 ∨ j = 4 ∨ j = 5 ∨ j = 6 ∨ j = 7 ∨ j = 8 ∨ j = 9 ∨ j = 10 ∨ j = 11 ∨ j = 12 := by omega
       all_goals rfl)

theorem InStore.newI (x : Ino) (y0 y1 y2 y3 y4 y5 y6 y7 y8 y9 y10 y11 y12 : Int) (o : Oper) (a : Act) (w : World) (next : Act → World → Prop) (Q : Exit → Act → World → Prop) :
    InStore (.pointer (some ⟨w.heap.size, 0, none⟩)) (.agg (inA x)) o a (w.alloc (.cells #[.int .i64 y0, .int .i64 y1, .int .i64 y2, .int .i64 y3, .int .i64 y4, .int .i64 y5, .int .i64 y6, .int .i64 y7, .int .i64 y8, .int .i64 y9, .int .i64 y10, .int .i64 y11, .int .i64 y12] 38)) next Q = next (a.put o.dst undef) (w.alloc (.cells (inA x) 38)) :=
  InStore.new _ _ _ rfl rfl (inA_one x) w o a next Q
theorem SlStore.newS (s : Slt) (o : Oper) (a : Act) (w : World) (next : Act → World → Prop) (Q : Exit → Act → World → Prop) :
    SlStore (.pointer (some ⟨w.heap.size, 0, none⟩)) (.agg (slA s)) o a (w.alloc (.cells #[.pointer none, .int .i64 0, .int .i64 0, .slice none 0 0, .int .i64 0, .int .i64 0, .int .i64 0, .int .i64 0, .int .i64 0, .int .i64 0, .int .i64 0, .int .i64 0, .int .i64 0, .int .i64 0, .int .i64 0, .int .i64 0, .int .i64 0, .int .i64 0] 142)) next Q = next (a.put o.dst undef) (w.alloc (.cells (slA s) 142)) :=
  SlStore.new _ _ _ rfl rfl (slA_one s) w o a next Q
theorem SlStore.new18 (p : Option Addr) (n at_ : Int) (bk : Option Addr) (len cap : Nat) (gen x0 x1 x2 x3 x4 x5 x6 x7 x8 x9 x10 x11 x12 : Int) (o : Oper) (a : Act) (w : World) (next : Act → World → Prop) (Q : Exit → Act → World → Prop) :
    SlStore (.pointer (some ⟨w.heap.size, 0, none⟩)) (.agg #[.pointer p, .int .i64 n, .int .i64 at_, .slice bk len cap, .int .i64 gen, .int .i64 x0, .int .i64 x1, .int .i64 x2, .int .i64 x3, .int .i64 x4, .int .i64 x5, .int .i64 x6, .int .i64 x7, .int .i64 x8, .int .i64 x9, .int .i64 x10, .int .i64 x11, .int .i64 x12]) o a (w.alloc (.cells #[.pointer none, .int .i64 0, .int .i64 0, .slice none 0 0, .int .i64 0, .int .i64 0, .int .i64 0, .int .i64 0, .int .i64 0, .int .i64 0, .int .i64 0, .int .i64 0, .int .i64 0, .int .i64 0, .int .i64 0, .int .i64 0, .int .i64 0, .int .i64 0] 142)) next Q = next (a.put o.dst undef) (w.alloc (.cells #[.pointer p, .int .i64 n, .int .i64 at_, .slice bk len cap, .int .i64 gen, .int .i64 x0, .int .i64 x1, .int .i64 x2, .int .i64 x3, .int .i64 x4, .int .i64 x5, .int .i64 x6, .int .i64 x7, .int .i64 x8, .int .i64 x9, .int .i64 x10, .int .i64 x11, .int .i64 x12] 142)) :=
  SlStore.new _ _ _ rfl rfl (by simp [Value.oneCell']) w o a next Q
/-- What a slot holds on the device. -/
structure Rec where
  gen : Int
  kind : Int
  size : Int
  change : Int
  dir : Nat → Int
  ind : Int
def Rec.ino (r : Rec) (id : Int) : Ino := ⟨id, r.kind, r.size, r.change, r.dir, r.ind⟩
def recB (r : Rec) : List Int := be r.gen 8 ++ (be r.kind 4 ++ (be r.size 4 ++ (be r.change 8 ++ (be (r.dir 0) 4 ++ (be (r.dir 1) 4 ++ (be (r.dir 2) 4 ++ (be (r.dir 3) 4 ++ (be (r.dir 4) 4 ++ (be (r.dir 5) 4 ++ (be (r.dir 6) 4 ++ (be (r.dir 7) 4 ++ (be r.ind 4 ++ List.replicate 68 0))))))))))))
def rec0 : Rec := ⟨0, 0, 0, 0, fun _ => 0, 0⟩
theorem recB_len (r : Rec) : (recB r).length = 128 := by simp [recB, be_length]
theorem rec0_b : recB rec0 = List.replicate 128 0 := by decide +kernel
theorem recB_by (r : Rec) : ∀ x ∈ recB r, 0 ≤ x ∧ x ≤ 255 := by
  intro x hx
  simp only [recB, List.mem_append, List.mem_replicate] at hx
  rcases hx with h | h | h | h | h | h | h | h | h | h | h | h | h | h
  all_goals first
    | exact be_by _ _ x h
    | (rw [h.2]; omega)
theorem rec_gen (r : Rec) : ((recB r).drop 0).take 8 = be r.gen 8 := rfl
theorem rec_kind (r : Rec) : ((recB r).drop 8).take 4 = be r.kind 4 := rfl
theorem rec_size (r : Rec) : ((recB r).drop 12).take 4 = be r.size 4 := rfl
theorem rec_change (r : Rec) : ((recB r).drop 16).take 8 = be r.change 8 := rfl
theorem rec_ind (r : Rec) : ((recB r).drop 56).take 4 = be r.ind 4 := rfl
theorem rec_rest (r : Rec) : ((recB r).drop 60).take 68 = List.replicate 68 0 := rfl
theorem rec_dir (r : Rec) (i : Nat) (hi : i < 8) : ((recB r).drop (24 + 4 * i)).take 4 = be (r.dir i) 4 := by
  obtain rfl | rfl | rfl | rfl | rfl | rfl | rfl | rfl : i = 0 ∨ i = 1 ∨ i = 2 ∨ i = 3 ∨ i = 4 ∨ i = 5 ∨ i = 6 ∨ i = 7 := by omega
  all_goals rfl
/-- The direct blocks up to i. -/
def cutD (d : Nat → Int) (i : Nat) : Nat → Int := fun j => if j < i then d j else 0
theorem sp_gen (r : Rec) (g : Int) : splice (recB r) 0 (be g 8) = recB { r with gen := g } := rfl
theorem sp_kind (r : Rec) (g : Int) : splice (recB r) 8 (be g 4) = recB { r with kind := g } := rfl
theorem sp_size (r : Rec) (g : Int) : splice (recB r) 12 (be g 4) = recB { r with size := g } := rfl
theorem sp_change (r : Rec) (g : Int) : splice (recB r) 16 (be g 8) = recB { r with change := g } := rfl
theorem sp_ind (r : Rec) (g : Int) : splice (recB r) 56 (be g 4) = recB { r with ind := g } := rfl
theorem sp_dir (r : Rec) (d : Nat → Int) (i : Nat) (hi : i < 8) : splice (recB { r with dir := cutD d i }) (24 + 4 * i) (be (d i) 4) = recB { r with dir := cutD d (i + 1) } := by
  obtain rfl | rfl | rfl | rfl | rfl | rfl | rfl | rfl : i = 0 ∨ i = 1 ∨ i = 2 ∨ i = 3 ∨ i = 4 ∨ i = 5 ∨ i = 6 ∨ i = 7 := by omega
  all_goals rfl
theorem recB_cut (r : Rec) : recB { r with dir := cutD r.dir 8 } = recB r := rfl
/-- A record's bytes as cells. -/
abbrev rcA (bs : List Int) : Array Value := (bs.map (Value.int .u8)).toArray
def RcBox (w : World) (b : Nat) (bs : List Int) : Prop := w.heap[b]? = some (.cells (rcA bs) 165 (0, 0))
theorem RcBox.lies {w : World} {b : Nat} {bs : List Int} (h : RcBox w b bs) (o n c : Nat) (hn : o + n ≤ bs.length) (hc : n ≤ c) : Lies w (some ⟨b, o, none⟩) n c ((bs.drop o).take n) := by
  unfold RcBox at h
  refine ⟨by rw [List.length_take, List.length_drop]; omega, hc, (fun e => by cases e), fun ad e t u hu => ?_⟩
  cases e
  have ht : t < n := by
    have := (List.getElem?_eq_some_iff.1 hu).1
    rw [List.length_map, List.length_take] at this
    omega
  rw [Addr.add_mid]
  unfold World.cell?
  rw [h]
  show (rcA bs)[o + t]? = some u
  rw [← hu]
  simp [List.getElem?_drop, ht]
theorem RcBox.range {w : World} {b : Nat} {bs : List Int} (h : RcBox w b bs) (o n : Nat) : w.rangeAt b o (((bs.drop o).take n).map (Value.int .u8)) := fun j v hv => by
  unfold RcBox at h
  unfold World.cell?
  rw [h]
  show (rcA bs)[o + j]? = some v
  have hj : j < n := by
    have := (List.getElem?_eq_some_iff.1 hv).1
    rw [List.length_map, List.length_take] at this
    omega
  rw [← hv]
  simp [List.getElem?_drop, hj]
theorem rcA_one (bs : List Int) : (rcA bs).all (·.oneCell') = true := all_oneCell_toArray (ints_oneCell _ _)
end Go.Proofs.YtlcjkbhcbiggcaaGreatDoor

/- Close by its contract. -/
namespace Go.Proofs.YtlcjkbhcbiggcaaGreatDoor
open Go.RowKit
set_option maxRecDepth 100000

/-- What Close answers and keeps. -/
def rdClose (n pl : Nat) (code : Int) : Int := if code = 0 ∧ pl < n then 16 else code

set_option maxHeartbeats 400000 in
theorem close_any (rb g n cap pl : Nat) (code : Int) (bs : List Int) (w : World) (hR : Rdr w rb g n cap pl code bs) :
    Calls Tryz.prog 245 #[.pointer (some ⟨rb, 0, none⟩)] w fun e w' => e = .returned (.int .i64 (rdClose n pl code)) ∧ WentR w w' rb g n cap pl (rdClose n pl code) bs := by
  have c0 := hR.c0
  have c1 := hR.c1
  have c2 := hR.c2
  have f2 := hR.f 2
  unfold rdClose
  by_cases hc : code = 0
  · subst hc
    by_cases hp : pl < n
    · rw [if_pos ⟨rfl, hp⟩]
      have hpi : decide ((pl : Int) < (n : Int)) = true := by simpa using hp
      go_enter Tryz.func245, Tryz.ntmps245
      go_wp2
      go_quiet (fail)
      go_wp2
      go_ret
      exact ⟨rfl, (hR.drewN _).set2 16, grown_trans (grown_drewN _ _ _) (grown_setCell _ _ _ _)⟩
    · rw [if_neg (fun h => hp h.2)]
      have hpi : decide ((pl : Int) < (n : Int)) = false := by simpa using hp
      go_enter Tryz.func245, Tryz.ntmps245
      go_wp2
      go_quiet (fail)
      go_wp2
      go_ret
      exact ⟨rfl, hR.drewN _, grown_drewN _ _ _⟩
  · rw [if_neg (fun h => hc h.1)]
    have hcb : (code == 0) = false := by simpa using hc
    go_enter Tryz.func245, Tryz.ntmps245
    go_wp2
    go_quiet (fail)
    go_wp2
    go_ret
    exact ⟨rfl, hR.drewN _, grown_drewN _ _ _⟩
end Go.Proofs.YtlcjkbhcbiggcaaGreatDoor

/- The small functions of records: kinds, block numbers, numbers read and put. -/
namespace Go.Proofs.YtlcjkbhcbiggcaaGreatDoor
open Go.RowKit Go.Maps
set_option maxRecDepth 100000

def kindB (k : Int) : Bool := decide (k = 1 ∨ k = 2)
theorem isKind_any (k : Int) (w : World) :
    Calls Tryz.prog 101 #[.int .i64 k] w fun e w' => e = .returned (.bool (kindB k)) ∧ w' = w := by
  by_cases h1 : k = 1
  · subst h1
    go_enter Tryz.func101, Tryz.ntmps101
    go_wp2
    go_ret
    exact ⟨rfl, rfl⟩
  · by_cases h2 : k = 2
    · subst h2
      go_enter Tryz.func101, Tryz.ntmps101
      go_wp2
      go_ret
      exact ⟨rfl, rfl⟩
    · go_enter Tryz.func101, Tryz.ntmps101
      go_wp2
      go_ret
      simp [kindB, h1, h2]
set_option maxHeartbeats 2000000 in
theorem numI_ok (k : Nat) (hk : k = 4 ∨ k = 8) (ad : Addr) (bs : List Int) (w : World) (hL : Lies w (some ad) k k bs) (hy : ∀ x ∈ bs, 0 ≤ x ∧ x ≤ 255) (hv : val bs ≤ 9223372036854775807) :
    Calls Tryz.prog 198 #[.slice (some ad) k k] w fun e w' => e = .returned (.int .i64 (val bs)) ∧ Below w.heap.size w w' := by
  have hl := hL.hlen
  have hd : (bs.drop 0).take k = bs := by rw [List.drop_zero, List.take_of_length_le (by omega)]
  rcases hk with rfl | rfl
  · have h4 : val bs ≤ 4294967295 := by
      have := (val_bd bs hy).2
      rw [hl] at this
      omega
    go_enter Tryz.func198, Tryz.ntmps198
    go_wp2_with fail
    refine (newReader_any (some ad) 4 4 bs w (by omega) hL).mono ?_
    rintro e w1 ⟨rb, g, rfl, R1, hrb, hg, b1⟩
    go_wp2_with fail
    have hu := u32_ok rb g 4 4 0 4294967295 bs w1 R1 (by omega) (by omega) hy (by omega) (by omega) (by rw [hd]; exact h4)
    rw [hd] at hu
    refine hu.mono ?_
    rintro e w2 ⟨rfl, R2, t2⟩
    go_wp2_with fail
    refine (close_any rb g 4 4 (0 + 4) 0 bs w2 R2).mono ?_
    rintro e w3 ⟨rfl, R3, t3⟩
    have b3 : Below w.heap.size w w3 := (b1.trans ((Turns.grown (F := fun i => i = rb) t2 (fun b hb => (Option.some.inj hb).symm)).below (fun i e => e ▸ hrb) b1.size)).trans ((Turns.grown (F := fun i => i = rb) t3 (fun b hb => (Option.some.inj hb).symm)).below (fun i e => e ▸ hrb) (Nat.le_trans b1.size t2.size))
    simp only [rdClose]
    go_wp2
    go_ret
    exact ⟨rfl, b3⟩
  · go_enter Tryz.func198, Tryz.ntmps198
    go_wp2_with fail
    refine (newReader_any (some ad) 8 8 bs w (by omega) hL).mono ?_
    rintro e w1 ⟨rb, g, rfl, R1, hrb, hg, b1⟩
    go_wp2_with fail
    have hu := u64_ok rb g 8 8 0 9223372036854775807 bs w1 R1 (by omega) (by omega) hy (by omega) (by omega) (by rw [hd]; exact hv)
    rw [hd] at hu
    refine hu.mono ?_
    rintro e w2 ⟨rfl, R2, t2⟩
    go_wp2_with fail
    refine (close_any rb g 8 8 (0 + 8) 0 bs w2 R2).mono ?_
    rintro e w3 ⟨rfl, R3, t3⟩
    have b3 : Below w.heap.size w w3 := (b1.trans ((Turns.grown (F := fun i => i = rb) t2 (fun b hb => (Option.some.inj hb).symm)).below (fun i e => e ▸ hrb) b1.size)).trans ((Turns.grown (F := fun i => i = rb) t3 (fun b hb => (Option.some.inj hb).symm)).below (fun i e => e ▸ hrb) (Nat.le_trans b1.size t2.size))
    simp only [rdClose]
    go_wp2
    go_ret
    exact ⟨rfl, b3⟩
end Go.Proofs.YtlcjkbhcbiggcaaGreatDoor

/- The pieces of a record, and numbers put into them. -/
namespace Go.Proofs.YtlcjkbhcbiggcaaGreatDoor
open Go.RowKit Go.Maps
set_option maxRecDepth 100000

theorem pgen_any (b : Nat) (w : World) :
    Calls Tryz.prog 160 #[.pointer (some ⟨b, 0, none⟩)] w fun e w' => e = .returned (.slice (some ⟨b, 0, none⟩) 8 8) ∧ w' = w := by
  go_enter Tryz.func160, Tryz.ntmps160
  go_wp2
  go_ret
  exact ⟨rfl, rfl⟩
theorem pkind_any (b : Nat) (w : World) :
    Calls Tryz.prog 161 #[.pointer (some ⟨b, 0, none⟩)] w fun e w' => e = .returned (.slice (some ⟨b, 8, none⟩) 4 4) ∧ w' = w := by
  go_enter Tryz.func161, Tryz.ntmps161
  go_wp2
  go_ret
  exact ⟨rfl, rfl⟩
theorem psize_any (b : Nat) (w : World) :
    Calls Tryz.prog 162 #[.pointer (some ⟨b, 0, none⟩)] w fun e w' => e = .returned (.slice (some ⟨b, 12, none⟩) 4 4) ∧ w' = w := by
  go_enter Tryz.func162, Tryz.ntmps162
  go_wp2
  go_ret
  exact ⟨rfl, rfl⟩
theorem pchange_any (b : Nat) (w : World) :
    Calls Tryz.prog 163 #[.pointer (some ⟨b, 0, none⟩)] w fun e w' => e = .returned (.slice (some ⟨b, 16, none⟩) 8 8) ∧ w' = w := by
  go_enter Tryz.func163, Tryz.ntmps163
  go_wp2
  go_ret
  exact ⟨rfl, rfl⟩
theorem pind_any (b : Nat) (w : World) :
    Calls Tryz.prog 165 #[.pointer (some ⟨b, 0, none⟩)] w fun e w' => e = .returned (.slice (some ⟨b, 56, none⟩) 4 4) ∧ w' = w := by
  go_enter Tryz.func165, Tryz.ntmps165
  go_wp2
  go_ret
  exact ⟨rfl, rfl⟩
theorem prest_any (b : Nat) (w : World) :
    Calls Tryz.prog 200 #[.pointer (some ⟨b, 0, none⟩)] w fun e w' => e = .returned (.slice (some ⟨b, 60, none⟩) 68 68) ∧ w' = w := by
  go_enter Tryz.func200, Tryz.ntmps200
  go_wp2
  go_ret
  exact ⟨rfl, rfl⟩
theorem pdir_any (b i : Nat) (hi : i < 8) (w : World) :
    Calls Tryz.prog 164 #[.pointer (some ⟨b, 0, none⟩), .int .i64 (i : Nat)] w fun e w' => e = .returned (.slice (some ⟨b, 24 + 4 * i, none⟩) 4 4) ∧ w' = w := by
  obtain rfl | rfl | rfl | rfl | rfl | rfl | rfl | rfl : i = 0 ∨ i = 1 ∨ i = 2 ∨ i = 3 ∨ i = 4 ∨ i = 5 ∨ i = 6 ∨ i = 7 := by omega
  all_goals
    go_enter Tryz.func164, Tryz.ntmps164
    go_wp2
    go_ret
    exact ⟨rfl, rfl⟩
theorem wrap_id {X : Int} (h0 : 0 ≤ X) (h1 : X ≤ 9223372036854775807) : IntKind.u64.wrap X = X := by
  simp [IntKind.wrap, IntKind.bits, IntKind.signed]
  omega
/-- What is put: the number's bytes laid over the row. -/
structure PutR (w w' : World) (b t : Nat) (bs : List Int) : Prop where
  row : w'.heap[b]? = some (.cells (rcA bs) t (0, 0))
  tr : Turns (fun i => i = b) w w'
theorem Turns.row1 (w : World) (g : Nat) (cs : Array Value) : Turns (fun i => i = g) w (w.setRow g cs) :=
  ⟨rfl, rfl, rfl, by simp [World.setRow], fun i _ hn => setRow_other w g i cs hn⟩
set_option maxHeartbeats 2000000 in
theorem put8I_ok (b o t : Nat) (X : Int) (bs : List Int) (w : World) (h : w.heap[b]? = some (.cells (rcA bs) t (0, 0))) (hl : o + 8 ≤ bs.length) (h0 : 0 ≤ X) (h1 : X ≤ 9223372036854775807) :
    Calls Tryz.prog 159 #[.slice (some ⟨b, o, none⟩) 8 8, .int .i64 X] w fun e w' => e = .returned (.tuple #[]) ∧ PutR w w' b t (splice bs o (be X 8)) := by
  have hsz : (Tryz.prog.info? 5).map (·.size) = some 1 := by kernel_rfl
  have hlt := heap_lt h
  go_enter Tryz.func159, Tryz.ntmps159
  have hbl : (be X 8).length = 8 := be_length X 8
  obtain ⟨bx, hbx⟩ : ∃ bx, be X 8 = bx := ⟨_, rfl⟩
  have HBX : Hid (be X 8 = bx) := hbx
  rw [hbx] at hbl
  clear hbx
  go_wp2_with (first
    | (go_at_call 121; refine (put64_any none 0 0 X [] w (by omega) (Lies.nil w)).mono ?_; rintro e w1 ⟨g, cap, rfl, ho, b1⟩; rw [wrap_id h0 h1, List.nil_append, HBX.out] at ho; have HL := Lies.own ho; have k1 := (b1.block b hlt).trans h)
    | (refine wpList_copy_own rfl _ _ 39 39 rfl 5 Tryz.underlying39 hsz b o 8 8 ⟨g, 0, none⟩ 8 cap rfl rfl (rcA bs) t k1 (bx.map (Value.int .u8)) (by simp [hbl]) (HL.hcells _ rfl) (by simp [hbl]; omega) (ints_oneCell _ _) ?_))
  first | go_end0 | refine bodyPost_ret (results_none rfl _ _ _) rfl ?_
  refine ⟨rfl, ?_, ((Below.turns b1 _).trans (Turns.row1 w1 b _) (fun _ _ h => h))⟩
  rw [HBX.out]
  rw [setRow_heap w1 b _ _ t _ k1]
  simp [splice, List.map_take, List.map_drop, hbl]
set_option maxHeartbeats 2000000 in
theorem put4I_ok (b o t : Nat) (X : Int) (bs : List Int) (w : World) (h : w.heap[b]? = some (.cells (rcA bs) t (0, 0))) (hl : o + 4 ≤ bs.length) (h0 : 0 ≤ X) (h1 : X ≤ 9223372036854775807) :
    Calls Tryz.prog 159 #[.slice (some ⟨b, o, none⟩) 4 4, .int .i64 X] w fun e w' => e = .returned (.tuple #[]) ∧ PutR w w' b t (splice bs o (be X 4)) := by
  have hsz : (Tryz.prog.info? 5).map (·.size) = some 1 := by kernel_rfl
  have hlt := heap_lt h
  go_enter Tryz.func159, Tryz.ntmps159
  have hbl : (be X 4).length = 4 := be_length X 4
  obtain ⟨bx, hbx⟩ : ∃ bx, be X 4 = bx := ⟨_, rfl⟩
  have HBX : Hid (be X 4 = bx) := hbx
  rw [hbx] at hbl
  clear hbx
  go_wp2_with (first
    | (go_at_call 120; refine (put32_any none 0 0 X [] w (by omega) (Lies.nil w)).mono ?_; rintro e w1 ⟨g, cap, rfl, ho, b1⟩; rw [wrap_id h0 h1, List.nil_append, HBX.out] at ho; have HL := Lies.own ho; have k1 := (b1.block b hlt).trans h)
    | (refine wpList_copy_own rfl _ _ 39 39 rfl 5 Tryz.underlying39 hsz b o 4 4 ⟨g, 0, none⟩ 4 cap rfl rfl (rcA bs) t k1 (bx.map (Value.int .u8)) (by simp [hbl]) (HL.hcells _ rfl) (by simp [hbl]; omega) (ints_oneCell _ _) ?_))
  first | go_end0 | refine bodyPost_ret (results_none rfl _ _ _) rfl ?_
  refine ⟨rfl, ?_, ((Below.turns b1 _).trans (Turns.row1 w1 b _) (fun _ _ h => h))⟩
  rw [HBX.out]
  rw [setRow_heap w1 b _ _ t _ k1]
  simp [splice, List.map_take, List.map_drop, hbl]
end Go.Proofs.YtlcjkbhcbiggcaaGreatDoor

/- A record read: its inode. -/
namespace Go.Proofs.YtlcjkbhcbiggcaaGreatDoor
open Go.RowKit Go.Maps
set_option maxRecDepth 100000

/-- The numbers of a record may be. -/
structure RecOk (r : Rec) : Prop where
  g0 : 0 ≤ r.gen
  g1 : r.gen ≤ 1099511627776
  k0 : 0 ≤ r.kind
  k1 : r.kind ≤ 2
  s0 : 0 ≤ r.size
  s1 : r.size ≤ 69632
  c0 : 0 ≤ r.change
  c1 : r.change ≤ 4611686018427387904
  d0 : ∀ i, i < 8 → 0 ≤ r.dir i ∧ r.dir i ≤ 8192
  i0 : 0 ≤ r.ind
  i1 : r.ind ≤ 8192
theorem take_by {l : List Int} (h : ∀ x ∈ l, 0 ≤ x ∧ x ≤ 255) (o n : Nat) : ∀ x ∈ (l.drop o).take n, 0 ≤ x ∧ x ≤ 255 :=
  fun x hx => h x (List.mem_of_mem_drop (List.mem_of_mem_take hx))
/-- A number of a record, read out of its piece. -/
theorem piece_ok {w : World} {b : Nat} {bs : List Int} (h : RcBox w b bs) (hy : ∀ x ∈ bs, 0 ≤ x ∧ x ≤ 255) (o k : Nat) (hk : k = 4 ∨ k = 8) (ho : o + k ≤ bs.length) (X : Int) (hX : (bs.drop o).take k = be X k) (h0 : 0 ≤ X) (h1 : X < 2 ^ (8 * k)) (h2 : X ≤ 9223372036854775807) :
    Calls Tryz.prog 198 #[.slice (some ⟨b, o, none⟩) k k] w fun e w' => e = .returned (.int .i64 X) ∧ Below w.heap.size w w' := by
  have hv : val ((bs.drop o).take k) = X := by rw [hX, val_be k X h0 h1]
  have := numI_ok k hk ⟨b, o, none⟩ ((bs.drop o).take k) w (h.lies o k k ho (Nat.le_refl _)) (take_by hy o k) (by rw [hv]; exact h2)
  rw [hv] at this
  exact this
theorem RcBox.below {w w' : World} {b : Nat} {bs : List Int} (h : RcBox w b bs) (t : Below w.heap.size w w') : RcBox w' b bs := (t.block b (heap_lt h)).trans h
theorem InBox.below {w w' : World} {b : Nat} {x : Ino} (h : InBox w b x) (t : Below w.heap.size w w') : InBox w' b x := (t.block b (heap_lt h)).trans h
theorem SlBox.below {w w' : World} {b : Nat} {x : Slt} (h : SlBox w b x) (t : Below w.heap.size w w') : SlBox w' b x := (t.block b (heap_lt h)).trans h
theorem in_set_dir {w : World} {b : Nat} {x : Ino} (h : InBox w b x) (d : Nat → Int) (i : Nat) (hi : i < 8) (hd : x.dir = cutD d i) : InBox (w.setCell ⟨b, 4 + i, none⟩ (.int .i64 (d i))) b { x with dir := cutD d (i + 1) } := by
  unfold InBox at h ⊢
  rw [heap_setCell_same _ _ _ _ _ _ h]
  have e : (inA x).setIfInBounds (4 + i) (.int .i64 (d i)) = inA { x with dir := cutD d (i + 1) } := by
    unfold inA
    rw [hd]
    obtain rfl | rfl | rfl | rfl | rfl | rfl | rfl | rfl : i = 0 ∨ i = 1 ∨ i = 2 ∨ i = 3 ∨ i = 4 ∨ i = 5 ∨ i = 6 ∨ i = 7 := by omega
    all_goals rfl
  rw [← e]
attribute [local go_sem ↓ 100000] in_store in_load
attribute [local go_sem] InStore.new13
set_option maxHeartbeats 4000000 in
theorem rinode_ok (b : Nat) (r : Rec) (hr : RecOk r) (w : World) (h : RcBox w b (recB r)) :
    Calls Tryz.prog 199 #[.pointer (some ⟨b, 0, none⟩)] w fun e w' => e = .returned (inV (r.ino 0)) ∧ Below w.heap.size w w' := by
  have hl := recB_len r
  have hy := recB_by r
  obtain ⟨g0, g1, k0, k1, s0, s1, c0, c1, d0, i0, i1⟩ := hr
  have HK := rec_kind r
  have HS := rec_size r
  have HC := rec_change r
  have HI := rec_ind r
  obtain ⟨bs, hbs⟩ : ∃ bs, recB r = bs := ⟨_, rfl⟩
  have HD : Hid (∀ i, i < 8 → (bs.drop (24 + 4 * i)).take 4 = be (r.dir i) 4) := by rw [← hbs]; exact rec_dir r
  rw [hbs] at h hl hy HK HS HC HI
  clear hbs
  go_enter Tryz.func199, Tryz.ntmps199
  go_wp2_with fail
  obtain ⟨W0, hW0⟩ : ∃ W, w.alloc (.cells #[.int .i64 0, .int .i64 0, .int .i64 0, .int .i64 0, .int .i64 0, .int .i64 0, .int .i64 0, .int .i64 0, .int .i64 0, .int .i64 0, .int .i64 0, .int .i64 0, .int .i64 0] 38) = W := ⟨_, rfl⟩
  have bW : Below w.heap.size w W0 := by rw [← hW0]; exact (Below.refl _ w).alloc (Nat.le_refl _) _
  have sW : W0.heap.size = w.heap.size + 1 := by rw [← hW0]; simp
  have R0 : InBox W0 w.heap.size ino0 := by rw [← hW0]; exact heap_alloc_last w _
  rw [hW0]
  clear hW0
  have h0 := h.below bW
  refine (pkind_any b _).mono ?_
  rintro e wq ⟨rfl, hq⟩
  subst wq
  go_wp2_with fail
  refine (piece_ok h0 hy 8 4 (Or.inl rfl) (by omega) r.kind HK k0 (by omega) (by omega)).mono ?_
  rintro e w1 ⟨rfl, b1⟩
  have h1 := h0.below b1
  go_wp2_with fail
  refine (psize_any b _).mono ?_
  rintro e wq ⟨rfl, hq⟩
  subst wq
  go_wp2_with fail
  refine (piece_ok h1 hy 12 4 (Or.inl rfl) (by omega) r.size HS s0 (by omega) (by omega)).mono ?_
  rintro e w2 ⟨rfl, b2⟩
  have h2 := h1.below b2
  go_wp2_with fail
  refine (pchange_any b _).mono ?_
  rintro e wq ⟨rfl, hq⟩
  subst wq
  go_wp2_with fail
  refine (piece_ok h2 hy 16 8 (Or.inr rfl) (by omega) r.change HC c0 (by omega) (by omega)).mono ?_
  rintro e w3 ⟨rfl, b3⟩
  have h3 := h2.below b3
  go_wp2_with fail
  refine (pind_any b _).mono ?_
  rintro e wq ⟨rfl, hq⟩
  subst wq
  go_wp2_with fail
  refine (piece_ok h3 hy 56 4 (Or.inl rfl) (by omega) r.ind HI i0 (by omega) (by omega)).mono ?_
  rintro e w4 ⟨rfl, b4⟩
  have h4 := h3.below b4
  have z1 := b1.size
  have z2 := b2.size
  have z3 := b3.size
  have z4 := b4.size
  have b14 : Below W0.heap.size W0 w4 := ((b1.trans (b2.mono z1)).trans (b3.mono (by omega))).trans (b4.mono (by omega))
  have b04 : Below w.heap.size w w4 := bW.trans (b14.mono bW.size)
  have R4 := R0.below b14
  have hlt := heap_lt h
  clear b1 b2 b3 b4 h0 h1 h2 h3
  go_wp2_with fail
  go_loopw [18] (fun v wr => ∃ i : Nat, i ≤ 8 ∧ v = .int .i64 i ∧ InBox wr w4.heap.size { r.ino 0 with dir := cutD r.dir i } ∧ InBox wr w.heap.size ino0 ∧ RcBox wr b bs ∧ Below w.heap.size w wr) (fun v _ => 8 - (intOf v).toNat)
  case atStart => exact ⟨0, by omega, rfl, heap_alloc_last w4 _, R4.below ((Below.refl _ w4).alloc (Nat.le_refl _) _), h4.below ((Below.refl _ w4).alloc (Nat.le_refl _) _), b04.alloc (by omega) _⟩
  case round =>
    obtain ⟨i, hi, rfl, X, R, hb, B⟩ := hrel
    by_cases hi8 : i = 8
    · subst hi8
      have hld := InLoad.row X rfl
      have hst := InStore.row (cs := inA { r.ino 0 with dir := cutD r.dir 8 }) R rfl rfl (inA_one _)
      go_wp2_with fail
      refine bodyPost_ret (res1 rfl _ _ w.heap.size 38 _ (0, 0) _ rfl (setRow_heap _ _ _ _ _ _ R) Tryz.underlying38 rfl in_size) rfl ?_
      exact ⟨rfl, below_setRow B (Nat.le_refl _) _⟩
    · have hlt : (i : Int) < 8 := by omega
      go_wp2_with fail
      refine (pdir_any b i (by omega) _).mono ?_
      rintro e wq ⟨rfl, hq⟩
      subst wq
      go_wp2_with fail
      refine (piece_ok hb hy (24 + 4 * i) 4 (Or.inl rfl) (by omega) (r.dir i) (HD.out i (by omega)) (d0 i (by omega)).1 (by have := (d0 i (by omega)).2; omega) (by have := (d0 i (by omega)).2; omega)).mono ?_
      rintro e w5 ⟨rfl, b5⟩
      have X5 := X.below b5
      have c5 : w5.cell? ⟨w4.heap.size, 4 + i, none⟩ = some (.int .i64 (cutD r.dir i i)) := by
        have := X5.cells.dirs i (.int .i64 (cutD r.dir i i)) (by simp [show i < 8 by omega])
        simpa using this
      have f5 := X5.fz (4 + i)
      go_wp2_with fail
      have b6 : Below w.heap.size w5 (w5.setCell ⟨w4.heap.size, 4 + i, none⟩ (.int .i64 (r.dir i))) := (Turns.cell w5 w4.heap.size (4 + i) _).below (fun j e => e ▸ b04.size) (Nat.le_trans B.size b5.size)
      have hne : w.heap.size ≠ w4.heap.size := by omega
      exact ⟨⟨i + 1, by omega, rfl, in_set_dir X5 r.dir i (by omega) rfl, ((Turns.cell w5 w4.heap.size (4 + i) _).block _ (heap_lt (R.below b5)) hne).trans (R.below b5), ((Turns.cell w5 w4.heap.size (4 + i) _).block _ (heap_lt (hb.below b5)) (by omega)).trans (hb.below b5), (B.trans (b5.mono B.size)).trans b6⟩, by simp [intOf]; omega⟩
end Go.Proofs.YtlcjkbhcbiggcaaGreatDoor

/- Which block numbers and inodes may be. -/
namespace Go.Proofs.YtlcjkbhcbiggcaaGreatDoor
open Go.RowKit Go.Maps
set_option maxRecDepth 100000

/-- A layout in a box. -/
def LyB (w : World) (b : Nat) (l : Lay) : Prop := w.heap[b]? = some (.cells #[.int .i64 l.bo, .int .i64 l.jr, .int .i64 l.jl, .int .i64 l.le, .int .i64 l.ll, .int .i64 l.bi, .int .i64 l.bl, .int .i64 l.ta, .int .i64 l.tl, .int .i64 l.dt, .int .i64 l.dl, .int .i64 l.to, .int .i64 l.sh.cl, .int .i64 l.sh.wi, .int .i64 l.sh.pl, .int .i64 l.sh.ca, .int .i64 l.sh.ino, .int .i64 l.sh.qu, .int .i64 l.sh.da, .int .i64 l.sh.jo] 60 (0, 0))
theorem LyB.below {w w' : World} {b : Nat} {l : Lay} (h : LyB w b l) (t : Below w.heap.size w w') : LyB w' b l := (t.block b (heap_lt h)).trans h
theorem LyB.new (w : World) (l : Lay) : LyB (w.alloc (.cells #[.int .i64 l.bo, .int .i64 l.jr, .int .i64 l.jl, .int .i64 l.le, .int .i64 l.ll, .int .i64 l.bi, .int .i64 l.bl, .int .i64 l.ta, .int .i64 l.tl, .int .i64 l.dt, .int .i64 l.dl, .int .i64 l.to, .int .i64 l.sh.cl, .int .i64 l.sh.wi, .int .i64 l.sh.pl, .int .i64 l.sh.ca, .int .i64 l.sh.ino, .int .i64 l.sh.qu, .int .i64 l.sh.da, .int .i64 l.sh.jo] 60)) w.heap.size l := heap_alloc_last w _
theorem LyB.ld {w : World} {b : Nat} {l : Lay} (h : LyB w b l) (o : Oper) (a : Act) (next : Act → World → Prop) (Q : Exit → Act → World → Prop) : LyLoad (.pointer (some ⟨b, 0, none⟩)) o a w next Q = next (a.put o.dst (lyV l)) w := LyLoad.row h rfl o a next Q
theorem LyB.ex {w : World} {b : Nat} {l : Lay} (h : LyB w b l) : (LyEx (.pointer (some ⟨b, 0, none⟩))).run Tryz.prog w = .ok (.value (lyV l)) w := LyEx.row h rfl
theorem LyB.ta {w : World} {b : Nat} {l : Lay} (h : LyB w b l) : w.cell? ⟨b, 7, none⟩ = some (.int .i64 l.ta) := by unfold LyB at h; simp [World.cell?, h]
theorem LyB.dt {w : World} {b : Nat} {l : Lay} (h : LyB w b l) : w.cell? ⟨b, 9, none⟩ = some (.int .i64 l.dt) := by unfold LyB at h; simp [World.cell?, h]
theorem LyB.dl {w : World} {b : Nat} {l : Lay} (h : LyB w b l) : w.cell? ⟨b, 10, none⟩ = some (.int .i64 l.dl) := by unfold LyB at h; simp [World.cell?, h]
theorem LyB.ino {w : World} {b : Nat} {l : Lay} (h : LyB w b l) : w.cell? ⟨b, 16, none⟩ = some (.int .i64 l.sh.ino) := by unfold LyB at h; simp [World.cell?, h]
/-- The data blocks are where a device's blocks can be. -/
structure Dat (l : Lay) : Prop where
  t0 : 0 ≤ l.dt
  t1 : l.dt ≤ 4096
  l0 : 0 ≤ l.dl
  l1 : l.dl ≤ 4096
def blkB (l : Lay) (b : Int) : Bool := decide (b = 0 ∨ (l.dt ≤ b ∧ b < l.dt + l.dl))
attribute [local go_sem ↓ 100000] ly_store ly_load
attribute [local go_sem] LyStore.new LyStore.drew LyLoad.new LyLoad.drew
set_option maxHeartbeats 4000000 in
theorem isBlock_any (l : Lay) (hd : Dat l) (b : Int) (w : World) :
    Calls Tryz.prog 197 #[lyV l, .int .i64 b] w fun e w' => e = .returned (.bool (blkB l b)) ∧ Below w.heap.size w w' := by
  obtain ⟨t0, t1, l0, l1⟩ := hd
  obtain ⟨W1, hW1⟩ : ∃ W, w.alloc (.cells #[.int .i64 l.bo, .int .i64 l.jr, .int .i64 l.jl, .int .i64 l.le, .int .i64 l.ll, .int .i64 l.bi, .int .i64 l.bl, .int .i64 l.ta, .int .i64 l.tl, .int .i64 l.dt, .int .i64 l.dl, .int .i64 l.to, .int .i64 l.sh.cl, .int .i64 l.sh.wi, .int .i64 l.sh.pl, .int .i64 l.sh.ca, .int .i64 l.sh.ino, .int .i64 l.sh.qu, .int .i64 l.sh.da, .int .i64 l.sh.jo] 60) = W := ⟨_, rfl⟩
  have b1 : Below w.heap.size w W1 := by rw [← hW1]; exact (Below.refl _ w).alloc (Nat.le_refl _) _
  have L1 : LyB W1 w.heap.size l := by rw [← hW1]; exact LyB.new w l
  have c9 := L1.dt
  have c10 := L1.dl
  have hs : IntKind.i64.wrap (l.dt + l.dl) = l.dt + l.dl := by
    simp [IntKind.wrap, IntKind.bits, IntKind.signed]
    omega
  by_cases h0 : b = 0
  · subst h0
    go_enter Tryz.func197, Tryz.ntmps197
    go_wp2_with fail
    try rw [hW1]
    go_ret
    exact ⟨by simp [blkB], b1⟩
  · by_cases h1 : l.dt ≤ b
    · by_cases h2 : b < l.dt + l.dl
      · go_enter Tryz.func197, Tryz.ntmps197
        go_wp2_with fail
        try rw [hW1]
        go_ret
        exact ⟨by simp [blkB, h1, h2], b1⟩
      · go_enter Tryz.func197, Tryz.ntmps197
        go_wp2_with fail
        try rw [hW1]
        go_ret
        have e0 : (b == 0) = false := by simpa using h0
        exact ⟨by rw [e0]; simp [blkB, h0, h2], b1⟩
    · go_enter Tryz.func197, Tryz.ntmps197
      go_wp2_with fail
      try rw [hW1]
      go_ret
      have e0 : (b == 0) = false := by simpa using h0
      have e1 : ¬ l.dt ≤ b := by omega
      exact ⟨by rw [e0]; simp [blkB, h0, e1], b1⟩
theorem dirs_at (x : Ino) (i : Nat) (hi : i < 8) : ((List.range 8).map fun i => Value.int .i64 (x.dir i)).toArray[i]? = some (.int .i64 (x.dir i)) := by
  simp [hi]
theorem ix_d8 (w : World) (A : Array Value) (i : Nat) (hi : i < 8) (X : Int) (h : A[i]? = some (.int .i64 X)) : (Instr.index 36 (.agg A) (.int .i64 (i : Int))).run Tryz.prog w = .ok (.int .i64 X) w := by
  have h1 : (0 : Int) ≤ i ∧ (i : Int) < 8 := by omega
  have h2 : ((i : Int)).toNat = i := by omega
  simp [Instr.index, asIntOf, run_underlying Tryz.underlying36, go_sem, part, h1, h2, h]
  intro q
  omega
def allB (l : Lay) (x : Ino) : Bool := (List.range 8).all (fun i => blkB l (x.dir i))
def mayBI (l : Lay) (x : Ino) : Bool := decide (kindB x.kind = true ∧ 0 ≤ x.size ∧ x.size ≤ 69632 ∧ 0 ≤ x.change ∧ x.change ≤ 4611686018427387904 ∧ allB l x = true ∧ blkB l x.ind = true)
attribute [local go_sem ↓ 100000] in_store in_load d8_load
set_option maxHeartbeats 4000000 in
theorem mayBeI_any (l : Lay) (hd : Dat l) (x : Ino) (w : World) :
    Calls Tryz.prog 143 #[lyV l, inV x] w fun e w' => e = .returned (.bool (mayBI l x)) ∧ Below w.heap.size w w' := by
  obtain ⟨W1, hW1⟩ : ∃ W, w.alloc (.cells #[.int .i64 l.bo, .int .i64 l.jr, .int .i64 l.jl, .int .i64 l.le, .int .i64 l.ll, .int .i64 l.bi, .int .i64 l.bl, .int .i64 l.ta, .int .i64 l.tl, .int .i64 l.dt, .int .i64 l.dl, .int .i64 l.to, .int .i64 l.sh.cl, .int .i64 l.sh.wi, .int .i64 l.sh.pl, .int .i64 l.sh.ca, .int .i64 l.sh.ino, .int .i64 l.sh.qu, .int .i64 l.sh.da, .int .i64 l.sh.jo] 60) = W := ⟨_, rfl⟩
  have b1 : Below w.heap.size w W1 := by rw [← hW1]; exact (Below.refl _ w).alloc (Nat.le_refl _) _
  have s1 : W1.heap.size = w.heap.size + 1 := by rw [← hW1]; simp
  have L1 : LyB W1 w.heap.size l := by rw [← hW1]; exact LyB.new w l
  obtain ⟨W2, hW2⟩ : ∃ W, W1.alloc (.cells (inA x) 38) = W := ⟨_, rfl⟩
  have b2 : Below W1.heap.size W1 W2 := by rw [← hW2]; exact (Below.refl _ W1).alloc (Nat.le_refl _) _
  have hst := fun o a next Q => InStore.new (inA x) #[.int .i64 0, .int .i64 0, .int .i64 0, .int .i64 0, .int .i64 0, .int .i64 0, .int .i64 0, .int .i64 0, .int .i64 0, .int .i64 0, .int .i64 0, .int .i64 0, .int .i64 0] 38 rfl rfl (inA_one x) W1 o a next Q
  rw [hW2] at hst
  have X2 : InBox W2 (w.heap.size + 1) x := by rw [← hW2, ← s1]; exact heap_alloc_last W1 _
  have L2 := L1.below b2
  have b02 : Below w.heap.size w W2 := b1.trans (b2.mono b1.size)
  have s2 : W2.heap.size = w.heap.size + 2 := by rw [← hW2]; simp [s1]
  have hC := X2.cells
  have q1 := hC.c1
  have q2 := hC.c2
  have q3 := hC.c3
  rw [Nat.zero_add] at q1 q2 q3
  obtain ⟨A, hA⟩ : ∃ A, ((List.range 8).map fun i => Value.int .i64 (x.dir i)).toArray = A := ⟨_, rfl⟩
  have HA : Hid (∀ i, i < 8 → A[i]? = some (.int .i64 (x.dir i))) := by
    show ∀ i, i < 8 → A[i]? = some (.int .i64 (x.dir i))
    rw [← hA]; exact dirs_at x
  have hd8 := D8Load.mid (w := W2) (b := w.heap.size + 1) (k := 4) hC.dirs (by simp)
  rw [hA] at hd8
  clear b1 b2 L1 hC hA
  by_cases hk : kindB x.kind = true
  case neg =>
    have hk2 : kindB x.kind = false := by simpa using hk
    have HM : Hid (mayBI l x = false) := by
      show mayBI l x = false
      simp [mayBI, hk]
    go_enter Tryz.func143, Tryz.ntmps143
    go_wp2_with fail
    try rw [hW1]
    go_wp2_with fail
    refine (isKind_any x.kind _).mono ?_
    rintro e wq ⟨rfl, hq⟩
    subst wq
    go_wp2_with fail
    go_ret
    exact ⟨by rw [HM.out]; rfl, b02⟩
  by_cases hs0 : 0 ≤ x.size
  case neg =>
    have hs02 := Int.not_le.1 hs0
    have HM : Hid (mayBI l x = false) := by
      show mayBI l x = false
      simp [mayBI, hs0]
    go_enter Tryz.func143, Tryz.ntmps143
    go_wp2_with fail
    try rw [hW1]
    go_wp2_with fail
    refine (isKind_any x.kind _).mono ?_
    rintro e wq ⟨rfl, hq⟩
    subst wq
    go_wp2_with fail
    go_ret
    exact ⟨by rw [HM.out]; rfl, b02⟩
  by_cases hs1 : x.size ≤ 69632
  case neg =>
    have hs12 := Int.not_le.1 hs1
    have HM : Hid (mayBI l x = false) := by
      show mayBI l x = false
      simp [mayBI, hs1]
    go_enter Tryz.func143, Tryz.ntmps143
    go_wp2_with fail
    try rw [hW1]
    go_wp2_with fail
    refine (isKind_any x.kind _).mono ?_
    rintro e wq ⟨rfl, hq⟩
    subst wq
    go_wp2_with fail
    go_ret
    exact ⟨by rw [HM.out]; rfl, b02⟩
  by_cases hc0 : 0 ≤ x.change
  case neg =>
    have hc02 := Int.not_le.1 hc0
    have HM : Hid (mayBI l x = false) := by
      show mayBI l x = false
      simp [mayBI, hc0]
    go_enter Tryz.func143, Tryz.ntmps143
    go_wp2_with fail
    try rw [hW1]
    go_wp2_with fail
    refine (isKind_any x.kind _).mono ?_
    rintro e wq ⟨rfl, hq⟩
    subst wq
    go_wp2_with fail
    go_ret
    exact ⟨by rw [HM.out]; rfl, b02⟩
  by_cases hc1 : x.change ≤ 4611686018427387904
  case neg =>
    have hc12 := Int.not_le.1 hc1
    have HM : Hid (mayBI l x = false) := by
      show mayBI l x = false
      simp [mayBI, hc1]
    go_enter Tryz.func143, Tryz.ntmps143
    go_wp2_with fail
    try rw [hW1]
    go_wp2_with fail
    refine (isKind_any x.kind _).mono ?_
    rintro e wq ⟨rfl, hq⟩
    subst wq
    go_wp2_with fail
    go_ret
    exact ⟨by rw [HM.out]; rfl, b02⟩
  go_enter Tryz.func143, Tryz.ntmps143
  go_wp2_with fail
  try rw [hW1]
  go_wp2_with fail
  refine (isKind_any x.kind _).mono ?_
  rintro e wq ⟨rfl, hq⟩
  subst wq
  go_wp2_with fail
  have HM : Hid (mayBI l x = (allB l x && blkB l x.ind)) := by
    show mayBI l x = _
    simp [mayBI, hk, hs0, hs1, hc0, hc1]
  clear hk hs0 hs1 hc0 hc1 q1 q2 q3 hst hd8
  go_loopw [33] (fun v wr => ∃ i : Nat, i ≤ 8 ∧ v = .int .i64 i ∧ LyB wr w.heap.size l ∧ InBox wr (w.heap.size + 1) x ∧ (∀ j, j < i → blkB l (x.dir j) = true) ∧ Below w.heap.size w wr) (fun v _ => 8 - (intOf v).toNat)
  case atStart => exact ⟨0, by omega, rfl, L2, X2, (fun j hj => by omega), b02⟩
  case round =>
    obtain ⟨i, hi, rfl, L, X, hall, B⟩ := hrel
    have HH : Hid (∀ j, j < i → blkB l (x.dir j) = true) := hall
    clear hall L2 X2
    have hld := L.ld
    by_cases hi8 : i = 8
    · subst hi8
      have q12 := X.cells.c12
      rw [Nat.zero_add] at q12
      go_wp2_with fail
      refine (isBlock_any l hd x.ind _).mono ?_
      rintro e w5 ⟨rfl, b5⟩
      go_wp2
      go_ret
      have ha : allB l x = true := by
        unfold allB
        rw [List.all_eq_true]
        intro j hj
        exact HH.out j (by simpa using hj)
      exact ⟨by rw [HM.out, ha]; rfl, B.trans (b5.mono B.size)⟩
    · have hlt : (i : Int) < 8 := by omega
      have hix := fun w' => ix_d8 w' A i (by omega) (x.dir i) (HA.out i (by omega))
      by_cases hb : blkB l (x.dir i) = true
      · go_wp2_with fail
        refine (isBlock_any l hd (x.dir i) _).mono ?_
        rintro e w5 ⟨rfl, b5⟩
        rw [hb]
        have L5 := L.below b5
        have X5 := X.below b5
        have B5 := B.trans (b5.mono B.size)
        clear hld
        go_wp2_with fail
        exact ⟨⟨i + 1, by omega, rfl, L5, X5, (fun j hj => by
          by_cases e : j = i
          · rw [e]; exact hb
          · exact HH.out j (by omega)), B5⟩, by simp [intOf]; omega⟩
      · have hb : blkB l (x.dir i) = false := by simpa using hb
        go_wp2_with fail
        refine (isBlock_any l hd (x.dir i) _).mono ?_
        rintro e w5 ⟨rfl, b5⟩
        rw [hb]
        have B5 := B.trans (b5.mono B.size)
        clear hld
        go_wp2_with fail
        go_ret
        have ha : allB l x = false := by
          unfold allB
          rw [List.all_eq_false]
          exact ⟨i, by simp; omega, by simp [hb]⟩
        exact ⟨by rw [HM.out, ha]; rfl, B5⟩
end Go.Proofs.YtlcjkbhcbiggcaaGreatDoor
