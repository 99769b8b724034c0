/- Words of a line, as plain mathematics: by a row of states, byte by byte; and as they are written. -/
namespace Go.Proofs.YtjkmdacgiebbfaaDoor

abbrev By := List UInt8

def blankB (b : UInt8) : Bool := b == 32 || b == 9
def bareB (b : UInt8) : Bool := (decide (97 ≤ b.toNat) && decide (b.toNat ≤ 122)) || (decide (65 ≤ b.toNat) && decide (b.toNat ≤ 90)) || (decide (48 ≤ b.toNat) && decide (b.toNat ≤ 57)) || b == 95 || b == 46 || b == 45 || b == 47
def plainB (b : UInt8) : Bool := decide (32 ≤ b.toNat) && decide (b.toNat ≤ 126)
/-- A hex digit's worth. -/
def hexB (b : UInt8) : Option UInt8 := if 48 ≤ b.toNat ∧ b.toNat ≤ 57 then some (b - 48) else if 97 ≤ b.toNat ∧ b.toNat ≤ 102 then some (b - 97 + 10) else if 65 ≤ b.toNat ∧ b.toNat ≤ 70 then some (b - 65 + 10) else none
/-- A digit of a worth. -/
def digB (v : UInt8) : UInt8 := if v.toNat < 10 then 48 + v else 87 + v
def quoteB (b : UInt8) : By := if b = 34 ∨ b = 92 then [92, b] else if plainB b = true then [b] else [92, 120, digB (b >>> 4), digB (b &&& 15)]
def bareW (l : By) : Bool := !l.isEmpty && l.all bareB
/-- A text as a word. -/
def textT (l : By) : By := if bareW l = true then l else 34 :: (l.flatMap quoteB ++ [34])

/-- How far a line has been read. -/
structure Rd where
  st : Nat
  ws : List By
  wd : By
  hi : UInt8
def Rd.put (s : Rd) (b : UInt8) (st : Nat) : Rd := { s with wd := s.wd ++ [b], st := st }
def Rd.endW (s : Rd) (st : Nat) : Rd := { s with ws := s.ws ++ [s.wd], wd := [], st := st }
def Rd.to (s : Rd) (st : Nat) : Rd := { s with st := st }
def Rd.goOn (s : Rd) (b : UInt8) : Option Rd := if blankB b = true then some (s.endW 0) else if bareB b = true then some (s.put b 1) else none
def Rd.begin (s : Rd) (b : UInt8) : Option Rd := if blankB b = true then some s else if b = 35 then some (s.to 7) else if b = 34 then some (s.to 2) else s.goOn b
def Rd.quote (s : Rd) (b : UInt8) : Option Rd := if b = 34 then some (s.endW 6) else if b = 92 then some (s.to 3) else if plainB b = true then some (s.put b 2) else none
def Rd.esc (s : Rd) (b : UInt8) : Option Rd := if b = 120 then some (s.to 4) else if b = 34 ∨ b = 92 then some (s.put b 2) else none
def Rd.hex1 (s : Rd) (b : UInt8) : Option Rd := (hexB b).map fun h => { s with hi := h, st := 5 }
def Rd.hex2 (s : Rd) (b : UInt8) : Option Rd := (hexB b).map fun h => s.put (s.hi <<< 4 ||| h) 2
def Rd.tail (s : Rd) (b : UInt8) : Option Rd := if blankB b = true then some (s.to 0) else none
def Rd.take (s : Rd) (b : UInt8) : Option Rd := match s.st with
  | 0 => s.begin b
  | 1 => s.goOn b
  | 2 => s.quote b
  | 3 => s.esc b
  | 4 => s.hex1 b
  | 5 => s.hex2 b
  | _ => s.tail b
def Rd.run : Rd → By → Option Rd
  | s, [] => some s
  | s, b :: r => if s.st = 7 then some s else match s.take b with
    | none => none
    | some s' => s'.run r
def Rd.fin (s : Rd) : Option (List By) :=
  if s.st = 1 then some (s.ws ++ [s.wd]) else if s.st = 0 ∨ s.st = 6 ∨ s.st = 7 then some s.ws else none
def rd0 : Rd := ⟨0, [], [], 0⟩
/-- The words of a line from a state on. -/
def Rd.out (s : Rd) (l : By) : Option (List By) := (s.run l).bind Rd.fin
def wordsL (l : By) : Option (List By) := rd0.out l

theorem out_nil (s : Rd) : s.out [] = s.fin := rfl
theorem out_cons (s : Rd) (b : UInt8) (r : By) (h : s.st ≠ 7) : s.out (b :: r) = (s.take b).bind (fun t => t.out r) := by
  unfold Rd.out
  rw [Rd.run, if_neg h]
  cases s.take b <;> rfl
theorem out_comment (s : Rd) (l : By) (h : s.st = 7) : s.out l = some s.ws := by
  cases l with
  | nil => rw [out_nil]; unfold Rd.fin; rw [if_neg (by omega), if_pos (Or.inr (Or.inr h))]
  | cons b r =>
    unfold Rd.out
    rw [Rd.run, if_pos h]
    show s.fin = _
    unfold Rd.fin; rw [if_neg (by omega), if_pos (Or.inr (Or.inr h))]

theorem out_step (st : Nat) (ws : List By) (wd : By) (hi b : UInt8) (r : By) (h : st ≠ 7) : Rd.out ⟨st, ws, wd, hi⟩ (b :: r) = (Rd.take ⟨st, ws, wd, hi⟩ b).bind (fun t => t.out r) := out_cons _ _ _ h

/-- At a gap. -/
abbrev gap (ws : List By) (hi : UInt8) : Rd := ⟨0, ws, [], hi⟩
theorem hi_free : ∀ (l : By) (st : Nat) (ws : List By) (wd : By) (h1 h2 : UInt8), st ≠ 5 → Rd.out ⟨st, ws, wd, h1⟩ l = Rd.out ⟨st, ws, wd, h2⟩ l
  | [], st, ws, wd, h1, h2, hs => rfl
  | b :: r, st, ws, wd, h1, h2, hs => by
    by_cases h7 : st = 7
    · rw [out_comment _ _ h7, out_comment _ _ h7]
    · rw [out_cons _ _ _ h7, out_cons _ _ _ h7]
      have ih := fun st ws wd h => hi_free r st ws wd h1 h2 h
      match st, hs, h7 with
      | 0, _, _ =>
        simp only [Rd.take, Rd.begin, Rd.goOn, Rd.put, Rd.endW, Rd.to]
        split
        · exact ih _ _ _ (by decide)
        · split
          · exact ih _ _ _ (by decide)
          · split
            · exact ih _ _ _ (by decide)
            · split
              · exact ih _ _ _ (by decide)
              · rfl
      | 1, _, _ =>
        simp only [Rd.take, Rd.goOn, Rd.put, Rd.endW]
        split
        · exact ih _ _ _ (by decide)
        · split
          · exact ih _ _ _ (by decide)
          · rfl
      | 2, _, _ =>
        simp only [Rd.take, Rd.quote, Rd.put, Rd.endW, Rd.to]
        split
        · exact ih _ _ _ (by decide)
        · split
          · exact ih _ _ _ (by decide)
          · split
            · exact ih _ _ _ (by decide)
            · rfl
      | 3, _, _ =>
        simp only [Rd.take, Rd.esc, Rd.put, Rd.to]
        split
        · exact ih _ _ _ (by decide)
        · split
          · exact ih _ _ _ (by decide)
          · rfl
      | 4, _, _ =>
        simp only [Rd.take, Rd.hex1]
      | n + 6, _, _ =>
        simp only [Rd.take, Rd.tail, Rd.to]
        split
        · exact ih _ _ _ (by decide)
        · rfl
theorem u8_all {p : UInt8 → Prop} (h : ∀ n : Fin 256, p (UInt8.ofNat n.val)) (b : UInt8) : p b := by
  have := h ⟨b.toNat, b.toNat_lt⟩
  simpa using this
theorem bare_not (b : UInt8) (h : bareB b = true) : blankB b = false ∧ b ≠ 35 ∧ b ≠ 34 := by
  have := u8_all (p := fun b => bareB b = true → blankB b = false ∧ b ≠ 35 ∧ b ≠ 34) (by decide +kernel) b
  exact this h
theorem hex_dig (b : UInt8) : (digB (b >>> 4)) ≠ 34 ∧ hexB (digB (b >>> 4)) = some (b >>> 4) ∧ hexB (digB (b &&& 15)) = some (b &&& 15) ∧ ((b >>> 4) <<< 4 ||| (b &&& 15)) = b := by
  exact u8_all (p := fun b => (digB (b >>> 4)) ≠ 34 ∧ hexB (digB (b >>> 4)) = some (b >>> 4) ∧ hexB (digB (b &&& 15)) = some (b &&& 15) ∧ ((b >>> 4) <<< 4 ||| (b &&& 15)) = b) (by decide +kernel) b
theorem bare_run : ∀ (w : By) (ws : List By) (wd : By) (hi : UInt8) (r : By), w.all bareB = true → Rd.out ⟨1, ws, wd, hi⟩ (w ++ r) = Rd.out ⟨1, ws, wd ++ w, hi⟩ r
  | [], ws, wd, hi, r, _ => by simp
  | b :: w, ws, wd, hi, r, h => by
    rw [List.all_cons, Bool.and_eq_true] at h
    obtain ⟨n1, n2, n3⟩ := bare_not b h.1
    rw [List.cons_append, out_step _ _ _ _ _ _ (by decide)]
    simp only [Rd.take, Rd.goOn, n1, h.1, Rd.put]
    show Rd.out _ _ = _
    rw [bare_run w ws _ hi r h.2]
    simp
theorem quote_run : ∀ (w : By) (ws : List By) (wd : By) (hi : UInt8) (r : By), Rd.out ⟨2, ws, wd, hi⟩ (w.flatMap quoteB ++ r) = Rd.out ⟨2, ws, wd ++ w, hi⟩ r
  | [], ws, wd, hi, r => by simp
  | b :: w, ws, wd, hi, r => by
    rw [List.flatMap_cons, List.append_assoc]
    have key : Rd.out ⟨2, ws, wd, hi⟩ (quoteB b ++ (w.flatMap quoteB ++ r)) = Rd.out ⟨2, ws, wd ++ [b], hi⟩ (w.flatMap quoteB ++ r) := by
      unfold quoteB
      split
      · rename_i h
        rw [List.cons_append, out_step _ _ _ _ _ _ (by decide)]
        simp only [Rd.take, Rd.quote, Rd.to, show ((92 : UInt8) = 34) = False by decide, if_false, if_true, Option.bind_some, List.cons_append, List.nil_append]
        rw [out_step _ _ _ _ _ _ (by decide)]
        have h120 : b ≠ 120 := by rcases h with h | h <;> (subst h; decide)
        simp only [Rd.take, Rd.esc, Rd.put, h120, h, if_false, if_true, Option.bind_some]
      · rename_i h
        have g1 : b ≠ 34 := fun e => h (Or.inl e)
        have g2 : b ≠ 92 := fun e => h (Or.inr e)
        split
        · rename_i hp
          rw [List.cons_append, out_step _ _ _ _ _ _ (by decide)]
          simp only [Rd.take, Rd.quote, Rd.put, g1, g2, hp, if_false, if_true, Option.bind_some, List.nil_append]
        · obtain ⟨_, e1, e2, e3⟩ := hex_dig b
          simp only [List.cons_append, List.nil_append]
          rw [out_step _ _ _ _ _ _ (by decide)]
          simp only [Rd.take, Rd.quote, Rd.to, show ((92 : UInt8) = 34) = False by decide, if_false, if_true, Option.bind_some]
          rw [out_step _ _ _ _ _ _ (by decide)]
          simp only [Rd.take, Rd.esc, Rd.to, if_true, Option.bind_some]
          rw [out_step _ _ _ _ _ _ (by decide)]
          simp only [Rd.take, Rd.hex1, e1, Option.map_some, Option.bind_some]
          rw [out_step _ _ _ _ _ _ (by decide)]
          simp only [Rd.take, Rd.hex2, e2, Option.map_some, Option.bind_some, Rd.put, e3]
          exact hi_free _ _ _ _ _ _ (by decide)
    rw [key, quote_run w ws _ hi r]
    simp
/-- A word as it is written, ahead of a blank or of the end. -/
theorem text_blank (w : By) (ws : List By) (hi b : UInt8) (r : By) (hb : blankB b = true) : Rd.out (gap ws hi) (textT w ++ b :: r) = Rd.out (gap (ws ++ [w]) hi) r := by
  unfold textT
  split
  · rename_i h
    unfold bareW at h
    rw [Bool.and_eq_true] at h
    cases w with
    | nil => exact absurd h.1 (by decide)
    | cons x w =>
      have h2 := h.2
      rw [List.all_cons, Bool.and_eq_true] at h2
      obtain ⟨n1, n2, n3⟩ := bare_not x h2.1
      rw [List.cons_append, out_step _ _ _ _ _ _ (by decide)]
      simp only [Rd.take, Rd.begin, Rd.goOn, n1, n2, n3, h2.1, Rd.put, if_false]
      show Rd.out _ _ = _
      rw [bare_run w ws _ hi _ h2.2, out_step _ _ _ _ _ _ (by decide)]
      simp only [Rd.take, Rd.goOn, hb, Rd.endW, if_true, Option.bind_some]
      simp
  · rw [List.cons_append, out_step _ _ _ _ _ _ (by decide)]
    simp only [Rd.take, Rd.begin, show blankB 34 = false by decide, show ((34 : UInt8) = 35) = False by decide, if_false, if_true, Rd.to]
    show Rd.out _ _ = _
    rw [List.append_assoc, quote_run, List.cons_append, out_step _ _ _ _ _ _ (by decide)]
    simp only [Rd.take, Rd.quote, Rd.endW, if_true, Option.bind_some, List.nil_append]
    rw [out_step _ _ _ _ _ _ (by decide)]
    simp only [Rd.take, Rd.tail, hb, Rd.to, if_true, Option.bind_some]
theorem text_end (w : By) (ws : List By) (hi : UInt8) : Rd.out (gap ws hi) (textT w) = some (ws ++ [w]) := by
  unfold textT
  split
  · rename_i h
    unfold bareW at h
    rw [Bool.and_eq_true] at h
    cases w with
    | nil => exact absurd h.1 (by decide)
    | cons x w =>
      have h2 := h.2
      rw [List.all_cons, Bool.and_eq_true] at h2
      obtain ⟨n1, n2, n3⟩ := bare_not x h2.1
      rw [out_step _ _ _ _ _ _ (by decide)]
      simp only [Rd.take, Rd.begin, Rd.goOn, n1, n2, n3, h2.1, Rd.put, if_false]
      show Rd.out _ _ = _
      have := bare_run w ws [x] hi [] h2.2
      rw [List.append_nil] at this
      simp only [List.nil_append] at *
      rw [this]
      rfl
  · rw [out_step _ _ _ _ _ _ (by decide)]
    simp only [Rd.take, Rd.begin, show blankB 34 = false by decide, show ((34 : UInt8) = 35) = False by decide, if_false, if_true, Rd.to]
    show Rd.out _ _ = _
    rw [quote_run, out_step _ _ _ _ _ _ (by decide)]
    simp only [Rd.take, Rd.quote, Rd.endW, if_true, Option.bind_some, List.nil_append]
    rfl
end Go.Proofs.YtjkmdacgiebbfaaDoor
