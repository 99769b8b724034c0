/- NetFull: mathematics, and what its loops hold. -/
import Derived.Test.YtpbanjgjljdepaaK2
namespace Go.Proofs.Ytpbanjgjljdepaa
open Go.RowKit Go.Maps
set_option maxRecDepth 100000
variable {w w' : World} {lab lab' : Nat → Nat} {k j xb : Nat} {v : Value} {F : Nat → Prop} {S : St}

/-- It is under way. -/
def Has (S : St) (n : Int) : Prop := (findS S n).isSome = true
theorem Has.of_mem {f : Fl} (h : f ∈ S.l) : Has S f.no := by unfold Has findS; exact List.find?_isSome.2 ⟨f, h, by simp⟩
theorem Has.mem {n : Int} (h : Has S n) : ∃ f ∈ S.l, f.no = n := by
  obtain ⟨f, hf⟩ := Option.isSome_iff_exists.1 h
  exact ⟨f, List.mem_of_find?_eq_some hf, by have := List.find?_some hf; simpa using this⟩
theorem send_not {to : Int} {d : List Int} (h : S.l.length < 4096) : sendA S = S.last + 1 ∧ (sendS S to d).last = S.last + 1 ∧ (sendS S to d).l = S.l ++ [⟨S.last + 1, to, d⟩] := by
  have hF : ¬ fullS S = true := by unfold fullS; simp; omega
  unfold sendA sendS
  rw [if_neg hF, if_neg hF]; exact ⟨rfl, rfl, rfl⟩
theorem send_full0 {to : Int} {d : List Int} (h : 4096 ≤ S.l.length) : sendA S = 0 ∧ sendS S to d = S := by
  have hF : fullS S = true := by unfold fullS; simp; omega
  unfold sendA sendS
  rw [if_pos hF, if_pos hF]; exact ⟨rfl, rfl⟩
theorem Has.send {to : Int} {d : List Int} {n : Int} (h : Has S n) (hl : S.l.length < 4096) : Has (sendS S to d) n := by
  obtain ⟨f, hf, rfl⟩ := h.mem
  exact Has.of_mem (by rw [(send_not hl).2.2]; exact List.mem_append.2 (Or.inl hf))
theorem Has.sent {to : Int} {d : List Int} (hl : S.l.length < 4096) : Has (sendS S to d) (S.last + 1) :=
  Has.of_mem (f := ⟨S.last + 1, to, d⟩) (by rw [(send_not hl).2.2]; simp)
theorem Has.take {n no : Int} (h : Has S n) (hne : n ≠ no) : Has (takeS S no) n := by
  obtain ⟨f, hf, rfl⟩ := h.mem
  exact Has.of_mem (S := takeS S no) (List.mem_filter.2 ⟨hf, by simpa using hne⟩)
theorem filter_len {no : Int} : ∀ {l : List Fl}, l.Pairwise (fun a b => a.no < b.no) → (∃ f ∈ l, f.no = no) → (l.filter fun f => f.no != no).length + 1 = l.length
  | [], _, ⟨f, hf, _⟩ => by cases hf
  | x :: l, hr, ⟨f, hf, hn⟩ => by
    obtain ⟨p1, p2⟩ := List.pairwise_cons.1 hr
    by_cases q : x.no = no
    · have e1 : l.filter (fun f => f.no != no) = l := List.filter_eq_self.2 fun y hy => by have := p1 y hy; simp; omega
      rw [List.filter_cons_of_neg (by simp [q]), e1]; rfl
    · have hf' : f ∈ l := by
        rcases List.mem_cons.1 hf with r | r
        · rw [r] at hn; exact absurd hn q
        · exact r
      rw [List.filter_cons_of_pos (by simp [q])]
      have := filter_len p2 ⟨f, hf', hn⟩
      simp only [List.length_cons]; omega
theorem take_len {no : Int} (h : Has S no) (ok : S.Ok) : (takeS S no).l.length + 1 = S.l.length := filter_len ok.ris h.mem
theorem Has.E {no : Int} (h : Has S no) : takeE S no = 0 := findS_take no S h
theorem Has.copy {no : Int} (h : Has S no) : copyA S no = sendA S ∧ copyS S no = sendS S (takeT S no) (takeD S no) := by
  unfold copyA copyS; unfold Has at h; rw [if_pos h, if_pos h]; exact ⟨rfl, rfl⟩
/-- What a loop of NetFull holds: a net of so many flights, some of which are known to be there. -/
def Fu (w0 w : World) (xb : Nat) (last : Int) (len : Nat) (P : Int → Prop) : Prop :=
  ∃ S lab, Nt w lab 1 xb S ∧ Wk w0 lab w ∧ S.last = last ∧ S.l.length = len ∧ ∀ n, P n → Has S n
theorem Lies.cut {ao : Option Addr} {n c m : Nat} {d : List Int} (h : Lies w ao n c d) (hm : m ≤ n) : Lies w ao m c (d.take m) :=
  ⟨by rw [List.length_take, h.hlen]; omega, by have := h.hle; omega, fun e => by have := h.hnone e; omega, fun ad had t u hu => by
    rw [List.map_take, List.getElem?_take] at hu
    by_cases ht : t < m
    · rw [if_pos ht] at hu; exact h.hcells ad had t u hu
    · rw [if_neg ht] at hu; cases hu⟩
/-- A send into a net that is not full. -/
theorem Fu.send {w0 : World} {last : Int} {len : Nat} {P : Int → Prop} (h : Fu w0 w xb last len P) (hl : len < 4096) (hl2 : last < 4611686018427387904) (to : Int) {ao : Option Addr} {n c : Nat} {d : List Int} (hL : Lies w ao n c d) (hn : n ≤ 140737488355328) {Q : Int → Prop} (hQ : ∀ n, Q n → P n ∨ n = last + 1) :
    Calls Try.prog 11 #[.pointer (some ⟨xb, 0, none⟩), .agg #[.int .i64 to, .slice ao n c]] w fun e w' => e = .returned (.int .i64 (last + 1)) ∧ Fu w0 w' xb (last + 1) (len + 1) Q := by
  obtain ⟨S, lab, hN, hW, h1, h2, h3⟩ := h
  subst h1; subst h2
  refine (sendN hN hl2 to ao n c d hL hn).mono ?_
  rintro e w' ⟨rfl, h', t⟩
  obtain ⟨q1, q2, q3⟩ := send_not (to := to) (d := d) hl
  refine ⟨by rw [q1], _, _, h', hW.step t (by decide), q2, by rw [q3]; simp, fun n hn => ?_⟩
  rcases hQ n hn with r | r
  · exact (h3 n r).send hl
  · rw [r]; exact Has.sent hl
theorem Fu.sendF {w0 : World} {last : Int} {len : Nat} {P : Int → Prop} (h : Fu w0 w xb last len P) (hl : 4096 ≤ len) (hl2 : last < 4611686018427387904) (to : Int) {ao : Option Addr} {n c : Nat} {d : List Int} (hL : Lies w ao n c d) (hn : n ≤ 140737488355328) :
    Calls Try.prog 11 #[.pointer (some ⟨xb, 0, none⟩), .agg #[.int .i64 to, .slice ao n c]] w fun e w' => e = .returned (.int .i64 0) ∧ Fu w0 w' xb last len P := by
  obtain ⟨S, lab, hN, hW, h1, h2, h3⟩ := h
  subst h1; subst h2
  refine (sendN hN hl2 to ao n c d hL hn).mono ?_
  rintro e w' ⟨rfl, h', t⟩
  obtain ⟨q1, q2⟩ := send_full0 (to := to) (d := d) hl
  rw [q2] at h'
  exact ⟨by rw [q1], _, _, h', hW.step t (by decide), rfl, rfl, h3⟩
theorem Fu.copyF {w0 : World} {last : Int} {len : Nat} {P : Int → Prop} (h : Fu w0 w xb last len P) (hl : 4096 ≤ len) (hl2 : last < 4611686018427387904) {no : Int} (hk : KeyI no) (hP : P no) :
    Calls Try.prog 12 #[.pointer (some ⟨xb, 0, none⟩), .int .i64 no] w fun e w' => e = .returned (.tuple #[.int .i64 0, .int .i64 0]) ∧ Fu w0 w' xb last len P := by
  obtain ⟨S, lab, hN, hW, h1, h2, h3⟩ := h
  subst h1; subst h2
  refine (copyN hN hl2 hk).mono ?_
  rintro e w' ⟨rfl, h', t⟩
  obtain ⟨c1, c2⟩ := (h3 no hP).copy
  obtain ⟨q1, q2⟩ := send_full0 (to := takeT S no) (d := takeD S no) hl
  rw [c2, q2] at h'
  exact ⟨by rw [c1, q1, (h3 no hP).E], _, _, h', hW.step t (by decide), rfl, rfl, h3⟩
theorem Fu.copy {w0 : World} {last : Int} {len : Nat} {P : Int → Prop} (h : Fu w0 w xb last len P) (hl : len < 4096) (hl2 : last < 4611686018427387904) {no : Int} (hk : KeyI no) (hP : P no) :
    Calls Try.prog 12 #[.pointer (some ⟨xb, 0, none⟩), .int .i64 no] w fun e w' => e = .returned (.tuple #[.int .i64 (last + 1), .int .i64 0]) ∧ Fu w0 w' xb (last + 1) (len + 1) P := by
  obtain ⟨S, lab, hN, hW, h1, h2, h3⟩ := h
  subst h1; subst h2
  refine (copyN hN hl2 hk).mono ?_
  rintro e w' ⟨rfl, h', t⟩
  obtain ⟨c1, c2⟩ := (h3 no hP).copy
  obtain ⟨q1, q2, q3⟩ := send_not (to := takeT S no) (d := takeD S no) hl
  rw [c2] at h'
  exact ⟨by rw [c1, q1, (h3 no hP).E], _, _, h', hW.step t (by decide), q2, by rw [q3]; simp, fun n hn => (h3 n hn).send hl⟩
theorem Fu.drop {w0 : World} {last : Int} {len : Nat} {P : Int → Prop} (h : Fu w0 w xb last (len + 1) P) {no : Int} (hk : KeyI no) (hP : P no) {Q : Int → Prop} (hQ : ∀ n, Q n → P n ∧ n ≠ no) :
    Calls Try.prog 14 #[.pointer (some ⟨xb, 0, none⟩), .int .i64 no] w fun e w' => e = .returned (.int .i64 0) ∧ Fu w0 w' xb last len Q := by
  obtain ⟨S, lab, hN, hW, h1, h2, h3⟩ := h
  subst h1
  refine (dropN hN hk).mono ?_
  rintro e w' ⟨rfl, h', t⟩
  have := take_len (h3 no hP) hN.ok
  exact ⟨by rw [(h3 no hP).E], _, _, h', hW.step t (by decide), rfl, by omega, fun n hn => (h3 n (hQ n hn).1).take (hQ n hn).2⟩
theorem Fu.under {w0 : World} {last : Int} {len : Nat} {P : Int → Prop} (h : Fu w0 w xb last len P) :
    Calls Try.prog 15 #[.pointer (some ⟨xb, 0, none⟩)] w fun e w' => ∃ a c, e = .returned (.slice a len c) ∧ Below w0.heap.size w0 w' := by
  obtain ⟨S, lab, hN, hW, h1, h2, h3⟩ := h
  refine (underN hN 2).mono ?_
  rintro e w' ⟨v, fs, rfl, hr, hfl, b⟩
  obtain ⟨a, c, rfl⟩ := own_slice hr.row
  have : fs.length = len := by rw [← h2, ← hfl]; simp
  rw [this]
  exact ⟨a, c, rfl, hW.b.trans (b.mono hW.b.size)⟩
theorem Fu.new {w0 : World} {lab : Nat → Nat} (hW : Wk w0 lab w) : Calls Try.prog 10 #[] w fun e w' => ∃ xb, e = .returned (.pointer (some ⟨xb, 0, none⟩)) ∧ Fu w0 w' xb 0 0 (fun _ => False) := by
  refine (new_any w lab 1).mono ?_
  rintro e w' ⟨xb, rfl, h, b⟩
  exact ⟨xb, rfl, _, _, h, hW.below b 1, rfl, rfl, fun _ q => q.elim⟩
theorem Fu.at {w0 : World} {last : Int} {len : Nat} {P : Int → Prop} (h : Fu w0 w xb last len P) : Below w0.heap.size w0 w := by
  obtain ⟨S, lab, hN, hW, _⟩ := h; exact hW.b
theorem Fu.weak {w0 : World} {last : Int} {len : Nat} {P Q : Int → Prop} (h : Fu w0 w xb last len P) (hQ : ∀ n, Q n → P n) : Fu w0 w xb last len Q := by
  obtain ⟨S, lab, hN, hW, h1, h2, h3⟩ := h; exact ⟨S, lab, hN, hW, h1, h2, fun n q => h3 n (hQ n q)⟩
end Go.Proofs.Ytpbanjgjljdepaa
