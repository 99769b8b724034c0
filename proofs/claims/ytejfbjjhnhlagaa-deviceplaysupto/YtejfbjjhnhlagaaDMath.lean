/- What a device holds, in plain mathematics. -/
import Derived.Test.YtejfbjjhnhlagaaTurns
namespace Go.Proofs.Ytejfbjjhnhlagaa
open Go.RowKit
set_option maxRecDepth 100000

/-- What a device holds: the lasting bytes; what pends; the fuse; whether the power is off. -/
structure DevS where
  last : List Int
  pend : List (Nat × List Int)
  fuse : Nat
  off : Bool
/-- A write is laid over the lasting bytes. -/
def layB (l : List Int) (p : Nat × List Int) : List Int := splice l (512 * p.1) p.2
def layAll (l : List Int) (ps : List (Nat × List Int)) : List Int := ps.foldl layB l
/-- The last write that pends for a block. -/
def newest (ps : List (Nat × List Int)) (b : Nat) : Option (List Int) := (ps.reverse.find? (fun p => p.1 == b)).map (·.2)
/-- What Read tells. -/
def rdB (S : DevS) (b : Nat) : List Int := (newest S.pend b).getD ((S.last.drop (512 * b)).take 512)
/-- A Write or a Flush is counted. -/
def burnt (S : DevS) : DevS := if S.fuse = 0 then S else { S with fuse := S.fuse - 1, off := S.off || decide (S.fuse = 1) }
def wrote (S : DevS) (b : Nat) (d : List Int) : DevS := { S with pend := S.pend ++ [(b, d)] }
def flushed (S : DevS) : DevS := { S with last := layAll S.last S.pend, pend := [] }
/-- The survivors. -/
def kept : List (Nat × List Int) → List Bool → List (Nat × List Int)
  | p :: ps, k :: ks => if k then p :: kept ps ks else kept ps ks
  | _, _ => []
def crashed (S : DevS) (ks : List Bool) : DevS := { last := layAll S.last (kept S.pend ks), pend := [], fuse := 0, off := false }
/-- A new device. -/
def fresh (bs : List Int) : DevS := { last := bs, pend := [], fuse := 0, off := false }

/-- A device that can be. -/
structure Good (S : DevS) (k : Nat) : Prop where
  len : S.last.length = 512 * k
  pos : 1 ≤ k
  top : k ≤ 4096
  by_ : ∀ x ∈ S.last, 0 ≤ x ∧ x ≤ 255
  pend : ∀ p ∈ S.pend, p.1 < k ∧ p.2.length = 512 ∧ ∀ x ∈ p.2, 0 ≤ x ∧ x ≤ 255
  fuse : S.fuse ≤ 9223372036854775807

theorem lay_len {l : List Int} {p : Nat × List Int} {k : Nat} (hl : l.length = 512 * k) (hp : p.1 < k) (hd : p.2.length = 512) : (layB l p).length = 512 * k := by
  unfold layB
  rw [length_splice _ _ _ (by omega), hl]
theorem splice_mem {l d : List Int} {o : Nat} {x : Int} (h : x ∈ splice l o d) : x ∈ l ∨ x ∈ d := by
  unfold splice at h
  simp only [List.mem_append] at h
  rcases h with h | h | h
  · exact Or.inl (List.mem_of_mem_take h)
  · exact Or.inr h
  · exact Or.inl (List.mem_of_mem_drop h)
theorem layAll_good {k : Nat} : ∀ (ps : List (Nat × List Int)) (l : List Int), l.length = 512 * k → (∀ x ∈ l, 0 ≤ x ∧ x ≤ 255) → (∀ p ∈ ps, p.1 < k ∧ p.2.length = 512 ∧ ∀ x ∈ p.2, 0 ≤ x ∧ x ≤ 255) → (layAll l ps).length = 512 * k ∧ ∀ x ∈ layAll l ps, 0 ≤ x ∧ x ≤ 255
  | [], l, h1, h2, _ => ⟨h1, h2⟩
  | p :: ps, l, h1, h2, h3 => by
    have hp := h3 p (by simp)
    refine layAll_good ps (layB l p) (lay_len h1 hp.1 hp.2.1) (fun x hx => ?_) (fun q hq => h3 q (by simp [hq]))
    rcases splice_mem hx with h | h
    · exact h2 x h
    · exact hp.2.2 x h
theorem kept_mem : ∀ {ps : List (Nat × List Int)} {ks : List Bool} {p : Nat × List Int}, p ∈ kept ps ks → p ∈ ps
  | [], _, p, h => by cases h
  | q :: ps, [], p, h => by cases h
  | q :: ps, k :: ks, p, h => by
    unfold kept at h
    split at h
    · rcases List.mem_cons.1 h with rfl | h
      · simp
      · exact List.mem_cons_of_mem _ (kept_mem h)
    · exact List.mem_cons_of_mem _ (kept_mem h)
theorem Good.fresh {bs : List Int} {k : Nat} (hl : bs.length = 512 * k) (h1 : 1 ≤ k) (h2 : k ≤ 4096) (hb : ∀ x ∈ bs, 0 ≤ x ∧ x ≤ 255) : Good (fresh bs) k :=
  ⟨hl, h1, h2, hb, (fun p hp => by cases hp), Nat.zero_le _⟩
theorem Good.burnt {S : DevS} {k : Nat} (h : Good S k) : Good (burnt S) k := by
  unfold Go.Proofs.Ytejfbjjhnhlagaa.burnt
  split
  · exact h
  · exact ⟨h.len, h.pos, h.top, h.by_, h.pend, by have := h.fuse; simp; omega⟩
theorem Good.wrote {S : DevS} {k : Nat} (h : Good S k) {b : Nat} {d : List Int} (hb : b < k) (hd : d.length = 512) (hy : ∀ x ∈ d, 0 ≤ x ∧ x ≤ 255) : Good (wrote S b d) k :=
  ⟨h.len, h.pos, h.top, h.by_, fun p hp => by
    rcases List.mem_append.1 hp with hp | hp
    · exact h.pend p hp
    · obtain rfl := List.mem_singleton.1 hp; exact ⟨hb, hd, hy⟩, h.fuse⟩
theorem Good.flushed {S : DevS} {k : Nat} (h : Good S k) : Good (flushed S) k := by
  obtain ⟨a, b⟩ := layAll_good S.pend S.last h.len h.by_ h.pend
  exact ⟨a, h.pos, h.top, b, (fun p hp => by cases hp), h.fuse⟩
theorem Good.crashed {S : DevS} {k : Nat} (h : Good S k) (ks : List Bool) : Good (crashed S ks) k := by
  obtain ⟨a, b⟩ := layAll_good (kept S.pend ks) S.last h.len h.by_ (fun p hp => h.pend p (kept_mem hp))
  exact ⟨a, h.pos, h.top, b, (fun p hp => by cases hp), Nat.zero_le _⟩
theorem newest_snoc (ps : List (Nat × List Int)) (b : Nat) (d : List Int) (x : Nat) : newest (ps ++ [(b, d)]) x = if b = x then some d else newest ps x := by
  unfold newest
  rw [List.reverse_append]
  by_cases h : b = x
  · simp [h]
  · simp [h]
end Go.Proofs.Ytejfbjjhnhlagaa
