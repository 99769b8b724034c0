/- The book and the table: mathematics. -/
import Derived.Test.YtlcjkbhcbiggcaaGreatDoorB2
import Derived.Test.YtlcjkbhcbiggcaaGreatDoorB3
import Derived.Test.YtlcjkbhcbiggcaaGreatDoorB4
namespace Go.Proofs.YtlcjkbhcbiggcaaGreatDoor
open Go.RowKit Go.Maps
set_option maxRecDepth 100000

/-- What a slot shows in All. -/
def slI (r : Rec) (n : Nat) : List Ino := if r.kind = 0 then [] else [r.ino (r.gen * 256 + n)]
theorem used_congr {T T' : Nat → Rec} : ∀ {N : Nat}, (∀ k, k < N → T k = T' k) → used T N = used T' N
  | 0, _ => rfl
  | N + 1, h => by
    unfold used
    rw [used_congr (fun k hk => h k (by omega)), h N (by omega)]
theorem used_split (T : Nat → Rec) (n : Nat) : ∀ N, n < N → ∃ A C, used T N = A ++ slI (T n) n ++ C ∧ ∀ r, used (updT T (some (n, r))) N = A ++ slI r n ++ C
  | 0, h => absurd h (by omega)
  | N + 1, h => by
    by_cases e : n = N
    · subst e
      refine ⟨used T n, [], by simp [used, slI], fun r => ?_⟩
      have q : used (updT T (some (n, r))) n = used T n := used_congr (fun k hk => by simp [updT, show k ≠ n by omega])
      have q2 : updT T (some (n, r)) n = r := by simp [updT]
      rw [List.append_nil]
      show used (updT T (some (n, r))) n ++ slI (updT T (some (n, r)) n) n = used T n ++ slI r n
      rw [q, q2]
    · obtain ⟨A, C, h1, h2⟩ := used_split T n N (by omega)
      refine ⟨A, C ++ slI (T N) N, ?_, fun r => ?_⟩
      · unfold used
        rw [h1]
        simp [slI]
      · have q2 : updT T (some (n, r)) N = T N := by simp [updT, show N ≠ n by omega]
        unfold used
        rw [h2 r, q2]
        simp [slI]
theorem used_mem (T : Nat → Rec) (x : Ino) : ∀ N, x ∈ used T N ↔ ∃ n, n < N ∧ (T n).kind ≠ 0 ∧ x = (T n).ino ((T n).gen * 256 + n)
  | 0 => by simp [used]
  | N + 1 => by
    unfold used
    rw [List.mem_append, used_mem T x N]
    constructor
    · rintro (⟨n, h1, h2⟩ | h)
      · exact ⟨n, by omega, h2⟩
      · by_cases k : (T N).kind = 0
        · simp [k] at h
        · simp [k] at h
          exact ⟨N, by omega, k, h⟩
    · rintro ⟨n, h1, h2, h3⟩
      by_cases e : n = N
      · subst e
        right
        simp [h2, h3]
      · exact Or.inl ⟨n, by omega, h2, h3⟩
/-- The book tells what the table holds. -/
structure Bok (N : Nat) (T : Nat → Rec) (L : List Ino) (G : List Int) : Prop where
  perm : L.Perm (used T N)
  giv : ∀ id, id ∈ G → ∃ (n : Nat) (g : Int), n < N ∧ id = g * 256 + (n : Int) ∧ g ≤ (T n).gen
  gen : ∀ n, n < N → 0 ≤ (T n).gen ∧ (T n).gen ≤ G.length
  n2 : N ≤ 256
theorem Bok.mem {N : Nat} {T : Nat → Rec} {L : List Ino} {G : List Int} (h : Bok N T L G) (x : Ino) : x ∈ L ↔ ∃ n, n < N ∧ (T n).kind ≠ 0 ∧ x = (T n).ino ((T n).gen * 256 + n) := by
  rw [h.perm.mem_iff, used_mem]
theorem Bok.len {N : Nat} {T : Nat → Rec} {L : List Ino} {G : List Int} (h : Bok N T L G) : L.length ≤ N := by
  rw [h.perm.length_eq]
  exact used_len T N
theorem Bok.pos {N : Nat} {T : Nat → Rec} {L : List Ino} {G : List Int} (h : Bok N T L G) : ∀ (j : Nat) (y : Ino), L[j]? = some y → 0 ≤ y.id := by
  intro j y hy
  obtain ⟨n, h1, h2, rfl⟩ := (h.mem y).1 (List.mem_of_getElem? hy)
  have := (h.gen n h1).1
  show 0 ≤ (T n).gen * 256 + (n : Int)
  omega
theorem Bok.nos {N : Nat} {T : Nat → Rec} {L : List Ino} {G : List Int} (h : Bok N T L G) {s : Nat} (hs : s < N) : NoS L s L.length ↔ (T s).kind = 0 := by
  have h2 := h.n2
  constructor
  · intro q
    apply Classical.byContradiction
    intro hk
    have hm : (T s).ino ((T s).gen * 256 + s) ∈ L := (h.mem _).2 ⟨s, hs, hk, rfl⟩
    obtain ⟨j, hj⟩ := List.mem_iff_getElem?.1 hm
    have := q j _ (List.getElem?_eq_some_iff.1 hj).1 hj
    apply this
    show ((T s).gen * 256 + (s : Int)) % 256 = s
    omega
  · intro hk j y _ hy
    obtain ⟨n, h1, h2, rfl⟩ := (h.mem y).1 (List.mem_of_getElem? hy)
    show ((T n).gen * 256 + (n : Int)) % 256 ≠ s
    intro q
    have : n = s := by omega
    subst this
    exact h2 hk
theorem Bok.low {N s : Nat} {T : Nat → Rec} {L : List Ino} {G : List Int} (h : Bok N T L G) (q : LwR L N s) : s ≤ N ∧ (∀ j, j < s → (T j).kind ≠ 0) ∧ (s < N → (T s).kind = 0) :=
  ⟨q.1, fun j hj k => q.2.1 j hj ((h.nos (by have := q.1; omega)).2 k), fun hs => (h.nos hs).1 (q.2.2 hs)⟩
theorem Bok.has {N : Nat} {T : Nat → Rec} {L : List Ino} {G : List Int} (h : Bok N T L G) {id r : Int} (q : FndR L id r) : (r = -1 ∧ ∀ n, ¬ Has T N id n) ∨ ∃ (j n : Nat), r = j ∧ Has T N id n ∧ L[j]? = some ((T n).ino id) := by
  rcases q with ⟨q1, q2⟩ | ⟨j, x, q1, q2, q3⟩
  · refine Or.inl ⟨q1, fun n hn => ?_⟩
    have hm : (T n).ino ((T n).gen * 256 + n) ∈ L := (h.mem _).2 ⟨n, hn.lt, hn.us, rfl⟩
    obtain ⟨j, hj⟩ := List.mem_iff_getElem?.1 hm
    exact q2 j _ hj hn.id
  · obtain ⟨n, h1, h2, rfl⟩ := (h.mem x).1 (List.mem_of_getElem? q2)
    have q4 : (T n).gen * 256 + (n : Int) = id := q3
    rw [q4] at q2
    exact Or.inr ⟨j, n, q1, ⟨h1, h2, q4⟩, q2⟩
theorem Bok.fresh {N n : Nat} {T : Nat → Rec} {L : List Ino} {G : List Int} (h : Bok N T L G) (hn : n < N) : ((T n).gen + 1) * 256 + (n : Int) ∉ G := by
  intro q
  obtain ⟨k, g, h1, h2, h3⟩ := h.giv _ q
  have h4 := h.n2
  have : k = n := by omega
  subst this
  omega
theorem Bok.new {N n : Nat} {T : Nat → Rec} {L : List Ino} {G : List Int} (h : Bok N T L G) (hn : n < N) (hk : (T n).kind = 0) (k : Int) (seq : Nat) (hk2 : k ≠ 0) :
    Bok N (updT T (some (n, recOf ((T n).gen + 1) (inoN ((T n).gen + 1) n k seq)))) (L ++ [inoN ((T n).gen + 1) n k seq]) (G ++ [((T n).gen + 1) * 256 + (n : Int)]) := by
  obtain ⟨A, C, h1, h2⟩ := used_split T n N hn
  have hg := h.gen n hn
  refine ⟨?_, fun id hid => ?_, fun j hj => ?_, h.n2⟩
  · rw [h2]
    have e1 : slI (T n) n = [] := by simp [slI, hk]
    have e2 : slI (recOf ((T n).gen + 1) (inoN ((T n).gen + 1) n k seq)) n = [inoN ((T n).gen + 1) n k seq] := by
      unfold slI
      rw [if_neg (show ¬ (recOf ((T n).gen + 1) (inoN ((T n).gen + 1) n k seq)).kind = 0 from hk2)]
      rfl
    rw [e2]
    have h3 := h.perm
    rw [h1, e1, List.append_nil] at h3
    have h4 : (L ++ [inoN ((T n).gen + 1) n k seq]).Perm (A ++ C ++ [inoN ((T n).gen + 1) n k seq]) := h3.append_right _
    refine h4.trans ?_
    rw [List.append_assoc, List.append_assoc]
    exact (List.perm_append_comm).append_left A
  · rcases List.mem_append.1 hid with q | q
    · obtain ⟨j, g, q1, q2, q3⟩ := h.giv id q
      refine ⟨j, g, q1, q2, ?_⟩
      unfold updT
      by_cases e : j = n
      · subst e
        simp only [if_true]
        show g ≤ (T j).gen + 1
        omega
      · simp only [e, if_false]
        exact q3
    · refine ⟨n, (T n).gen + 1, hn, by simpa using q, ?_⟩
      simp [updT, recOf]
  · unfold updT
    by_cases e : j = n
    · subst e
      simp only [if_true]
      show 0 ≤ (T j).gen + 1 ∧ (T j).gen + 1 ≤ _
      simp
      omega
    · simp only [e, if_false]
      have := h.gen j hj
      simp
      omega
theorem Bok.put {N n j : Nat} {T : Nat → Rec} {L : List Ino} {G : List Int} (h : Bok N T L G) (x : Ino) (hn : Has T N x.id n) (hj : L[j]? = some ((T n).ino x.id)) (hk : (T n).kind = x.kind) :
    Bok N (updT T (some (n, recOf (T n).gen x))) (L.set j x) G := by
  obtain ⟨A, C, h1, h2⟩ := used_split T n N hn.lt
  have hjl := (List.getElem?_eq_some_iff.1 hj).1
  refine ⟨?_, fun id hid => ?_, fun k hkN => ?_, h.n2⟩
  · rw [h2]
    have e1 : slI (T n) n = [(T n).ino x.id] := by unfold slI; rw [if_neg hn.us, hn.id]
    have e2 : slI (recOf (T n).gen x) n = [x] := by
      unfold slI
      rw [if_neg (show ¬ (recOf _ _).kind = 0 from fun q => hn.us (hk.trans q))]
      show [(recOf (T n).gen x).ino ((T n).gen * 256 + n)] = [x]
      rw [hn.id]
      rfl
    rw [e2]
    have h3 := h.perm
    rw [h1, e1] at h3
    have e3 : L = L.take j ++ (T n).ino x.id :: L.drop (j + 1) := by
      have := (List.getElem?_eq_some_iff.1 hj).2
      rw [← this, List.getElem_cons_drop, List.take_append_drop]
    rw [e3] at h3
    have h4 : (L.take j ++ L.drop (j + 1)).Perm (A ++ C) := by
      have p1 : ((T n).ino x.id :: (L.take j ++ L.drop (j + 1))).Perm ((T n).ino x.id :: (A ++ C)) := by
        refine List.perm_middle.symm.trans (h3.trans ?_)
        rw [List.append_assoc]
        exact List.perm_middle
      exact List.Perm.cons_inv p1
    rw [List.set_eq_take_append_cons_drop, if_pos hjl]
    refine List.perm_middle.trans ((h4.cons x).trans ?_)
    rw [List.append_assoc]
    exact List.perm_middle.symm
  · obtain ⟨k, g, q1, q2, q3⟩ := h.giv id hid
    refine ⟨k, g, q1, q2, ?_⟩
    unfold updT
    by_cases e : k = n
    · subst e; simp only [if_true]; exact q3
    · simp only [e, if_false]; exact q3
  · unfold updT
    by_cases e : k = n
    · subst e; simp only [if_true]; exact h.gen k hkN
    · simp only [e, if_false]; exact h.gen k hkN
theorem Bok.free {N n j : Nat} {T : Nat → Rec} {L : List Ino} {G : List Int} (h : Bok N T L G) {id : Int} (hn : Has T N id n) (hj : L[j]? = some ((T n).ino id)) :
    Bok N (updT T (some (n, { rec0 with gen := (T n).gen }))) (wout L j L.length) G := by
  obtain ⟨A, C, h1, h2⟩ := used_split T n N hn.lt
  have hjl := (List.getElem?_eq_some_iff.1 hj).1
  refine ⟨?_, fun id hid => ?_, fun k hkN => ?_, h.n2⟩
  · rw [h2]
    have e1 : slI (T n) n = [(T n).ino id] := by unfold slI; rw [if_neg hn.us, hn.id]
    have e2 : slI { rec0 with gen := (T n).gen } n = [] := by simp [slI, rec0]
    rw [e2, List.append_nil]
    have h3 := h.perm
    rw [h1, e1] at h3
    have e3 : L = L.take j ++ (T n).ino id :: L.drop (j + 1) := by
      have := (List.getElem?_eq_some_iff.1 hj).2
      rw [← this, List.getElem_cons_drop, List.take_append_drop]
    have e4 : wout L j L.length = L.take j ++ L.drop (j + 1) := by
      unfold wout
      rw [if_neg (by omega), List.take_length]
    rw [e4]
    rw [e3] at h3
    have p1 : ((T n).ino id :: (L.take j ++ L.drop (j + 1))).Perm ((T n).ino id :: (A ++ C)) := by
      refine List.perm_middle.symm.trans (h3.trans ?_)
      rw [List.append_assoc]
      exact List.perm_middle
    exact List.Perm.cons_inv p1
  · obtain ⟨k, g, q1, q2, q3⟩ := h.giv id hid
    refine ⟨k, g, q1, q2, ?_⟩
    unfold updT
    by_cases e : k = n
    · subst e; simp only [if_true]; exact q3
    · simp only [e, if_false]; exact q3
  · unfold updT
    by_cases e : k = n
    · subst e; simp only [if_true]; exact h.gen k hkN
    · simp only [e, if_false]; exact h.gen k hkN
theorem Bok.zero (N : Nat) (hN : N ≤ 256) : Bok N (fun _ => rec0) [] [] := by
  refine ⟨?_, fun _ h => by simp at h, fun n _ => by simp [rec0], hN⟩
  have : ∀ n, used (fun _ => rec0) n = [] := by
    intro n
    induction n with
    | zero => rfl
    | succ n ih => unfold used; rw [ih]; simp [rec0]
  rw [this]
end Go.Proofs.YtlcjkbhcbiggcaaGreatDoor
