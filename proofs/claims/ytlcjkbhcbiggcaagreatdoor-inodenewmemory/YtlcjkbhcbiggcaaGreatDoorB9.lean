/- The book: what All tells is found in it. -/
import Derived.Test.YtlcjkbhcbiggcaaGreatDoorB8
namespace Go.Proofs.YtlcjkbhcbiggcaaGreatDoor
open Go.RowKit Go.Maps
set_option maxRecDepth 100000

theorem Bok.find {N : Nat} {T : Nat → Rec} {L : List Ino} {G : List Int} (h : Bok N T L G) {j : Nat} {x : Ino} (hx : (used T N)[j]? = some x) {r : Int} (q : FndR L x.id r) : ∃ k : Nat, r = k ∧ L[k]? = some x := by
  obtain ⟨n, h1, h2, h3⟩ := (used_mem T x N).1 (List.mem_of_getElem? hx)
  have hid : x.id = (T n).gen * 256 + (n : Int) := by rw [h3]; rfl
  have hn : Has T N x.id n := ⟨h1, h2, hid.symm⟩
  rcases h.has q with ⟨_, q2⟩ | ⟨k, n', q1, q2, q3⟩
  · exact absurd hn (q2 n)
  · have e1 := q2.id
    have e2 := h.n2
    have e3 := q2.lt
    have : n' = n := by omega
    subst this
    refine ⟨k, q1, ?_⟩
    rw [q3]
    have : (T n').ino x.id = x := by rw [hid]; exact h3.symm
    rw [this]
end Go.Proofs.YtlcjkbhcbiggcaaGreatDoor
