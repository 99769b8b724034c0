/- PutBytes and PutText by their contracts. -/
import Derived.Test.YtgpeefedboomoabDoorPut2
import Derived.Test.YtgpeefedboomoabDoorZeros
import Derived.Lib.ConvBytes
namespace Go.Proofs.YtgpeefedboomoabDoor
open Go.RowKit
set_option maxRecDepth 100000

/-- The numbers of a text's bytes. -/
def nums (s : ByteArray) : List Int := s.data.toList.map (fun b => (b.toNat : Int))
theorem nums_length (s : ByteArray) : (nums s).length = s.size := by simp [nums]

theorem bytesWorld_below (w : World) (s : ByteArray) : Below w.heap.size w (Lib.bytesWorld w 5 s) :=
  ⟨rfl, rfl, rfl, by rw [Lib.bytesWorld_size]; omega, fun k hk => Lib.bytesWorld_at_old w 5 s k hk⟩
theorem bytesWorld_lies (w : World) (s : ByteArray) : Lies (Lib.bytesWorld w 5 s) (some ⟨w.heap.size, 0, none⟩) s.size (grownCap w s.size 0 5) (nums s) := by
  refine ⟨nums_length s, grownCap_ge _ _ _ _, (fun h => by cases h), fun ad had t u hu => ?_⟩
  obtain rfl := Option.some.inj had
  have ht : t < s.size := by
    have := (List.getElem?_eq_some_iff.1 hu).1
    simpa [nums_length] using this
  rw [Addr.add_lit, Nat.zero_add, Lib.bytesWorld_cell w 5 s t ht]
  rw [← hu]
  have ht' : t < s.data.toList.length := by simpa using ht
  simp [nums, List.getD, ht]
end Go.Proofs.YtgpeefedboomoabDoor
