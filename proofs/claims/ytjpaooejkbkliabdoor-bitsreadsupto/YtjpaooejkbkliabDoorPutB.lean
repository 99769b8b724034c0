/- PutBytes and PutText by their contracts. -/
import Derived.Test.YtjpaooejkbkliabDoorPut2
import Derived.Test.YtjpaooejkbkliabDoorZeros
import Derived.Lib.ConvBytes
namespace Go.Proofs.YtjpaooejkbkliabDoor
open Go.RowKit
set_option maxRecDepth 100000

set_option maxHeartbeats 400000 in
theorem pad_any (n : Nat) (w : World) (hn : n ≤ 140737488355328) :
    Calls Tryd.prog 49 #[.int .u64 n] w fun e w' => e = .returned (.int .u64 (padN n)) ∧ w' = w := by
  have h1 : (n : Int) ≤ 140737488355328 := by omega
  have h0 : (0 : Int) ≤ n := by omega
  go_enter Tryd.func49, Tryd.ntmps49
  go_wp2
  go_ret
  refine ⟨?_, rfl⟩
  have : ((4 - (n : Int) % 4) % 4) = (padN n : Int) := by unfold padN; omega
  rw [← this]; rfl

set_option maxHeartbeats 400000 in
theorem putBytes_any (ao : Option Addr) (len cap : Nat) (bs : List Int) (bo : Option Addr) (dl dc : Nat) (ds : List Int) (w : World) (hbd : len + dl + 8 ≤ 140737488355328) (hL : Lies w ao len cap bs) (hD : Lies w bo dl dc ds) :
    Calls Tryd.prog 33 #[.slice ao len cap, .slice bo dl dc] w fun e w' => Made w e w' (len + 4 + dl + padN dl) (bs ++ be dl 4 ++ ds ++ List.replicate (padN dl) 0) := by
  obtain ⟨i0, hi, hz0, hz1, hz2⟩ := info_parts Tryd.info5
  have hp : padN dl ≤ 3 := by unfold padN; omega
  have hpi : (padN dl : Int) ≤ 3 := by omega
  have hdi : (dl : Int) ≤ 140737488355328 := by omega
  go_enter Tryd.func33, Tryd.ntmps33
  go_wp2_with (first
    | (go_at_call 49; refine (pad_any dl _ (by omega)).mono ?_; rintro e wq ⟨rfl, hq⟩; subst wq)
    | (go_at_call 35; refine (room_any ao len cap (4 + dl + padN dl) bs _ (by omega) hL).mono ?_; rintro e w1 ⟨rfl, hown1, hb1⟩)
    | (go_at_call 34; refine (num_any w.heap.size len (len + (4 + dl + padN dl)) 4 w.heap.size dl bs _ (by omega) (by omega) (by omega) hown1 (by omega)).mono ?_; rintro e w2 ⟨rfl, hown2, hg2⟩; have hb2 := hb1.grown hg2 hb1.size (fun k hk => by cases hk; exact Nat.le_refl _); have hD2 := hD.below hb2 (Nat.le_refl _))
    | (at_builtin; refine wpList_append_fits_any _ rfl (.tmp 24) (.tmp 25) 22 rfl w.heap.size 5 i0 1 Tryd.underlying22 hi hz1 w.heap.size (len + 4) (len + (4 + dl + padN dl)) _ rfl hown2 bo dl dc (ds.map (Value.int .u8)) rfl (by simp [hD.hlen]) hD.hnone hD2.hcells (ints_oneCell _ _) (by omega) ?_; intro w3 hown3 hg3)
    | (at_builtin; refine wpList_append_fits_zeros _ rfl (.tmp 27) (.tmp 28) 22 51 rfl w.heap.size 5 i0 (.int .u8 0) .u64 .u64 Tryd.underlying22 Tryd.underlying51 hi hz0 rfl rfl hz1 (by rw [hz2]; omega) w.heap.size (len + 4 + dl) (len + (4 + dl + padN dl)) (padN dl) (padN dl) _ rfl hown3 rfl rfl (by omega) (by omega) ?_; intro w4 hown4 hg4))
  go_ret
  have hb3 := hb2.grown hg3 hb2.size (fun k hk => by cases hk; exact Nat.le_refl _)
  have hb4 := hb3.grown hg4 hb3.size (fun k hk => by cases hk; exact Nat.le_refl _)
  refine ⟨w.heap.size, _, rfl, ?_, hb4⟩
  simpa using hown4

/-- The numbers of a text's bytes. -/
def nums (s : ByteArray) : List Int := s.data.toList.map (fun b => (b.toNat : Int))
theorem nums_length (s : ByteArray) : (nums s).length = s.size := by simp [nums]

theorem bytesWorld_below (w : World) (s : ByteArray) : Below w.heap.size w (Lib.bytesWorld w 5 s) :=
  ⟨rfl, rfl, rfl, by rw [Lib.bytesWorld_size]; omega, fun k hk => Lib.bytesWorld_at_old w 5 s k hk⟩
theorem bytesWorld_lies (w : World) (s : ByteArray) : Lies (Lib.bytesWorld w 5 s) (some ⟨w.heap.size, 0, none⟩) s.size (grownCap w s.size 0 5) (nums s) := by
  refine ⟨nums_length s, grownCap_ge _ _ _ _, (fun h => by cases h), fun ad had t u hu => ?_⟩
  obtain rfl := Option.some.inj had
  have ht : t < s.size := by
    have := (List.getElem?_eq_some_iff.1 hu).1
    simpa [nums_length] using this
  rw [Addr.add_lit, Nat.zero_add, Lib.bytesWorld_cell w 5 s t ht]
  rw [← hu]
  have ht' : t < s.data.toList.length := by simpa using ht
  simp [nums, List.getD, ht]

set_option maxHeartbeats 400000 in
theorem putText_any (ao : Option Addr) (len cap : Nat) (bs : List Int) (s : ByteArray) (w : World) (hbd : len + s.size + 8 ≤ 140737488355328) (hL : Lies w ao len cap bs) :
    Calls Tryd.prog 11 #[.slice ao len cap, .string s] w fun e w' => Made w e w' (len + 4 + s.size + padN s.size) (bs ++ be s.size 4 ++ nums s ++ List.replicate (padN s.size) 0) := by
  have hcv := Lib.run_convert_string_bytes (P := Tryd.prog) w 9 22 5 s Tryd.underlying9 Tryd.underlying22 Tryd.underlying5
  have hb0 := bytesWorld_below w s
  go_enter Tryd.func11, Tryd.ntmps11
  go_wp2_with (go_at_call 33; refine (putBytes_any ao len cap bs _ _ _ (nums s) _ hbd (hL.below hb0 (Nat.le_refl _)) (bytesWorld_lies w s)).mono ?_; rintro e w1 ⟨g, cap1, rfl, hown, hb⟩)
  go_ret
  have hz : w.heap.size ≤ (Lib.bytesWorld w 5 s).heap.size := hb0.size
  exact ⟨g, cap1, rfl, ownsRow_mono hown hz, hb0.trans (hb.mono hz)⟩
end Go.Proofs.YtjpaooejkbkliabDoor
