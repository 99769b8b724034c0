/- The book: without. -/
import Derived.Test.YtlcjkbhcbiggcaaGreatDoorB1
namespace Go.Proofs.YtlcjkbhcbiggcaaGreatDoor
open Go.RowKit Go.Maps
set_option maxRecDepth 100000

/-- The list but for the one at i. -/
def wout (ls : List Ino) (i n : Nat) : List Ino := if n ≤ i then ls.take n else ls.take i ++ (ls.take n).drop (i + 1)
theorem wout_at (ls : List Ino) (i n : Nat) (h : n = i) : wout ls i (n + 1) = wout ls i n := by
  subst h
  unfold wout
  rw [if_neg (by omega), if_pos (Nat.le_refl _)]
  rw [List.drop_of_length_le (by simp; omega)]
  simp
theorem wout_off (ls : List Ino) (i n : Nat) (x : Ino) (hx : ls[n]? = some x) (h : n ≠ i) : wout ls i (n + 1) = wout ls i n ++ [x] := by
  have e : ls.take (n + 1) = ls.take n ++ [x] := by rw [List.take_add_one, hx]; rfl
  have hl := (List.getElem?_eq_some_iff.1 hx).1
  unfold wout
  by_cases q : n < i
  · rw [if_pos (by omega), if_pos (by omega), e]
  · rw [if_neg (by omega), if_neg (by omega), e, List.drop_append_of_le_length (by simp; omega), List.append_assoc]
theorem wout_len (ls : List Ino) (i n : Nat) : (wout ls i n).length ≤ n := by
  unfold wout
  split
  · simp; omega
  · simp; omega
attribute [local go_sem ↓ 100000] in_load
attribute [local go_sem] build_in build_in2
set_option maxHeartbeats 2000000 in
theorem without_any {w : World} {base : Nat} {lv : Value} {ls : List Ino} (h : w.ownsRow base 38 13 lv ls.length (inLs ls)) (hL : ls.length ≤ 100000) (i : Nat) :
    Calls Tryz.prog 39 #[lv, .int .i64 (i : Nat)] w fun e w' => ∃ mv, e = .returned mv ∧ w'.ownsRow w.heap.size 38 13 mv (wout ls i ls.length).length (inLs (wout ls i ls.length)) ∧ Below w.heap.size w w' := by
  obtain ⟨p, cap, rfl, hp⟩ := own_form h
  obtain ⟨L, hLe⟩ : ∃ L, ls.length = L := ⟨_, rfl⟩
  rw [hLe] at h hp hL ⊢
  obtain ⟨i0, hi, hz0, hz1, hz2⟩ := infoI_parts
  go_enter Tryz.func39, Tryz.ntmps39
  go_wp2_with fail
  go_loopw [5, 6] (fun mv x wr => ∃ n : Nat, n ≤ L ∧ x = .int .i64 n ∧ wr.ownsRow w.heap.size 38 13 mv (wout ls i n).length (inLs (wout ls i n)) ∧ Below w.heap.size w wr) (fun _ x _ => L - (intOf x).toNat)
  case atStart => exact ⟨0, by omega, rfl, (by unfold wout; simpa [inLs] using World.ownsRow_nil w w.heap.size _ _), Below.refl _ w⟩
  case round =>
    obtain ⟨n, hn, rfl, o3, b3⟩ := hrel
    by_cases hnL : n = L
    · subst hnL
      go_wp2_with fail
      go_ret
      exact ⟨_, rfl, o3, b3⟩
    · have hlt : n < L := by omega
      have hlti : (n : Int) < (L : Int) := by omega
      obtain ⟨g, rfl⟩ := hp n hlt
      obtain ⟨x, hx⟩ : ∃ x, ls[n]? = some x := ⟨_, List.getElem?_eq_getElem (by omega)⟩
      by_cases e : n = i
      · have e' : ((n : Int) == (i : Int)) = true := beq_iff_eq.2 (by omega)
        have HU : Hid (wout ls i (n + 1) = wout ls i n) := wout_at ls i n e
        clear e
        go_wp2_with fail
        exact ⟨⟨n + 1, by omega, rfl, by rw [HU.out]; exact o3, b3⟩, by simp [intOf]; omega⟩
      · have e' : ((n : Int) == (i : Int)) = false := beq_eq_false_iff_ne.2 (by omega)
        have HU : Hid (wout ls i (n + 1) = wout ls i n ++ [x]) := wout_off ls i n x hx e
        have hul := wout_len ls i n
        have h' := own_on h (b3.mono (Nat.le_refl _))
        have e3 := InLoad.mid (own_in h' hLe.symm hx).all rfl
        clear e
        have bq : Below wr.heap.size wr (wr.alloc (.cells (inA x) 38)) := (Below.refl _ wr).alloc (Nat.le_refl _) _
        have oq := own_on o3 bq
        have z3 := b3.size
        have hs13 := inA_size x
        go_wp2_with (at_builtin; refine wpList_append_own _ rfl _ _ 27 rfl w.heap.size 38 i0 (.agg #[.int .i64 0, .int .i64 0, .int .i64 0, .int .i64 0, .int .i64 0, .int .i64 0, .int .i64 0, .int .i64 0, .int .i64 0, .int .i64 0, .int .i64 0, .int .i64 0, .int .i64 0]) 13 104 Tryz.underlying27 hi hz0 hz1 hz2 rfl (by decide) u5 _ _ rfl oq ⟨wr.heap.size, 0, none⟩ 1 1 (inA x).toList rfl rfl (World.news_of_block (heap_alloc_last wr _)) (by intro u hu; exact (Array.all_eq_true_iff_forall_mem.1 (inA_one x)) u (by simpa using hu)) (by unfold maxLen; omega) (by omega) (by simp; omega) ?_; intro lv7 w7 o7 gr7 _)
        have t7 : Turns (fun b => u5.ownBlock = some b) wr w7 := (Below.turns bq _).trans (Turns.grown gr7 (fun b hb => hb)) (fun _ _ q => q)
        refine ⟨⟨n + 1, by omega, rfl, ?_, ?_⟩, by simp [intOf]; omega⟩
        · rw [HU.out, List.length_append, inLs_snoc]
          exact o7
        · exact b3.trans (t7.below (fun b hb => own_base o3 hb) z3)
end Go.Proofs.YtlcjkbhcbiggcaaGreatDoor
