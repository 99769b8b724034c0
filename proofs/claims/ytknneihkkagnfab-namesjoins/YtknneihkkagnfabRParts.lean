/- annexref3.parts: what stands behind each slash. -/
import Derived.Test.YtknneihkkagnfabRJudge
import Derived.Laws.AppendOwn
namespace Go.Proofs.Ytknneihkkagnfab
open Go.RowKit
set_option maxRecDepth 100000

/-- What is held in a round: at place k, behind place f, these texts have been found. -/
def PIn (l : List UInt8) (k f : Nat) (ys : List ByteArray) : Prop :=
  (1 ≤ f ∧ f ≤ k ∧ k ≤ l.length ∧ ys.length + 1 ≤ f ∧ cuts l.tail = ys.map bs ++ cuts (l.drop f) ∧ (47 : UInt8) ∉ (l.drop f).take (k - f)) ∨ (k = l.length + 1 ∧ ys.length ≤ l.length ∧ cuts l.tail = ys.map bs)

theorem PIn.start {l : List UInt8} (h : 1 ≤ l.length) : PIn l 1 1 [] := Or.inl ⟨Nat.le_refl _, Nat.le_refl _, h, by simp, by simp, by simp⟩
theorem PIn.last {l : List UInt8} {f : Nat} {ys : List ByteArray} (h : PIn l l.length f ys) (x : ByteArray) (hx : bs x = (l.drop f).take (l.length - f)) (g : Nat) : PIn l (l.length + 1) g (ys ++ [x]) := by
  rcases h with ⟨h1, h2, h3, h4, h5, h6⟩ | ⟨h, _⟩
  · refine Or.inr ⟨rfl, by simp; omega, ?_⟩
    rw [h5, List.map_append]
    rw [List.take_of_length_le (by simp)] at h6 hx
    rw [cuts_free h6, ← hx]
    rfl
  · omega
theorem PIn.cut {l : List UInt8} {k f : Nat} {ys : List ByteArray} (h : PIn l k f ys) (hk : k < l.length) (h47 : l[k] = 47) (x : ByteArray) (hx : bs x = (l.drop f).take (k - f)) : PIn l (k + 1) (k + 1) (ys ++ [x]) := by
  rcases h with ⟨h1, h2, h3, h4, h5, h6⟩ | ⟨h, _⟩
  · refine Or.inl ⟨by omega, Nat.le_refl _, hk, by simp; omega, ?_, by simp⟩
    have e : l.drop f = (l.drop f).take (k - f) ++ 47 :: l.drop (k + 1) := by
      conv => lhs; rw [← List.take_append_drop (k - f) (l.drop f)]
      rw [List.drop_drop, show f + (k - f) = k by omega, List.drop_eq_getElem_cons hk, h47]
    rw [h5, e, cuts_slash _ h6, List.map_append, ← hx]
    simp
  · omega
theorem PIn.on {l : List UInt8} {k f : Nat} {ys : List ByteArray} (h : PIn l k f ys) (hk : k < l.length) (h47 : ¬ l[k] = 47) : PIn l (k + 1) f ys := by
  rcases h with ⟨h1, h2, h3, h4, h5, h6⟩ | ⟨h, _⟩
  · refine Or.inl ⟨h1, by omega, hk, h4, h5, ?_⟩
    have hj : k - f < (l.drop f).length := by simp; omega
    rw [show k + 1 - f = (k - f) + 1 by omega, List.take_succ_eq_append_getElem hj]
    intro hm
    rcases List.mem_append.1 hm with hm | hm
    · exact h6 hm
    · have := List.mem_singleton.1 hm
      rw [List.getElem_drop] at this
      exact h47 (by rw [this]; congr 1; omega)
  · omega
theorem PIn.done {l : List UInt8} {f : Nat} {ys : List ByteArray} {k : Nat} (h : PIn l k f ys) (hk : ¬ k ≤ l.length) : cuts l.tail = ys.map bs := by
  rcases h with ⟨_, _, h3, _⟩ | ⟨_, _, h⟩
  · omega
  · exact h
theorem PIn.room {l : List UInt8} {f : Nat} {ys : List ByteArray} {k : Nat} (h : PIn l k f ys) : ys.length ≤ l.length := by
  rcases h with ⟨_, _, h3, _⟩ | ⟨_, h, _⟩
  · omega
  · exact h
theorem PIn.from_le {l : List UInt8} {f : Nat} {ys : List ByteArray} {k : Nat} (h : PIn l k f ys) (hk : k ≤ l.length) : f ≤ k := by
  rcases h with ⟨_, h, _⟩ | ⟨_, _⟩
  · exact h
  · omega

set_option maxHeartbeats 1000000 in
theorem rparts_any (p : ByteArray) (w : World) (hs : p.size ≤ 1048576) (hp : 1 ≤ p.size) :
    Calls Try.prog 25 #[.string p] w fun e w' => ∃ ao n c, e = .returned (.slice ao n c) ∧ w'.ownsRow w.heap.size 9 1 (.slice ao n c) n ((cutsB (bs p).tail).map Value.string) ∧ Below w.heap.size w w' := by
  obtain ⟨i0, hi, hz0, hz1, hz2⟩ := info_parts Try.info9
  have hsi : (p.size : Int) ≤ 1048576 := by omega
  go_enter Try.func25, Try.ntmps25
  go_wp2
  go_loopw [3, 4, 5] (fun l f i wr => ∃ (k f0 : Nat) (ys : List ByteArray), k ≤ p.size + 1 ∧ f = .int .i64 f0 ∧ i = .int .i64 k ∧ wr.ownsRow w.heap.size 9 1 l ys.length (ys.map Value.string) ∧ Below w.heap.size w wr ∧ PIn (bs p) k f0 ys) (fun _ _ i _ => p.size + 1 - (intOf i).toNat)
  case atStart => exact ⟨1, 1, [], by omega, rfl, rfl, ⟨rfl, Or.inl ⟨rfl, rfl⟩⟩, Below.refl _ _, PIn.start (by rw [← size_bs]; exact hp)⟩
  case round =>
    obtain ⟨k, f, ys, hk, rfl, rfl, hown, hbl, hin⟩ := hrel
    have HP : Hid (PIn (bs p) k f ys) := ⟨hin⟩
    have hroom := hin.room
    rw [← size_bs] at hroom
    clear hin
    obtain ⟨ao, c, rfl⟩ := own_len hown
    by_cases hle : k ≤ p.size
    · have hfk := HP.out.from_le (by rw [← size_bs]; exact hle)
      have hbytes : (bs p).length = p.size := (size_bs p).symm
      by_cases hlast : k = p.size
      · subst hlast
        have hx : bs (p.extract f p.size) = ((bs p).drop f).take ((bs p).length - f) := by rw [ext_bs, hbytes]
        go_wp2_with (at_builtin; refine wpList_append_own _ rfl (.tmp 22) (.tmp 27) 22 rfl w.heap.size 9 i0 (.string ⟨#[]⟩) 1 16 Try.underlying22 hi hz0 hz1 hz2 rfl (by decide) _ _ _ rfl (hown.alloc _) ⟨wr.heap.size, 0, none⟩ 1 1 [.string (p.extract f p.size)] rfl rfl (cell_one_new _ _ _) (by intro u hu; simp at hu; subst hu; rfl) (by unfold maxLen; omega) (by omega) (by have := hbl.size; simp; omega) ?_; intro v' w4 hown4 hgrow4 _)
        have hb4 : Below w.heap.size w w4 := (hbl.alloc hbl.size _).grown hgrow4 (by have := hbl.size; simp; omega) (own_block hown)
        go_wp2
        go_roundw
        case rel => exact ⟨p.size + 1, p.size + 1, ys ++ [p.extract f p.size], by omega, by go_num, by go_num, by simpa using hown4, hb4, by rw [← hbytes] at HP ⊢; exact HP.out.last _ hx _⟩
        case measure => simp [intOf]
      · have hlt : k < p.size := by omega
        have hlt' : k < (bs p).length := by omega
        have hlasti : ((k : Int) == (p.size : Int)) = false := by simp; omega
        have hget : (bs p)[k] = p[k]'hlt := by simp [ByteArray.getElem_eq_getElem_data]
        by_cases h47 : (p[k]'hlt).toNat = 47
        · have hx : bs (p.extract f k) = ((bs p).drop f).take (k - f) := ext_bs _ _ _
          have h47' : (bs p)[k] = 47 := by rw [hget]; exact UInt8.toNat_inj.1 h47
          go_wp2_with (at_builtin; refine wpList_append_own _ rfl (.tmp 22) (.tmp 27) 22 rfl w.heap.size 9 i0 (.string ⟨#[]⟩) 1 16 Try.underlying22 hi hz0 hz1 hz2 rfl (by decide) _ _ _ rfl (hown.alloc _) ⟨wr.heap.size, 0, none⟩ 1 1 [.string (p.extract f k)] rfl rfl (cell_one_new _ _ _) (by intro u hu; simp at hu; subst hu; rfl) (by unfold maxLen; omega) (by omega) (by have := hbl.size; simp; omega) ?_; intro v' w4 hown4 hgrow4 _)
          have hb4 : Below w.heap.size w w4 := (hbl.alloc hbl.size _).grown hgrow4 (by have := hbl.size; simp; omega) (own_block hown)
          go_wp2
          go_roundw
          case rel => exact ⟨k + 1, k + 1, ys ++ [p.extract f k], by omega, by go_num, by go_num, by simpa using hown4, hb4, HP.out.cut hlt' h47' _ hx⟩
          case measure => simp [intOf]; omega
        · have h47' : ¬ (bs p)[k] = 47 := by rw [hget]; intro e; exact h47 (by rw [e]; rfl)
          have h47i : (((p[k]'hlt).toNat : Int) == 47) = false := by simp; omega
          go_wp2
          go_roundw
          case rel => exact ⟨k + 1, f, ys, by omega, rfl, by go_num, hown, hbl, HP.out.on hlt' h47'⟩
          case measure => simp [intOf]; omega
    · have hd := HP.out.done (by rw [← size_bs]; exact hle)
      go_wp2
      go_ret
      have e : cutsB (bs p).tail = ys := by
        unfold cutsB
        rw [hd, List.map_map]
        conv => rhs; rw [← List.map_id ys]
        exact List.map_congr_left fun x _ => tx_bs x
      refine ⟨ao, ys.length, c, rfl, ?_, hbl⟩
      rw [e]
      exact hown
end Go.Proofs.Ytknneihkkagnfab
