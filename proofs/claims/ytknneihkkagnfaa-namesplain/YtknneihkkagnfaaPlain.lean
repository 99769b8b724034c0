/- annexlaw3.NamesPlain by its walk. -/
import Derived.Test.YtknneihkkagnfaaRCheck
namespace Go.Proofs.Ytknneihkkagnfaa
open Go.RowKit
set_option maxRecDepth 100000

theorem check_byte {s : ByteArray} {k : Nat} (hk : k < s.size) (h : (s[k]'hk).toNat = 47 ∨ (s[k]'hk).toNat = 0) : checkN (bs s) = 31 := by
  unfold checkN okName
  rw [byte_at hk h]
  simp
theorem plain_free {l : List UInt8} (h : plain l = true) : (47 : UInt8) ∉ l := by
  intro hm
  unfold plain at h
  rw [List.all_eq_true] at h
  have := h 47 hm
  simp at this
/-- A slash and a text without one: a path of that one name, or none. -/
theorem one_split {l : List UInt8} (hp : plain l = true) (hn : l ≠ []) : splitE (47 :: l) = checkN l ∧ splitL (47 :: l) = if okName l = true then [l] else [] := by
  have hc := cuts_free (plain_free hp)
  have hne : ¬ (47 :: l) = [47] := by simpa using hn
  have hE : splitE (47 :: l) = checkN l := by
    unfold splitE
    rw [if_pos (show (47 :: l).head? = some 47 from rfl), if_neg hne]
    show judge (cuts l) = _
    rw [hc]
    simp [judge, checkN]
  refine ⟨hE, ?_⟩
  unfold splitL
  rw [hE]
  unfold checkN
  by_cases ho : okName l = true
  · rw [if_pos ho, if_pos ⟨rfl, hne⟩, if_pos ho]
    exact hc
  · rw [if_neg ho, if_neg (by omega), if_neg ho]
theorem slash_bs (s : ByteArray) : bs (slash ++ s) = 47 :: bs s := by
  rw [← tx_bs s, slash_app, bs_tx]
theorem splitE_root : splitE [47] = 0 := by decide
theorem splitL_root : splitL [47] = [] := by decide

set_option maxHeartbeats 2000000 in
theorem plain_any (s : ByteArray) (w : World) (hs : s.size ≤ 140737488351232) :
    Calls Try.prog 4 #[.string s] w fun e w' => e = .returned (.bool true) ∧ Below w.heap.size w w' := by
  have hsi : (s.size : Int) ≤ 140737488351232 := by omega
  go_enter Try.func4, Try.ntmps4
  go_wp2_with fail
  refine (first_any w).mono ?_
  rintro e w1 ⟨rfl, hb1⟩
  go_wp2
  go_loopw [4] (fun i wr => ∃ k : Nat, k ≤ s.size ∧ i = .int .i64 k ∧ wr = w1 ∧ PlainTo s k) (fun i _ => s.size - (intOf i).toNat)
  case atStart => exact ⟨0, Nat.zero_le _, rfl, rfl, fun k _ h => by omega⟩
  case round =>
    obtain ⟨k, hk, rfl, rfl, hpl⟩ := hrel
    have HP : Hid (PlainTo s k) := ⟨hpl⟩
    clear hpl
    by_cases hlt : k < s.size
    · by_cases e1 : (s[k]'hlt).toNat = 47
      · have hck := check_byte hlt (Or.inl e1)
        go_wp2_with fail
        refine (check_any _ _).mono ?_
        rintro e w2 ⟨rfl, hb2⟩
        rw [hck]
        go_wp2_with (first | (go_at_call 12; refine (num_any _ _).mono ?_; rintro e w' ⟨rfl, rfl⟩))
        go_ret
        exact ⟨rfl, hb1.trans (hb2.mono hb1.size)⟩
      by_cases e2 : (s[k]'hlt).toNat = 0
      · have hck := check_byte hlt (Or.inr e2)
        go_wp2_with fail
        refine (check_any _ _).mono ?_
        rintro e w2 ⟨rfl, hb2⟩
        rw [hck]
        go_wp2_with (first | (go_at_call 12; refine (num_any _ _).mono ?_; rintro e w' ⟨rfl, rfl⟩))
        go_ret
        exact ⟨rfl, hb1.trans (hb2.mono hb1.size)⟩
      · have e1' : (((s[k]'hlt).toNat : Int) == 47) = false := by simp; omega
        have e2' : (((s[k]'hlt).toNat : Int) == 0) = false := by simp; omega
        go_wp2
        go_roundw
        case rel => exact ⟨k + 1, by omega, by go_num, by simp, HP.out.next hlt e1 e2⟩
        case measure => simp [intOf]; omega
    · have hplain := HP.out.all hlt
      have hbs := slash_bs s
      by_cases h0 : s.toList = []
      · have hz : bs s = [] := by rw [ByteArray.toList_eq] at h0; exact h0
        have hck := check_bad (Or.inl h0)
        have hsz : s.size = 0 := by rw [size_bs, hz]; rfl
        have h1i : ¬ (1 : Int) ≤ s.size := by omega
        rw [hz] at hbs
        go_wp2_with fail
        refine (check_any _ _).mono ?_
        rintro e w2 ⟨rfl, hb2⟩
        rw [hck]
        go_wp2_with (first | (go_at_call 12; refine (num_any _ _).mono ?_; rintro e w' ⟨rfl, rfl⟩) | fail)
        refine (split_any _ _ (by rw [size_bs, hbs]; decide)).mono ?_
        rintro e w3 ⟨ao, n, c, rfl, hown, hb3⟩
        rw [hbs] at hown ⊢
        rw [splitE_root]
        rw [splitL_root] at hown
        have hn : n = 0 := by have := hown.1; simp at this; omega
        subst hn
        go_wp2_with (first | (go_at_call 12; refine (num_any _ _).mono ?_; rintro e w' ⟨rfl, rfl⟩))
        go_ret
        exact ⟨rfl, hb1.trans ((hb2.trans (hb3.mono hb2.size)).mono hb1.size)⟩
      · have hz : ¬ bs s = [] := by rw [ByteArray.toList_eq] at h0; exact h0
        have hpos : 0 < s.size := by
          rw [size_bs]; exact List.length_pos_iff.2 hz
        have h1i : (1 : Int) ≤ s.size := by omega
        obtain ⟨hsE, hsL⟩ := one_split hplain hz
        have hi0 : s.toList.isEmpty = false := by cases h : s.toList with | nil => exact absurd h h0 | cons => rfl
        by_cases hbad : (23 : Int) < s.size ∨ s.toList = [46] ∨ s.toList = [46, 46]
        · have hck := check_bad (Or.inr hbad)
          have hno : ¬ okName (bs s) = true := by
            intro ho
            unfold checkN at hck
            rw [if_pos ho] at hck
            omega
          rw [hck] at hsE
          rw [if_neg hno] at hsL
          have hway : ¬ (s.size : Int) ≤ 23 ∨ ((s.size : Int) ≤ 23 ∧ s.toList = [46]) ∨ ((s.size : Int) ≤ 23 ∧ (s.toList == [46]) = false ∧ s.toList = [46, 46]) := by
            by_cases g1 : (s.size : Int) ≤ 23
            · by_cases g2 : s.toList = [46]
              · exact Or.inr (Or.inl ⟨g1, g2⟩)
              · rcases hbad with h | h | h
                · omega
                · exact absurd h g2
                · exact Or.inr (Or.inr ⟨g1, by simpa using g2, h⟩)
            · exact Or.inl g1
          clear hbad
          have hbig : (slash ++ s).size ≤ 281474976710656 := by rw [size_bs, hbs, List.length_cons, ← size_bs]; omega
          rcases hway with g1 | ⟨g1, g2⟩ | ⟨g1, g2, g3⟩
          all_goals
            go_wp2_with fail
            refine (check_any _ _).mono ?_
            rintro e w2 ⟨rfl, hb2⟩
            rw [hck]
            go_wp2_with (first | (go_at_call 12; refine (num_any _ _).mono ?_; rintro e w' ⟨rfl, rfl⟩) | fail)
            refine (split_any _ _ hbig).mono ?_
            rintro e w3 ⟨ao, n, c, rfl, hown, hb3⟩
            rw [hbs] at hown ⊢
            rw [hsE]
            rw [hsL] at hown
            have hn : n = 0 := by have := hown.1; simp at this; omega
            subst hn
            go_wp2_with (first | (go_at_call 12; refine (num_any _ _).mono ?_; rintro e w' ⟨rfl, rfl⟩))
            go_ret
            exact ⟨rfl, hb1.trans ((hb2.trans (hb3.mono hb2.size)).mono hb1.size)⟩
        · have h23 : (s.size : Int) ≤ 23 := by omega
          have h46 : ¬ s.toList = [46] := fun e => hbad (Or.inr (Or.inl e))
          have h4646 : ¬ s.toList = [46, 46] := fun e => hbad (Or.inr (Or.inr e))
          have hck := check_plain h0 h23 h46 h4646
          rw [hplain, if_pos rfl] at hck
          rw [hck] at hsE
          rw [if_pos (checkN_ok.1 hck)] at hsL
          have hi46 : (s.toList == [46]) = false := by simpa using h46
          have hi4646 : (s.toList == [46, 46]) = false := by simpa using h4646
          go_wp2_with fail
          refine (check_any _ _).mono ?_
          rintro e w2 ⟨rfl, hb2⟩
          rw [hck]
          go_wp2_with (first | (go_at_call 12; refine (num_any _ _).mono ?_; rintro e w' ⟨rfl, rfl⟩) | fail)
          refine (split_any _ _ (by rw [size_bs, hbs, List.length_cons, ← size_bs]; omega)).mono ?_
          rintro e w3 ⟨ao, n, c, rfl, hown, hb3⟩
          rw [hbs] at hown ⊢
          rw [hsE]
          rw [hsL] at hown
          have hn : n = 1 := by have := hown.1; simp at this; omega
          subst hn
          have hl := Lies.owned (xs := [s]) (by simpa [tx_bs] using hown)
          obtain ⟨b, o, rfl, hbw, hcell⟩ := hl.at (by omega)
          have hc : w3.cell? ⟨b, o, none⟩ = some (.string s) := hcell 0 (by simp)
          clear hcell
          go_wp2_with (first | (go_at_call 12; refine (num_any _ _).mono ?_; rintro e w' ⟨rfl, rfl⟩))
          go_ret
          exact ⟨rfl, hb1.trans ((hb2.trans (hb3.mono hb2.size)).mono hb1.size)⟩
end Go.Proofs.Ytknneihkkagnfaa
