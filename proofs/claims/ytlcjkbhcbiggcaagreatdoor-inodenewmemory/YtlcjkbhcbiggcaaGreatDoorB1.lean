/- The book: find. -/
import Derived.Test.YtlcjkbhcbiggcaaGreatDoorPk25
namespace Go.Proofs.YtlcjkbhcbiggcaaGreatDoor
open Go.RowKit Go.Maps
set_option maxRecDepth 100000

theorem own_form {w : World} {base e s n : Nat} {lv : Value} {xs : List Value} (h : w.ownsRow base e s lv n xs) : ∃ p cap, lv = .slice p n cap ∧ ∀ k, k < n → ∃ g, p = some ⟨g, 0, none⟩ := by
  rcases h.2 with ⟨h1, h2⟩ | ⟨g, cap, cur, h1, _⟩
  · exact ⟨none, 0, by rw [h1, h2], fun k hk => absurd hk (by omega)⟩
  · exact ⟨_, cap, h1, fun _ _ => ⟨g, rfl⟩⟩
theorem inLs_at : ∀ (ls : List Ino) (j k : Nat) (x : Ino), ls[j]? = some x → k < 13 → (inLs ls)[j * 13 + k]? = (inA x).toList[k]?
  | [], _, _, _, h, _ => by simp at h
  | y :: ls, 0, k, x, h, hk => by
    obtain rfl : y = x := by simpa using h
    show (List.flatMap _ (y :: ls))[_]? = _
    rw [List.flatMap_cons, List.getElem?_append_left (by show _ < 13; omega)]
    simp
  | y :: ls, j + 1, k, x, h, hk => by
    show (List.flatMap _ (y :: ls))[_]? = _
    rw [List.flatMap_cons, List.getElem?_append_right (by show 13 ≤ _; omega)]
    have e : (j + 1) * 13 + k - (inA y).toList.length = j * 13 + k := by show _ - 13 = _; omega
    rw [e]
    exact inLs_at ls j k x (by simpa using h) hk
theorem own_in {w : World} {base g n cap : Nat} {ls : List Ino} (h : w.ownsRow base 38 13 (.slice (some ⟨g, 0, none⟩) n cap) n (inLs ls)) (hn : n = ls.length) {j : Nat} {x : Ino} (hj : ls[j]? = some x) : InCells w g (j * 13) x := by
  refine .of fun k v hv => ?_
  have hk : k < 13 := (List.getElem?_eq_some_iff.1 hv).1
  have hl := (List.getElem?_eq_some_iff.1 hj).1
  rw [h.cellAt (j * 13 + k) (by omega), inLs_at ls j k x hj hk, hv]
/-- What find answers. -/
def FndR (ls : List Ino) (id r : Int) : Prop := (r = -1 ∧ ∀ (j : Nat) (x : Ino), ls[j]? = some x → x.id ≠ id) ∨ ∃ (j : Nat) (x : Ino), r = j ∧ ls[j]? = some x ∧ x.id = id
set_option maxHeartbeats 2000000 in
theorem find_any {w : World} {base : Nat} {lv : Value} {ls : List Ino} (h : w.ownsRow base 38 13 lv ls.length (inLs ls)) (hL : ls.length ≤ 100000) (id : Int) :
    Calls Tryz.prog 22 #[lv, .int .i64 id] w fun e w' => ∃ r, e = .returned (.int .i64 r) ∧ w' = w ∧ Hid (FndR ls id r) := by
  obtain ⟨p, cap, rfl, hp⟩ := own_form h
  obtain ⟨L, hLe⟩ : ∃ L, ls.length = L := ⟨_, rfl⟩
  rw [hLe] at h hp hL ⊢
  go_enter Tryz.func22, Tryz.ntmps22
  go_wp2_with fail
  go_loopw [5] (fun x wr => ∃ n : Nat, n ≤ L ∧ x = .int .i64 n ∧ wr = w ∧ ∀ j y, j < n → ls[j]? = some y → y.id ≠ id) (fun x _ => L - (intOf x).toNat)
  case atStart => exact ⟨0, by omega, rfl, rfl, fun _ _ q => absurd q (by omega)⟩
  case round =>
    obtain ⟨n, hn, rfl, rfl, hb⟩ := hrel
    by_cases hnL : n = L
    · subst hnL
      go_wp2_with fail
      go_ret
      refine ⟨_, rfl, rfl, (show FndR ls id (-1) from Or.inl ⟨rfl, fun j x hx => hb j x ?_ hx⟩)⟩
      have := (List.getElem?_eq_some_iff.1 hx).1
      omega
    · have hlt : n < L := by omega
      have hlti : (n : Int) < (L : Int) := by omega
      obtain ⟨g, rfl⟩ := hp n hlt
      obtain ⟨x, hx⟩ : ∃ x, ls[n]? = some x := ⟨_, List.getElem?_eq_getElem (by omega)⟩
      have c0 := (own_in h hLe.symm hx).c0
      by_cases e : x.id = id
      · have e' : (x.id == id) = true := by simpa using e
        go_wp2_with fail
        go_ret
        exact ⟨_, rfl, rfl, (show FndR ls id n from Or.inr ⟨n, x, rfl, hx, e⟩)⟩
      · have e' : (x.id == id) = false := by simpa using e
        go_wp2_with fail
        refine ⟨⟨n + 1, by omega, rfl, trivial, fun j y hj hy => ?_⟩, by simp [intOf]; omega⟩
        by_cases hjn : j = n
        · subst hjn
          obtain rfl : x = y := by rw [hx] at hy; exact Option.some.inj hy
          exact e
        · exact hb j y (by omega) hy
end Go.Proofs.YtlcjkbhcbiggcaaGreatDoor
