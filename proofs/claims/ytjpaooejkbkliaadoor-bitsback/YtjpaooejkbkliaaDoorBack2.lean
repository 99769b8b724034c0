/- annexlaw1.back, of a field that is there whole, and of one that is cut off. -/
import Derived.Test.YtjpaooejkbkliaaDoorBack
namespace Go.Proofs.YtjpaooejkbkliaaDoor
open Go.RowKit

theorem Rdr.item {w : World} {rb g n cap : Nat} {pl code : Int} {bs : List Int} (h : Rdr w rb g n cap pl code bs) (K X S : Int) (bo : Option Addr) (dl dc : Nat) : Rdr (itemW w K X S bo dl dc) rb g n cap pl code bs := (h.alloc _).drew
theorem Errs.item {w : World} {er : Nat → Addr} (h : Errs w er) (K X S : Int) (bo : Option Addr) (dl dc : Nat) : Errs (itemW w K X S bo dl dc) er := (h.alloc _).drew

abbrev itmV (x : Itm) : Value := itemV x.K x.X x.S x.bo x.dl x.dc

/-- The next field is there whole: it is read as it is. -/
theorem back_ok (rb g n cap pl : Nat) (bs : List Int) (x : Itm) (er : Nat → Addr) (w : World) (hR : Rdr w rb g n cap pl 0 bs) (hE : Errs w er) (hn : cap ≤ 200000000000000) (hby : ∀ y ∈ bs, 0 ≤ y ∧ y ≤ 255) (hG : Good x) (hC : Came w x) (hne : ∀ ad, x.bo = some ad → 0 < x.dl → ad.block ≠ rb)
    (hfit : pl + putN x.K x.dl ≤ n) (hpre : (bs.drop pl).take (putN x.K x.dl) = putL x.K x.X x.S x.ds) :
    Calls Tryd.prog 27 #[.pointer (some ⟨rb, 0, none⟩), itmV x] w fun e w' => e = .returned (.bool true) ∧ Went w w' rb g n cap (pl + putN x.K x.dl : Nat) 0 bs := by
  obtain ⟨K, X, S, bo, dl, dc, ds⟩ := x
  obtain ⟨k1, k5, x0, x32, d20⟩ := hG
  obtain ⟨lies, small, s0, s1, x1⟩ := hC
  simp only at *
  have hR0 := fun K X S => hR.item K X S bo dl dc
  have hE0 := fun K X S => hE.item K X S bo dl dc
  have hlen := lies.hlen
  rcases (show K = 1 ∨ K = 2 ∨ K = 3 ∨ K = 4 ∨ K = 5 by omega) with rfl | rfl | rfl | rfl | rfl
  · have e1 : putN 1 dl = 4 := rfl
    have e2 : putL 1 X S ds = be (IntKind.u64.wrap X) 4 := rfl
    rw [e1] at hfit hpre ⊢
    rw [e2, wrap_small X x0 (by omega)] at hpre
    have hq := back_num 4 n bs pl X x0 (Int.lt_of_le_of_lt (x32 rfl) (by decide)) hfit hpre
    have h := u32_any rb g n cap pl 0 X bs er _ (hR0 1 X S) (hE0 1 X S) (by omega) hn hby (by omega)
    rw [hq] at h
    refine (back_1 rb g n cap _ _ X bs X S bo dl dc w hR.lt h).mono ?_
    rintro e w' ⟨rfl, hw⟩
    exact ⟨by simp, hw⟩
  · have e1 : putN 2 dl = 8 := rfl
    have e2 : putL 2 X S ds = be (IntKind.u64.wrap X) 8 := rfl
    rw [e1] at hfit hpre ⊢
    rw [e2, wrap_small X x0 (by omega)] at hpre
    have hq := back_num 8 n bs pl X x0 (Int.lt_of_le_of_lt x1 (by decide)) hfit hpre
    have h := u64_any rb g n cap pl 0 X bs er _ (hR0 2 X S) (hE0 2 X S) (by omega) hn hby (by omega)
    rw [hq] at h
    refine (back_2 rb g n cap _ _ X bs X S bo dl dc w hR.lt h).mono ?_
    rintro e w' ⟨rfl, hw⟩
    exact ⟨by simp, hw⟩
  · have e1 : putN 3 dl = 8 := rfl
    have e2 : putL 3 X S ds = be S 8 := rfl
    rw [e1] at hfit hpre ⊢
    rw [e2] at hpre
    have hq := back_sum n bs pl S s0 s1 hfit hpre
    have h := sum_any rb g n cap pl 0 bs er _ (hR0 3 X S) (hE0 3 X S) (by omega) hn hby
    rw [hq] at h
    refine (back_3 rb g n cap _ _ S bs X S bo dl dc w hR.lt h).mono ?_
    rintro e w' ⟨rfl, hw⟩
    exact ⟨by simp, hw⟩
  · have e1 : putN 4 dl = 4 + dl + padN dl := rfl
    have e2 : putL 4 X S ds = be ds.length 4 ++ ds ++ List.replicate (padN ds.length) 0 := rfl
    rw [e1] at hfit hpre ⊢
    rw [e2, hlen] at hpre
    have hq := back_text n bs pl dl ds hlen d20 hfit hpre
    have h := text17_any rb g n cap pl 0 dl bs er _ (hR0 4 X S) (hE0 4 X S) (by omega) hn hby (by omega)
    rw [hq] at h
    refine (back_4 rb g n cap _ _ bs ds X S bo dl dc ds w hR.lt lies hne h).mono ?_
    rintro e w' ⟨rfl, hw⟩
    exact ⟨by simp, hw⟩
  · have e1 : putN 5 dl = 4 + dl + padN dl := rfl
    have e2 : putL 5 X S ds = be ds.length 4 ++ ds ++ List.replicate (padN ds.length) 0 := rfl
    rw [e1] at hfit hpre ⊢
    rw [e2, hlen] at hpre
    have hq := back_text n bs pl dl ds hlen d20 hfit hpre
    have h := bytes_any rb g n cap pl 0 dl bs er _ (hR0 5 X S) (hE0 5 X S) (by omega) hn hby (by omega)
    rw [hq] at h
    refine (back_5 rb g n cap _ _ bs ds 5 X S bo dl dc ds w rfl rfl rfl rfl hR.lt (by omega) lies hne h).mono ?_
    rintro e w' ⟨rfl, hw⟩
    exact ⟨by simp, hw⟩

/-- The next field is cut off: too few bytes, at its first one. -/
theorem back_cut (rb g n cap pl : Nat) (bs : List Int) (x : Itm) (er : Nat → Addr) (w : World) (hR : Rdr w rb g n cap pl 0 bs) (hE : Errs w er) (hn : cap ≤ 200000000000000) (hby : ∀ y ∈ bs, 0 ≤ y ∧ y ≤ 255) (hG : Good x) (hC : Came w x) (hne : ∀ ad, x.bo = some ad → 0 < x.dl → ad.block ≠ rb)
    (hp : pl ≤ n) (hcut : n < pl + putN x.K x.dl) (hpre : pl + 4 ≤ n → (bs.drop pl).take 4 = (putL x.K x.X x.S x.ds).take 4) :
    Calls Tryd.prog 27 #[.pointer (some ⟨rb, 0, none⟩), itmV x] w fun e w' => ∃ bb, e = .returned (.bool bb) ∧ Went w w' rb g n cap pl 11 bs := by
  obtain ⟨K, X, S, bo, dl, dc, ds⟩ := x
  obtain ⟨k1, k5, x0, x32, d20⟩ := hG
  obtain ⟨lies, small, s0, s1, x1⟩ := hC
  simp only at *
  have hR0 := fun K X S => hR.item K X S bo dl dc
  have hE0 := fun K X S => hE.item K X S bo dl dc
  have hlen := lies.hlen
  have h4 : ∀ r, (be (dl : Int) 4 ++ ds ++ r).take 4 = be (dl : Int) 4 := fun r => by
    have e4 : (be (dl : Int) 4).length = 4 := be_length _ _
    rw [List.append_assoc, List.take_append_of_le_length (by omega)]
    exact List.take_of_length_le (by omega)
  rcases (show K = 1 ∨ K = 2 ∨ K = 3 ∨ K = 4 ∨ K = 5 by omega) with rfl | rfl | rfl | rfl | rfl
  · have h := u32_any rb g n cap pl 0 X bs er _ (hR0 1 X S) (hE0 1 X S) hp hn hby (by omega)
    rw [cut_num 4 n bs pl X hcut] at h
    refine (back_1 rb g n cap _ _ 0 bs X S bo dl dc w hR.lt h).mono ?_
    rintro e w' ⟨rfl, hw⟩
    exact ⟨_, rfl, hw⟩
  · have h := u64_any rb g n cap pl 0 X bs er _ (hR0 2 X S) (hE0 2 X S) hp hn hby (by omega)
    rw [cut_num 8 n bs pl X hcut] at h
    refine (back_2 rb g n cap _ _ 0 bs X S bo dl dc w hR.lt h).mono ?_
    rintro e w' ⟨rfl, hw⟩
    exact ⟨_, rfl, hw⟩
  · have h := sum_any rb g n cap pl 0 bs er _ (hR0 3 X S) (hE0 3 X S) hp hn hby
    rw [cut_sum n bs pl hcut] at h
    refine (back_3 rb g n cap _ _ 0 bs X S bo dl dc w hR.lt h).mono ?_
    rintro e w' ⟨rfl, hw⟩
    exact ⟨_, rfl, hw⟩
  · have e1 : putN 4 dl = 4 + dl + padN dl := rfl
    have e2 : putL 4 X S ds = be ds.length 4 ++ ds ++ List.replicate (padN ds.length) 0 := rfl
    rw [e1] at hcut
    rw [e2, hlen, h4] at hpre
    have h := text17_any rb g n cap pl 0 dl bs er _ (hR0 4 X S) (hE0 4 X S) hp hn hby (by omega)
    rw [cut_text n bs pl dl d20 hcut hpre] at h
    refine (back_4 rb g n cap _ _ bs [] X S bo dl dc ds w hR.lt lies hne h).mono ?_
    rintro e w' ⟨rfl, hw⟩
    exact ⟨_, rfl, hw⟩
  · have e1 : putN 5 dl = 4 + dl + padN dl := rfl
    have e2 : putL 5 X S ds = be ds.length 4 ++ ds ++ List.replicate (padN ds.length) 0 := rfl
    rw [e1] at hcut
    rw [e2, hlen, h4] at hpre
    have h := bytes_any rb g n cap pl 0 dl bs er _ (hR0 5 X S) (hE0 5 X S) hp hn hby (by omega)
    rw [cut_text n bs pl dl d20 hcut hpre] at h
    refine (back_5 rb g n cap _ _ bs [] 5 X S bo dl dc ds w rfl rfl rfl rfl hR.lt (by simp) lies hne h).mono ?_
    rintro e w' ⟨rfl, hw⟩
    exact ⟨_, rfl, hw⟩

/-- The bytes behind the first k fields. -/
theorem putsL_drop (ls : List Itm) (k : Nat) (hk : k < ls.length) : (putsL ls).drop (lenTo ls k) = putL ls[k].K ls[k].X ls[k].S ls[k].ds ++ putsL (ls.drop (k + 1)) := by
  have e : putsL ls = putsL (ls.take k) ++ putsL (ls.drop k) := by
    unfold putsL
    rw [← List.flatMap_append, List.take_append_drop]
  have e2 : putsL (ls.drop k) = putL ls[k].K ls[k].X ls[k].S ls[k].ds ++ putsL (ls.drop (k + 1)) := by
    rw [List.drop_eq_getElem_cons hk]; rfl
  rw [e, List.drop_append_of_le_length (by unfold lenTo; omega), show (putsL (ls.take k)).drop (lenTo ls k) = [] from List.drop_of_length_le (by unfold lenTo; omega), List.nil_append, e2]
theorem piece_whole (ls : List Itm) (k c : Nat) (hk : k < ls.length) (hc : lenTo ls (k + 1) ≤ c) : (((putsL ls).take c).drop (lenTo ls k)).take (putN ls[k].K ls[k].ds.length) = putL ls[k].K ls[k].X ls[k].S ls[k].ds := by
  have h1 := lenTo_succ ls k hk
  rw [List.drop_take, List.take_take, Nat.min_eq_left (by omega), putsL_drop ls k hk, List.take_append_of_le_length (by rw [putL_length]; omega)]
  exact List.take_of_length_le (by rw [putL_length]; omega)
theorem putN_ge (x : Itm) (h : Good x) : 4 ≤ putN x.K x.ds.length := by
  obtain ⟨k1, k5, _, _, _⟩ := h
  rcases (show x.K = 1 ∨ x.K = 2 ∨ x.K = 3 ∨ x.K = 4 ∨ x.K = 5 by omega) with h | h | h | h | h <;> rw [h] <;> simp [putN] <;> omega
theorem piece_cut (ls : List Itm) (k c : Nat) (hk : k < ls.length) (hG : Good ls[k]) (hc : lenTo ls k + 4 ≤ c) : (((putsL ls).take c).drop (lenTo ls k)).take 4 = (putL ls[k].K ls[k].X ls[k].S ls[k].ds).take 4 := by
  have h1 := putN_ge _ hG
  rw [List.drop_take, List.take_take, Nat.min_eq_left (by omega), putsL_drop ls k hk, List.take_append_of_le_length (by rw [putL_length]; omega)]
theorem putsL_small (ls : List Itm) (w : World) (h : ∀ x ∈ ls, Good x ∧ Came w x) : ∀ y ∈ putsL ls, 0 ≤ y ∧ y ≤ 255 := by
  intro y hy
  have hbe : ∀ (X : Int) (k : Nat), ∀ y ∈ be X k, 0 ≤ y ∧ y ≤ 255 := by
    intro X k
    induction k with
    | zero => intro y hy; simp [be] at hy
    | succ k ih =>
      intro y hy
      simp only [be, List.mem_cons] at hy
      rcases hy with rfl | hy
      · omega
      · exact ih y hy
  obtain ⟨x, hx, hy⟩ := List.mem_flatMap.1 hy
  have hs := (h x hx).2.small
  unfold putL at hy
  have htx : ∀ y ∈ be (x.ds.length : Int) 4 ++ x.ds ++ List.replicate (padN x.ds.length) 0, 0 ≤ y ∧ y ≤ 255 := by
    intro y hy
    rcases List.mem_append.1 hy with hy | hy
    · rcases List.mem_append.1 hy with hy | hy
      · exact hbe _ _ y hy
      · exact hs y hy
    · have := List.eq_of_mem_replicate hy
      omega
  by_cases h1 : x.K = 1
  · rw [if_pos h1] at hy; exact hbe _ _ y hy
  rw [if_neg h1] at hy
  by_cases h2 : x.K = 2
  · rw [if_pos h2] at hy; exact hbe _ _ y hy
  rw [if_neg h2] at hy
  by_cases h3 : x.K = 3
  · rw [if_pos h3] at hy; exact hbe _ _ y hy
  rw [if_neg h3] at hy
  by_cases h4 : x.K = 4
  · rw [if_pos h4] at hy; exact htx y hy
  rw [if_neg h4] at hy
  by_cases h5 : x.K = 5
  · rw [if_pos h5] at hy; exact htx y hy
  rw [if_neg h5] at hy
  simp at hy
theorem lenTo_mono (ls : List Itm) (k : Nat) : lenTo ls k ≤ (putsL ls).length := by
  unfold lenTo
  have e : putsL ls = putsL (ls.take k) ++ putsL (ls.drop k) := by
    unfold putsL
    rw [← List.flatMap_append, List.take_append_drop]
  rw [e, List.length_append]; omega
theorem lenTo_all (ls : List Itm) : lenTo ls ls.length = (putsL ls).length := by unfold lenTo; rw [List.take_length]
theorem putsL_nil (ls : List Itm) (w : World) (h : ∀ x ∈ ls, Good x ∧ Came w x) (h0 : (putsL ls).length = 0) : ls = [] := by
  cases ls with
  | nil => rfl
  | cons x ls =>
    have h1 := putN_ge x (h x (by simp)).1
    have e : putsL (x :: ls) = putL x.K x.X x.S x.ds ++ putsL ls := rfl
    rw [e, List.length_append, putL_length] at h0
    omega
end Go.Proofs.YtjpaooejkbkliaaDoor
