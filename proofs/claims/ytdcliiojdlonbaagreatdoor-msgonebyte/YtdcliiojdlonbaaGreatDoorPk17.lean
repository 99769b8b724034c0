/- How long the lists of a request and of a reply that came in can be. -/
import Derived.Test.YtdcliiojdlonbaaGreatDoorPk09
import Derived.Test.YtdcliiojdlonbaaGreatDoorPk15
import Derived.Test.YtdcliiojdlonbaaGreatDoorPk16
namespace Go.Proofs.YtdcliiojdlonbaaGreatDoor
open Go.ChangeShapes Go.WideShapes Go.ChangeAt Go.RowKit Go.Deep
set_option maxRecDepth 100000

theorem bytesEnt : Tryz.prog.bytesOf 95 = 32 := by kernel_rfl
theorem bytes_reach {H : Type} {enc : TypeId × Value → H} {W : World} {fuel : Nat} {ao : Option Addr} {k c : Nat} {y : DataW H × List MemPlace}
    (hf : DataW.trod enc Tryz.prog W 0 (fun _ => true) true fuel 22 [.slice ao k c] = some y) (hall : ∀ n ∈ y.1.weights Tryz.prog 22, n ≤ reachBytes) : k ≤ reachBytes := by
  obtain ⟨a', l', c', Z, e, hL, _, hZ⟩ := bytes_of hf
  cases e
  rcases hZ with h | ⟨sp, h⟩
  · omega
  · have h1 := hall (((lits (H := H) .u8 Z).length + sp.length) * Tryz.prog.bytesOf 5) (by rw [h]; simp [DataW.weights, Tryz.underlying22])
    have h2 : (lits (H := H) .u8 Z).length = k := by simp [lits, hL.hlen]
    rw [bytes5, h2] at h1
    omega
theorem ents_reach {H : Type} {enc : TypeId × Value → H} {W : World} {fuel : Nat} {ao : Option Addr} {k c : Nat} {y : DataW H × List MemPlace}
    (hf : DataW.trod enc Tryz.prog W 0 (fun _ => true) true fuel 28 [.slice ao k c] = some y) (hall : ∀ n ∈ y.1.weights Tryz.prog 28, n ≤ reachBytes) : k ≤ reachBytes := by
  obtain ⟨a', l', c', l, e, _, _, hZ⟩ := view_ents hf
  cases e
  rcases hZ with h | ⟨el, sp, h, hel⟩
  · omega
  · have h1 := hall ((el.length + sp.length) * Tryz.prog.bytesOf 95) (by rw [h]; simp [DataW.weights, Tryz.underlying28])
    rw [bytesEnt, hel] at h1
    omega
theorem rq_data {H : Type} {enc : TypeId × Value → H} {W : World} {fuel : Nat} {r : Req} {ao : Option Addr} {k c : Nat} {d : DataW H} {p : List MemPlace}
    (hf : DataW.trod enc Tryz.prog W 0 (fun _ => true) true fuel 24 (rqV r ao k c).cells.toList = some (d, p)) (hall : ∀ n ∈ d.weights Tryz.prog 24, n ≤ reachBytes) : k ≤ reachBytes := by
  obtain ⟨xs, n, _, hd, _, hn, hfs⟩ := DataW.trod_struct Tryz.underlying24 hf
  have f : DataW.trod enc Tryz.prog W 0 (fun _ => true) true n 22 (((rqV r ao k c).cells.toList.drop 12).take (Tryz.prog.cellsOf 22)) = xs[12]? := hfs 12 _ rfl
  rw [cellsB] at f
  replace f : DataW.trod enc Tryz.prog W 0 (fun _ => true) true n 22 [.slice ao k c] = xs[12]? := f
  have h12 : 12 < xs.length := by rw [hn]; decide
  have hy : xs[12]? = some xs[12] := by simp [h12]
  rw [hy] at f
  simp only [Prod.mk.injEq] at hd
  refine bytes_reach f fun m hm => hall m ?_
  rw [hd.1]
  simp only [DataW.weights, Tryz.underlying24]
  exact DataW.weights_mem_each (j := 12) (t := 22) (d := xs[12].1) rfl (by simp [h12]) m hm
theorem rp_data {H : Type} {enc : TypeId × Value → H} {W : World} {fuel : Nat} {r : Rep} {ao : Option Addr} {k c : Nat} {lo : Option Addr} {ln lc : Nat} {d : DataW H} {p : List MemPlace}
    (hf : DataW.trod enc Tryz.prog W 0 (fun _ => true) true fuel 30 (rpV r ao k c lo ln lc).cells.toList = some (d, p)) (hall : ∀ n ∈ d.weights Tryz.prog 30, n ≤ reachBytes) : k ≤ reachBytes ∧ ln ≤ reachBytes := by
  obtain ⟨xs, n, _, hd, _, hn, hfs⟩ := DataW.trod_struct Tryz.underlying30 hf
  have f : DataW.trod enc Tryz.prog W 0 (fun _ => true) true n 22 (((rpV r ao k c lo ln lc).cells.toList.drop 9).take (Tryz.prog.cellsOf 22)) = xs[6]? := hfs 6 _ rfl
  have g : DataW.trod enc Tryz.prog W 0 (fun _ => true) true n 28 (((rpV r ao k c lo ln lc).cells.toList.drop 10).take (Tryz.prog.cellsOf 28)) = xs[7]? := hfs 7 _ rfl
  rw [cellsB] at f
  rw [cellsL] at g
  replace f : DataW.trod enc Tryz.prog W 0 (fun _ => true) true n 22 [.slice ao k c] = xs[6]? := f
  replace g : DataW.trod enc Tryz.prog W 0 (fun _ => true) true n 28 [.slice lo ln lc] = xs[7]? := g
  have h6 : 6 < xs.length := by rw [hn]; decide
  have h7 : 7 < xs.length := by rw [hn]; decide
  have hy : xs[6]? = some xs[6] := by simp [h6]
  have hz : xs[7]? = some xs[7] := by simp [h7]
  rw [hy] at f
  rw [hz] at g
  simp only [Prod.mk.injEq] at hd
  refine ⟨bytes_reach f fun m hm => hall m ?_, ents_reach g fun m hm => hall m ?_⟩
  · rw [hd.1]
    simp only [DataW.weights, Tryz.underlying30]
    exact DataW.weights_mem_each (j := 6) (t := 22) (d := xs[6].1) rfl (by simp [h6]) m hm
  · rw [hd.1]
    simp only [DataW.weights, Tryz.underlying30]
    exact DataW.weights_mem_each (j := 7) (t := 28) (d := xs[7].1) rfl (by simp [h7]) m hm
theorem each_reach {H : Type} {ts : List TypeId} {ds : List (DataW H)} (hsz : (DataW.weightsEach Tryz.prog ts ds).all (· ≤ reachBytes) = true) {j : Nat} {t : TypeId} {d : DataW H} (ht : ts[j]? = some t) (hd : ds[j]? = some d) : ∀ n ∈ d.weights Tryz.prog t, n ≤ reachBytes := fun n hn => by
  simpa using List.all_eq_true.1 hsz n (DataW.weights_mem_each ht hd n hn)
end Go.Proofs.YtdcliiojdlonbaaGreatDoor

/- Plain mathematics: what was put is taken again, of every kind; a valid message is read back from its datagram. -/
namespace Go.Proofs.YtdcliiojdlonbaaGreatDoor
open Go.RowKit
set_option maxRecDepth 100000

/-- An entry that its field can hold. -/
def FitE (e : Ent) : Prop := e.name.size ≤ 23 ∧ (0 ≤ e.id ∧ e.id < 9223372036854775808) ∧ 0 ≤ e.kind ∧ e.kind < 4294967296
/-- What its field can hold. -/
def FitA : Val → Prop
  | .small x => 0 ≤ x ∧ x < 4294967296
  | .great x => 0 ≤ x ∧ x < 9223372036854775808
  | .flag _ => True
  | .path s => s.size ≤ 384
  | .name s => s.size ≤ 23
  | .content d => d.length ≤ 1024
  | .attr i k z c => (0 ≤ i ∧ i < 9223372036854775808) ∧ (0 ≤ k ∧ k < 4294967296) ∧ (0 ≤ z ∧ z < 4294967296) ∧ 0 ≤ c ∧ c < 9223372036854775808
  | .entries l => l.length ≤ 16 ∧ ∀ e ∈ l, FitE e
/-- Of one kind. -/
def LikeA : Val → Val → Prop
  | .small _, .small _ => True
  | .great _, .great _ => True
  | .flag _, .flag _ => True
  | .path _, .path _ => True
  | .name _, .name _ => True
  | .content _, .content _ => True
  | .attr _ _ _ _, .attr _ _ _ _ => True
  | .entries _, .entries _ => True
  | _, _ => False
theorem txt_nums (s : ByteArray) : txt (nums s) = s := by
  apply N3.bs_inj
  simp only [txt, nums, N3.bs, List.map_map]
  conv => rhs; rw [← List.map_id s.data.toList]
  apply List.map_congr_left
  intro b _
  simp
theorem back_textM (n : Nat) (bs : List Int) (pl dl : Nat) (ds : List Int) (M : Int) (hM : (dl : Int) ≤ M) (hl : ds.length = dl) (hd : dl ≤ 1048576) (hfit : pl + (4 + dl + padN dl) ≤ n) (hpre : (bs.drop pl).take (4 + dl + padN dl) = be dl 4 ++ ds ++ List.replicate (padN dl) 0) :
    rdText n bs pl 0 M = (ds, pl + (4 + dl + padN dl), 0) := by
  have q := back_text n bs pl dl ds hl hd hfit hpre
  have e4 : (be (dl : Int) 4).length = 4 := be_length _ _
  have h4 : (bs.drop pl).take 4 = be (dl : Int) 4 := by
    have h := congrArg (List.take 4) hpre
    have e : (be (dl : Int) 4 ++ ds ++ List.replicate (padN dl) 0).take 4 = be (dl : Int) 4 := by
      rw [List.append_assoc, List.take_append_of_le_length (by omega)]
      exact List.take_of_length_le (by omega)
    rw [e, List.take_take, Nat.min_eq_left (by omega)] at h
    exact h
  unfold rdText at q ⊢
  rw [h4, val_len dl hd] at q ⊢
  rw [if_neg (show ¬ ((0 : Int) ≠ 0) by simp)] at q ⊢
  rw [if_neg (show ¬ n < pl + 4 by omega)] at q ⊢
  rw [if_neg (show ¬ (M < 0 ∨ M < (dl : Int)) by omega)]
  rw [if_neg (show ¬ ((dl : Int) < 0 ∨ (dl : Int) < (dl : Int)) by omega)] at q
  exact q
theorem back_txt (n : Nat) (bs : List Int) (pl : Nat) (s : ByteArray) (M : Int) (hM : (s.size : Int) ≤ M) (hd : s.size ≤ 1048576) (hfit : pl + (txB s).length ≤ n) (hpre : (bs.drop pl).take (txB s).length = txB s) :
    rdText n bs pl 0 M = (nums s, pl + (txB s).length, 0) := by
  rw [txB_length] at hfit hpre ⊢
  exact back_textM n bs pl s.size (nums s) M hM (nums_length s) hd hfit hpre
theorem rdEnt_back {e : Ent} (hf : FitE e) (n : Nat) (bs : List Int) (pl : Nat) (hfit : pl + (entB e).length ≤ n) (hpre : (bs.drop pl).take (entB e).length = entB e) : rdEnt n bs (pl, 0) = (e, (pl + (entB e).length, 0)) := by
  obtain ⟨h1, ⟨h2, h3⟩, h4, h5⟩ := hf
  unfold entB at hpre hfit ⊢
  obtain ⟨p1, p2⟩ := cut_front hpre
  obtain ⟨p3, p4⟩ := cut_front p1
  simp only [List.length_append, be_length] at hfit p2 p4 ⊢
  rw [wrap_small _ h2 (by omega)] at p4
  rw [wrap_small _ h4 (by omega)] at p2
  have q1 := back_txt n bs pl e.name 23 (by omega) (by omega) (by omega) p3
  have q2 := back_numM 8 n bs (pl + (txB e.name).length) e.id 9223372036854775807 h2 (Int.lt_of_lt_of_le h3 (by decide)) (by omega) (by omega) p4
  have q3 := back_numM 4 n bs (pl + (txB e.name).length + 8) e.kind 4294967295 h4 (Int.lt_of_lt_of_le h5 (by decide)) (by omega) (by omega) (by rw [← Nat.add_assoc] at p2; exact p2)
  unfold rdEnt
  simp only [q1, q2, q3, txt_nums]
  simp only [Nat.add_assoc]
theorem rdEnts_back (l : List Ent) (hf : ∀ e ∈ l, FitE e) (n : Nat) (bs : List Int) (pl : Nat) (hfit : pl + (l.flatMap entB).length ≤ n) (hpre : (bs.drop pl).take (l.flatMap entB).length = l.flatMap entB) :
    ∀ k, k ≤ l.length → rdEnts n bs k (pl, 0) = (l.take k, (pl + ((l.take k).flatMap entB).length, 0))
  | 0, _ => rfl
  | k + 1, hk => by
    have ih := rdEnts_back l hf n bs pl hfit hpre k (by omega)
    have hs : l.flatMap entB = (l.take k).flatMap entB ++ (entB l[k] ++ (l.drop (k + 1)).flatMap entB) := by
      conv => lhs; rw [← List.take_append_drop k l, List.drop_eq_getElem_cons (by omega : k < l.length)]
      rw [List.flatMap_append, List.flatMap_cons]
    have ht : l.take (k + 1) = l.take k ++ [l[k]] := by rw [List.take_succ_eq_append_getElem (by omega)]
    rw [hs] at hfit hpre
    obtain ⟨_, p2⟩ := cut_front hpre
    obtain ⟨p3, _⟩ := cut_front p2
    simp only [List.length_append] at hfit
    have q := rdEnt_back (hf l[k] (List.getElem_mem _)) n bs (pl + ((l.take k).flatMap entB).length) (by omega) p3
    unfold rdEnts
    simp only [ih, q, ht, List.flatMap_append, List.flatMap_cons, List.flatMap_nil, List.append_nil, List.length_append, Nat.add_assoc]
theorem take_backA {x k : Val} (hf : FitA x) (hl : LikeA k x) (n : Nat) (bs : List Int) (pl : Nat) (hfit : pl + (putV x).length ≤ n) (hpre : (bs.drop pl).take (putV x).length = putV x) :
    takeV n bs (pl, 0) k = (x, (pl + (putV x).length, 0)) ∧ takeE n bs (pl, 0) k = 0 := by
  cases x with
  | small x =>
    cases k with
    | small y => exact take_back (x := .small x) (k := .small y) hf trivial n bs pl hfit hpre
    | _ => exact hl.elim
  | great x =>
    cases k with
    | great y => exact take_back (x := .great x) (k := .great y) hf trivial n bs pl hfit hpre
    | _ => exact hl.elim
  | flag b =>
    cases k with
    | flag y =>
      have e : putV (.flag b) = be (if b then 1 else 0) 4 := by cases b <;> rfl
      rw [e] at hfit hpre ⊢
      rw [be_length] at hfit hpre ⊢
      have hv : val ((bs.drop pl).take 4) = if b then 1 else 0 := by
        rw [hpre]; cases b
        · exact val_be 4 0 (by decide) (by decide)
        · exact val_be 4 1 (by decide) (by decide)
      refine ⟨?_, rfl⟩
      unfold takeV rdFlag
      simp only [hv]
      rw [if_neg (by simp), if_neg (by omega)]
      cases b <;> simp
    | _ => exact hl.elim
  | path s =>
    cases k with
    | path y =>
      have hs : s.size ≤ 384 := hf
      have q := back_txt n bs pl s 384 (by omega) (by omega) hfit hpre
      refine ⟨?_, rfl⟩
      simp only [takeV, q, txt_nums, putV]
    | _ => exact hl.elim
  | name s =>
    cases k with
    | name y =>
      have hs : s.size ≤ 23 := hf
      have q := back_txt n bs pl s 23 (by omega) (by omega) hfit hpre
      refine ⟨?_, rfl⟩
      simp only [takeV, q, txt_nums, putV]
    | _ => exact hl.elim
  | content d =>
    cases k with
    | content y =>
      have hs : d.length ≤ 1024 := hf
      have e : putV (.content d) = dtB d := rfl
      rw [e] at hfit hpre ⊢
      rw [dtB_length] at hfit hpre ⊢
      have q := back_textM n bs pl d.length d 1024 (by omega) rfl (by omega) hfit hpre
      refine ⟨?_, rfl⟩
      simp only [takeV, q]
    | _ => exact hl.elim
  | attr i k' z c =>
    cases k with
    | attr _ _ _ _ =>
      obtain ⟨⟨h1, h2⟩, ⟨h3, h4⟩, ⟨h5, h6⟩, h7, h8⟩ := hf
      have e : putV (.attr i k' z c) = be (IntKind.u64.wrap i) 8 ++ be (IntKind.u64.wrap k') 4 ++ be (IntKind.u64.wrap z) 4 ++ be (IntKind.u64.wrap c) 8 := rfl
      rw [e] at hfit hpre ⊢
      obtain ⟨p1, p2⟩ := cut_front hpre
      obtain ⟨p3, p4⟩ := cut_front p1
      obtain ⟨p5, p6⟩ := cut_front p3
      simp only [List.length_append, be_length] at hfit p2 p4 p5 p6 ⊢
      rw [wrap_small _ h1 (by omega)] at p5
      rw [wrap_small _ h3 (by omega)] at p6
      rw [wrap_small _ h5 (by omega)] at p4
      rw [wrap_small _ h7 (by omega)] at p2
      have q1 := back_numM 8 n bs pl i 9223372036854775807 h1 (Int.lt_of_lt_of_le h2 (by decide)) (by omega) (by omega) p5
      have q2 := back_numM 4 n bs (pl + 8) k' 4294967295 h3 (Int.lt_of_lt_of_le h4 (by decide)) (by omega) (by omega) p6
      have q3 := back_numM 4 n bs (pl + 8 + 4) z 4294967295 h5 (Int.lt_of_lt_of_le h6 (by decide)) (by omega) (by omega) p4
      have q4 := back_numM 8 n bs (pl + 8 + 4 + 4) c 9223372036854775807 h7 (Int.lt_of_lt_of_le h8 (by decide)) (by omega) (by omega) p2
      refine ⟨?_, rfl⟩
      simp only [takeV, q1, q2, q3, q4]
    | _ => exact hl.elim
  | entries l =>
    cases k with
    | entries y =>
      obtain ⟨h1, h2⟩ := hf
      have e : putV (.entries l) = be (IntKind.u64.wrap l.length) 4 ++ l.flatMap entB := rfl
      rw [e] at hfit hpre ⊢
      obtain ⟨p1, p2⟩ := cut_front hpre
      simp only [List.length_append, be_length] at hfit p1 p2 ⊢
      rw [wrap_small _ (by omega) (by omega)] at p1
      have q1 := back_numM 4 n bs pl l.length 4294967295 (by omega) (Int.lt_of_le_of_lt (show (l.length : Int) ≤ 16 by omega) (by decide)) (by omega) (by omega) p1
      have q2 := rdEnts_back l h2 n bs (pl + 4) (by omega) p2 l.length (Nat.le_refl _)
      rw [List.take_length] at q2
      refine ⟨?_, ?_⟩
      · simp only [takeV, q1, Int.toNat_natCast, q2, Nat.add_assoc]
      · simp only [takeE, q1]
        rw [if_neg (by omega)]
    | _ => exact hl.elim

def LikesA : List (Int × Val) → List (Int × Val) → Prop
  | [], [] => True
  | k :: ks, g :: gs => k.1 = g.1 ∧ LikeA k.2 g.2 ∧ LikesA ks gs
  | _, _ => False
theorem takeL_backA : ∀ (gs ks : List (Int × Val)) (n : Nat) (bs : List Int) (pl : Nat), LikesA ks gs → (∀ g ∈ gs, FitA g.2) → pl + (putAll gs).length ≤ n → (bs.drop pl).take (putAll gs).length = putAll gs →
    takeL n bs ks (pl, 0) = (gs, (pl + (putAll gs).length, 0)) ∧ takeLE n bs ks (pl, 0) = 0
  | [], [], n, bs, pl, _, _, _, _ => ⟨rfl, rfl⟩
  | g :: gs, k :: ks, n, bs, pl, hk, hf, hn, hp => by
    have e : putAll (g :: gs) = putV g.2 ++ putAll gs := rfl
    rw [e] at hn hp ⊢
    obtain ⟨p1, p2⟩ := cut_front hp
    rw [List.length_append] at hn
    obtain ⟨q1, q2⟩ := take_backA (hf g (by simp)) hk.2.1 n bs pl (by omega) p1
    obtain ⟨r1, r2⟩ := takeL_backA gs ks n bs (pl + (putV g.2).length) hk.2.2 (fun x hx => hf x (by simp [hx])) (by omega) p2
    constructor
    · simp only [takeL, q1, r1]
      rw [List.length_append, Nat.add_assoc]
      simp [hk.1]
    · simp only [takeLE, q1, q2, r2, if_true]
  | [], _ :: _, _, _, _, h, _, _, _ => h.elim
  | _ :: _, [], _, _, _, h, _, _, _ => h.elim
theorem LikesA.pick (l : List Int) : ∀ {ks gs : List (Int × Val)}, LikesA ks gs → LikesA (pick l ks) (pick l gs)
  | [], [], _ => trivial
  | k :: ks, g :: gs, h => by
    have ih := LikesA.pick l h.2.2
    unfold Go.Proofs.YtdcliiojdlonbaaGreatDoor.pick at ih ⊢
    simp only [List.filter_cons, h.1]
    by_cases hg : g.1 ∈ l
    · simp only [hg, decide_true, if_true]
      exact ⟨h.1, h.2.1, ih⟩
    · simp only [hg, decide_false, Bool.false_eq_true, if_false]
      exact ih
  | [], _ :: _, h => h.elim
  | _ :: _, [], h => h.elim

theorem path_fit {s : ByteArray} (h : N3.splitE (N3.bs s) = 0) : s.size ≤ 384 := by
  obtain ⟨h2, h3⟩ := N3.path_split h
  have h4 := N3.pathT_len h2
  rw [h3] at h4
  rw [N3.size_bs]; exact h4
theorem ent_ok {l : List Ent} (h : listB l = true) : l.length ≤ 16 ∧ ∀ e ∈ l, entOk e = true := by
  simp only [listB, Bool.and_eq_true, decide_eq_true_eq] at h
  refine ⟨h.1, fun e he => ?_⟩
  obtain ⟨k, hk, rfl⟩ := List.getElem_of_mem he
  have h2 := h.2 k hk
  cases h4 : entOk l[k]
  · rw [okAt_ent hk h4] at h2; cases h2
  · rfl
theorem kind_fit {k : Int} (h : kindB k = true) : 1 ≤ k ∧ k ≤ 2 := by
  simp only [kindB, Bool.or_eq_true, decide_eq_true_eq] at h; omega
theorem may_fit {op no : Int} {x : Val} (h : mayB op no x = true) : FitA x := by
  cases x with
  | small x =>
    simp only [mayB] at h
    by_cases h7 : no = 7
    · rw [if_pos h7] at h
      have := inB_true h
      exact ⟨by omega, by omega⟩
    · rw [if_neg h7] at h
      have := inB_true h
      have hm : mostLen op ≤ 1024 := by unfold mostLen; split <;> omega
      exact ⟨by omega, by omega⟩
  | great x => have := inB_true h; exact ⟨by omega, by omega⟩
  | flag b => trivial
  | path s => exact path_fit (by simpa [mayB] using h)
  | name s =>
    show s.size ≤ 23
    simp only [mayB, Bool.or_eq_true, Bool.and_eq_true, decide_eq_true_eq] at h
    rcases h with h | h
    · omega
    · exact name_small h
  | content d =>
    show d.length ≤ 1024
    simp only [mayB, Bool.and_eq_true, decide_eq_true_eq] at h
    exact h.1
  | attr i k z c =>
    simp only [mayB, attrB, Bool.and_eq_true] at h
    obtain ⟨⟨⟨h1, h2⟩, h3⟩, h4⟩ := h
    have q1 := inB_true h1
    have q4 := inB_true h4
    have q2 : 1 ≤ k ∧ k ≤ 2 := by
      unfold kindFits at h2
      split at h2
      · simp at h2; omega
      · split at h2
        · simp at h2; omega
        · exact kind_fit h2
    have q3 : 0 ≤ z ∧ z ≤ 69632 := by
      unfold sizeFits at h3
      split at h3
      · simp only [Bool.and_eq_true] at h3
        have := inB_true h3.1
        omega
      · exact inB_true h3
    exact ⟨⟨by omega, by omega⟩, ⟨by omega, by omega⟩, ⟨by omega, by omega⟩, by omega, by omega⟩
  | entries l =>
    obtain ⟨h1, h2⟩ := ent_ok (by simpa [mayB] using h)
    refine ⟨h1, fun e he => ?_⟩
    have h3 := h2 e he
    simp only [entOk, Bool.and_eq_true] at h3
    have a1 := name_small h3.1.1
    have a2 := inB_true h3.1.2
    have a3 := kind_fit h3.2
    exact ⟨a1, ⟨by omega, by omega⟩, by omega, by omega⟩
theorem judge_all {op : Int} {l : List Int} {gs : List (Int × Val)} (h : judgeE op l gs = 0) : ∀ g ∈ gs, fieldB op l g = true := by
  have h3 : gs.all (fieldB op l) = true := by
    unfold judgeE at h
    by_cases hx : gs.all (fieldB op l) = true
    · exact hx
    · rw [if_neg hx] at h; cases h
  exact List.all_eq_true.1 h3
theorem judge_fit {op : Int} {l : List Int} {gs : List (Int × Val)} (h : judgeE op l gs = 0) : ∀ g ∈ pick l gs, FitA g.2 := by
  intro g hg
  obtain ⟨h1, h2⟩ := pick_mem hg
  have h4 := judge_all h g h1
  unfold fieldB at h4
  rw [if_pos h2] at h4
  exact may_fit h4
theorem judge_zeros {op : Int} {l : List Int} {gs : List (Int × Val)} (h : judgeE op l gs = 0) : ∀ g ∈ gs, g.1 ∉ l → zeroB g.2 = true := by
  intro g hg hn
  have h4 := judge_all h g hg
  unfold fieldB at h4
  rwa [if_neg hn] at h4

/-- How long a field is at most. -/
def bnd : Val → Nat
  | .small _ => 4 | .great _ => 8 | .flag _ => 4 | .path _ => 391 | .name _ => 30 | .content _ => 1031 | .attr _ _ _ _ => 24 | .entries _ => 676
theorem pad_le (n : Nat) : padN n ≤ 3 := by unfold padN; omega
theorem ents_len : ∀ (l : List Ent), (∀ e ∈ l, FitE e) → (l.flatMap entB).length ≤ l.length * 42
  | [], _ => by simp
  | e :: l, h => by
    have ih := ents_len l (fun x hx => h x (by simp [hx]))
    have h1 := (h e (by simp)).1
    have h2 := pad_le e.name.size
    have h3 := txB_length e.name
    simp only [List.flatMap_cons, List.length_append, entB, be_length, List.length_cons]
    omega
theorem put_bnd {x : Val} (h : FitA x) : (putV x).length ≤ bnd x := by
  cases x with
  | small x => simp [putV, be_length, bnd]
  | great x => simp [putV, be_length, bnd]
  | flag x => simp [putV, be_length, bnd]
  | path s => have h1 : s.size ≤ 384 := h; have h2 := pad_le s.size; have h3 := txB_length s; show (txB s).length ≤ 391; omega
  | name s => have h1 : s.size ≤ 23 := h; have h2 := pad_le s.size; have h3 := txB_length s; show (txB s).length ≤ 30; omega
  | content d => have h1 : d.length ≤ 1024 := h; have h2 := pad_le d.length; have h3 := dtB_length d; show (dtB d).length ≤ 1031; omega
  | attr i k z c => simp [putV, be_length, bnd]
  | entries l =>
    obtain ⟨h1, h2⟩ := h
    have h3 := ents_len l h2
    show (be (IntKind.u64.wrap l.length) 4 ++ l.flatMap entB).length ≤ 676
    rw [List.length_append, be_length]
    omega
theorem all_bnd : ∀ {gs : List (Int × Val)}, (∀ g ∈ gs, FitA g.2) → (putAll gs).length ≤ (gs.map fun g => bnd g.2).sum
  | [], _ => by simp [putAll]
  | g :: gs, h => by
    have ih := all_bnd (gs := gs) (fun x hx => h x (by simp [hx]))
    have h1 := put_bnd (h g (by simp))
    have e : putAll (g :: gs) = putV g.2 ++ putAll gs := rfl
    rw [e, List.length_append, List.map_cons, List.sum_cons]
    omega
theorem rq_bnd (r : Req) (op : Int) : ((pick (hasRq op) (rqAny r)).map fun g => bnd g.2).sum ≤ 1356 := by
  unfold hasRq
  split
  · exact Nat.le_of_ble_eq_true rfl
  split
  · exact Nat.le_of_ble_eq_true rfl
  split
  · exact Nat.le_of_ble_eq_true rfl
  split
  · exact Nat.le_of_ble_eq_true rfl
  split
  · exact Nat.le_of_ble_eq_true rfl
  split
  · exact Nat.le_of_ble_eq_true rfl
  split
  · exact Nat.le_of_ble_eq_true rfl
  · exact Nat.le_of_ble_eq_true rfl
theorem rp_bnd (r : Rep) (op st : Int) : ((pick (hasRp op st) (rpAny r)).map fun g => bnd g.2).sum ≤ 1356 := by
  unfold hasRp
  split
  · split
    · exact Nat.le_of_ble_eq_true rfl
    split
    · exact Nat.le_of_ble_eq_true rfl
    split
    · exact Nat.le_of_ble_eq_true rfl
    · exact Nat.le_of_ble_eq_true rfl
  · exact Nat.le_of_ble_eq_true rfl
end Go.Proofs.YtdcliiojdlonbaaGreatDoor

/- Plain mathematics: a valid request is read back from its datagram; a valid reply likewise. -/
namespace Go.Proofs.YtdcliiojdlonbaaGreatDoor
open Go.RowKit
set_option maxRecDepth 100000

theorem empty_of {s : ByteArray} (h : decide (s.size = 0) = true) : s = ⟨#[]⟩ := by
  have h1 : s.size = 0 := by simpa using h
  obtain ⟨⟨l⟩⟩ := s
  have h2 : l.length = 0 := h1
  rw [List.eq_nil_of_length_eq_zero h2]
theorem nil_of {α : Type} {l : List α} (h : decide (l.length = 0) = true) : l = [] := List.eq_nil_of_length_eq_zero (by simpa using h)
theorem zero_of {x : Int} (h : decide (x = 0) = true) : x = 0 := by simpa using h

theorem rq_fill (r : Req) (l : List Int) (hz : ∀ g ∈ rqAny r, g.1 ∉ l → zeroB g.2 = true) :
    (pick l (rqAny r)).foldl rqPlace ⟨r.client, r.seq, r.ack, r.epoch, r.op, 0, 0, 0, 0, ⟨#[]⟩, ⟨#[]⟩, ⟨#[]⟩, []⟩ = r := by
  unfold pick
  rw [List.foldl_filter]
  obtain ⟨client, seq, ack, epoch, op, id, id2, off, len, path, name, name2, data⟩ := r
  have z6 := hz (6, .great id) (by simp [rqAny])
  have z7 := hz (7, .small off) (by simp [rqAny])
  have z8 := hz (8, .small len) (by simp [rqAny])
  have z9 := hz (9, .path path) (by simp [rqAny])
  have z10 := hz (10, .name name) (by simp [rqAny])
  have z11 := hz (11, .great id2) (by simp [rqAny])
  have z12 := hz (12, .name name2) (by simp [rqAny])
  have z14 := hz (14, .content data) (by simp [rqAny])
  clear hz
  simp only [rqAny, List.foldl_cons, List.foldl_nil]
  have s6 : (if decide ((6 : Int) ∈ l) = true then rqPlace ⟨client, seq, ack, epoch, op, 0, 0, 0, 0, ⟨#[]⟩, ⟨#[]⟩, ⟨#[]⟩, []⟩ (6, .great id) else ⟨client, seq, ack, epoch, op, 0, 0, 0, 0, ⟨#[]⟩, ⟨#[]⟩, ⟨#[]⟩, []⟩) = (⟨client, seq, ack, epoch, op, id, 0, 0, 0, ⟨#[]⟩, ⟨#[]⟩, ⟨#[]⟩, []⟩ : Req) := by
    by_cases h : (6 : Int) ∈ l
    · rw [if_pos (decide_eq_true h)]; rfl
    · rw [if_neg (by simpa using h), zero_of (z6 h)]
  rw [s6]
  have s7 : (if decide ((7 : Int) ∈ l) = true then rqPlace ⟨client, seq, ack, epoch, op, id, 0, 0, 0, ⟨#[]⟩, ⟨#[]⟩, ⟨#[]⟩, []⟩ (7, .small off) else ⟨client, seq, ack, epoch, op, id, 0, 0, 0, ⟨#[]⟩, ⟨#[]⟩, ⟨#[]⟩, []⟩) = (⟨client, seq, ack, epoch, op, id, 0, off, 0, ⟨#[]⟩, ⟨#[]⟩, ⟨#[]⟩, []⟩ : Req) := by
    by_cases h : (7 : Int) ∈ l
    · rw [if_pos (decide_eq_true h)]; rfl
    · rw [if_neg (by simpa using h), zero_of (z7 h)]
  rw [s7]
  have s8 : (if decide ((8 : Int) ∈ l) = true then rqPlace ⟨client, seq, ack, epoch, op, id, 0, off, 0, ⟨#[]⟩, ⟨#[]⟩, ⟨#[]⟩, []⟩ (8, .small len) else ⟨client, seq, ack, epoch, op, id, 0, off, 0, ⟨#[]⟩, ⟨#[]⟩, ⟨#[]⟩, []⟩) = (⟨client, seq, ack, epoch, op, id, 0, off, len, ⟨#[]⟩, ⟨#[]⟩, ⟨#[]⟩, []⟩ : Req) := by
    by_cases h : (8 : Int) ∈ l
    · rw [if_pos (decide_eq_true h)]; rfl
    · rw [if_neg (by simpa using h), zero_of (z8 h)]
  rw [s8]
  have s9 : (if decide ((9 : Int) ∈ l) = true then rqPlace ⟨client, seq, ack, epoch, op, id, 0, off, len, ⟨#[]⟩, ⟨#[]⟩, ⟨#[]⟩, []⟩ (9, .path path) else ⟨client, seq, ack, epoch, op, id, 0, off, len, ⟨#[]⟩, ⟨#[]⟩, ⟨#[]⟩, []⟩) = (⟨client, seq, ack, epoch, op, id, 0, off, len, path, ⟨#[]⟩, ⟨#[]⟩, []⟩ : Req) := by
    by_cases h : (9 : Int) ∈ l
    · rw [if_pos (decide_eq_true h)]; rfl
    · rw [if_neg (by simpa using h), empty_of (z9 h)]
  rw [s9]
  have s10 : (if decide ((10 : Int) ∈ l) = true then rqPlace ⟨client, seq, ack, epoch, op, id, 0, off, len, path, ⟨#[]⟩, ⟨#[]⟩, []⟩ (10, .name name) else ⟨client, seq, ack, epoch, op, id, 0, off, len, path, ⟨#[]⟩, ⟨#[]⟩, []⟩) = (⟨client, seq, ack, epoch, op, id, 0, off, len, path, name, ⟨#[]⟩, []⟩ : Req) := by
    by_cases h : (10 : Int) ∈ l
    · rw [if_pos (decide_eq_true h)]; rfl
    · rw [if_neg (by simpa using h), empty_of (z10 h)]
  rw [s10]
  have s11 : (if decide ((11 : Int) ∈ l) = true then rqPlace ⟨client, seq, ack, epoch, op, id, 0, off, len, path, name, ⟨#[]⟩, []⟩ (11, .great id2) else ⟨client, seq, ack, epoch, op, id, 0, off, len, path, name, ⟨#[]⟩, []⟩) = (⟨client, seq, ack, epoch, op, id, id2, off, len, path, name, ⟨#[]⟩, []⟩ : Req) := by
    by_cases h : (11 : Int) ∈ l
    · rw [if_pos (decide_eq_true h)]; rfl
    · rw [if_neg (by simpa using h), zero_of (z11 h)]
  rw [s11]
  have s12 : (if decide ((12 : Int) ∈ l) = true then rqPlace ⟨client, seq, ack, epoch, op, id, id2, off, len, path, name, ⟨#[]⟩, []⟩ (12, .name name2) else ⟨client, seq, ack, epoch, op, id, id2, off, len, path, name, ⟨#[]⟩, []⟩) = (⟨client, seq, ack, epoch, op, id, id2, off, len, path, name, name2, []⟩ : Req) := by
    by_cases h : (12 : Int) ∈ l
    · rw [if_pos (decide_eq_true h)]; rfl
    · rw [if_neg (by simpa using h), empty_of (z12 h)]
  rw [s12]
  by_cases h : (14 : Int) ∈ l
  · rw [if_pos (decide_eq_true h)]; rfl
  · rw [if_neg (by simpa using h), nil_of (z14 h)]
theorem rp_fill (r : Rep) (l : List Int) (hz : ∀ g ∈ rpAny r, g.1 ∉ l → zeroB g.2 = true) :
    (pick l (rpAny r)).foldl rpPlace ⟨r.client, r.seq, r.epoch, r.op, r.status, 0, 0, 0, 0, [], [], false⟩ = r := by
  unfold pick
  rw [List.foldl_filter]
  obtain ⟨client, seq, epoch, op, status, ai, ak, az, ac, data, list, more⟩ := r
  have z13 := hz (13, .attr ai ak az ac) (by simp [rpAny])
  have z14 := hz (14, .content data) (by simp [rpAny])
  have z15 := hz (15, .entries list) (by simp [rpAny])
  have z16 := hz (16, .flag more) (by simp [rpAny])
  clear hz
  simp only [rpAny, List.foldl_cons, List.foldl_nil]
  have s13 : (if decide ((13 : Int) ∈ l) = true then rpPlace ⟨client, seq, epoch, op, status, 0, 0, 0, 0, [], [], false⟩ (13, .attr ai ak az ac) else ⟨client, seq, epoch, op, status, 0, 0, 0, 0, [], [], false⟩) = (⟨client, seq, epoch, op, status, ai, ak, az, ac, [], [], false⟩ : Rep) := by
    by_cases h : (13 : Int) ∈ l
    · rw [if_pos (decide_eq_true h)]; rfl
    · have z := z13 h
      simp only [zeroB, Bool.and_eq_true, decide_eq_true_eq] at z
      obtain ⟨⟨⟨rfl, rfl⟩, rfl⟩, rfl⟩ := z
      rw [if_neg (by simpa using h)]
  rw [s13]
  have s14 : (if decide ((14 : Int) ∈ l) = true then rpPlace ⟨client, seq, epoch, op, status, ai, ak, az, ac, [], [], false⟩ (14, .content data) else ⟨client, seq, epoch, op, status, ai, ak, az, ac, [], [], false⟩) = (⟨client, seq, epoch, op, status, ai, ak, az, ac, data, [], false⟩ : Rep) := by
    by_cases h : (14 : Int) ∈ l
    · rw [if_pos (decide_eq_true h)]; rfl
    · rw [if_neg (by simpa using h), nil_of (z14 h)]
  rw [s14]
  have s15 : (if decide ((15 : Int) ∈ l) = true then rpPlace ⟨client, seq, epoch, op, status, ai, ak, az, ac, data, [], false⟩ (15, .entries list) else ⟨client, seq, epoch, op, status, ai, ak, az, ac, data, [], false⟩) = (⟨client, seq, epoch, op, status, ai, ak, az, ac, data, list, false⟩ : Rep) := by
    by_cases h : (15 : Int) ∈ l
    · rw [if_pos (decide_eq_true h)]; rfl
    · rw [if_neg (by simpa using h), nil_of (z15 h)]
  rw [s15]
  by_cases h : (16 : Int) ∈ l
  · rw [if_pos (decide_eq_true h)]; rfl
  · have z := z16 h
    rw [if_neg (by simpa using h)]
    simp only [zeroB, Bool.not_eq_true'] at z
    subst z
    rfl

theorem rqHeadE_fit {r : Req} (h : rqHeadE r = 0) : ∀ g ∈ rqHead r, FitA g.2 := by
  unfold rqHeadE at h
  by_cases h1 : inB r.client 0 7 = false
  · rw [if_pos h1] at h; cases h
  rw [if_neg h1] at h
  by_cases h2 : (inB r.seq 1 4611686018427387904 && inB r.ack 0 (r.seq - 1)) = false
  · rw [if_pos h2] at h; cases h
  rw [if_neg h2] at h
  by_cases h3 : inB r.epoch 0 4611686018427387904 = false
  · rw [if_pos h3] at h; cases h
  rw [if_neg h3] at h
  by_cases h4 : inB r.op 1 10 = false
  · rw [if_pos h4] at h; cases h
  simp only [Bool.not_eq_false, Bool.and_eq_true] at h1 h2 h3 h4
  have q1 := inB_true h1
  have q2 := inB_true h2.1
  have q3 := inB_true h2.2
  have q4 := inB_true h3
  have q5 := inB_true h4
  intro g hg
  simp only [rqHead, List.mem_cons, List.not_mem_nil, or_false] at hg
  rcases hg with rfl | rfl | rfl | rfl | rfl <;> exact ⟨by omega, by omega⟩
theorem status_fit {x : Int} (h : statusB x = true) : 0 ≤ x ∧ x ≤ 152 := by
  simp [statusB] at h
  omega
theorem rpHeadE_fit {r : Rep} (h : rpHeadE r = 0) : ∀ g ∈ rpHead r, FitA g.2 := by
  unfold rpHeadE at h
  by_cases h1 : inB r.client 0 7 = false
  · rw [if_pos h1] at h; cases h
  rw [if_neg h1] at h
  by_cases h2 : inB r.seq 1 4611686018427387904 = false
  · rw [if_pos h2] at h; cases h
  rw [if_neg h2] at h
  by_cases h3 : inB r.epoch 1 4611686018427387904 = false
  · rw [if_pos h3] at h; cases h
  rw [if_neg h3] at h
  by_cases h4 : inB r.op 1 10 = false
  · rw [if_pos h4] at h; cases h
  rw [if_neg h4] at h
  by_cases h5 : statusB r.status = false
  · rw [if_pos h5] at h; cases h
  simp only [Bool.not_eq_false] at h1 h2 h3 h4 h5
  have q1 := inB_true h1
  have q2 := inB_true h2
  have q4 := inB_true h3
  have q5 := inB_true h4
  have q6 := status_fit h5
  intro g hg
  simp only [rpHead, List.mem_cons, List.not_mem_nil, or_false] at hg
  rcases hg with rfl | rfl | rfl | rfl | rfl <;> exact ⟨by omega, by omega⟩

theorem rqE_head {r : Req} (h : rqE r = 0) : rqHeadE r = 0 := by
  unfold rqE at h
  by_cases h1 : rqHeadE r = 0
  · exact h1
  · rw [if_neg h1] at h; exact absurd h h1
theorem rpE_head {r : Rep} (h : rpE r = 0) : rpHeadE r = 0 ∧ rpBodyE r = 0 := by
  unfold rpE at h
  by_cases h1 : rpHeadE r = 0
  · rw [if_pos h1] at h; exact ⟨h1, h⟩
  · rw [if_neg h1] at h; exact absurd h h1

/-- A valid request, read from its own datagram. -/
theorem rq_back {r : Req} (h : rqE r = 0) : rqDE (rqB r) = 0 ∧ rqD (rqB r) = r ∧ (rqB r).length ≤ 1400 := by
  have hh := rqE_head h
  have hj := rqE_zero h
  have hf1 := rqHeadE_fit hh
  have hf2 := judge_fit hj
  have hz := judge_zeros hj
  have hfill := rq_fill r (hasRq r.op) hz
  have hl1 : (putAll (rqHead r)).length = 32 := by simp [putAll, rqHead, putV, be_length]
  have hl2 := Nat.le_trans (all_bnd hf2) (rq_bnd r r.op)
  have hlk : LikesA (pick (hasRq r.op) (rqAny (⟨r.client, r.seq, r.ack, r.epoch, r.op, 0, 0, 0, 0, ⟨#[]⟩, ⟨#[]⟩, ⟨#[]⟩, []⟩ : Req))) (pick (hasRq r.op) (rqAny r)) := LikesA.pick _ ⟨rfl, trivial, rfl, trivial, rfl, trivial, rfl, trivial, rfl, trivial, rfl, trivial, rfl, trivial, rfl, trivial, trivial⟩
  obtain ⟨B, hB⟩ : ∃ B, B = putAll (rqHead r) ++ putAll (pick (hasRq r.op) (rqAny r)) := ⟨_, rfl⟩
  have hX : rqB r = closeB ([65, 78, 81, 49] ++ B) := by
    unfold rqB
    rw [show nums ⟨#[65, 78, 81, 49]⟩ = [65, 78, 81, 49] by decide, hB, List.append_assoc]
  have hBl : B.length ≤ 1388 := by rw [hB, List.length_append]; omega
  have hopen := openE_close (mg := [65, 78, 81, 49]) (B := B) rfl hBl
  obtain ⟨m1, m2⟩ := close_mid (mg := [65, 78, 81, 49]) (B := B) rfl
  rw [← hX] at hopen m1 m2
  have hpre : (B.drop 0).take (putAll (rqHead r) ++ putAll (pick (hasRq r.op) (rqAny r))).length = putAll (rqHead r) ++ putAll (pick (hasRq r.op) (rqAny r)) := by
    rw [← hB, List.drop_zero, List.take_length]
  obtain ⟨c1, c2⟩ := cut_front hpre
  rw [hl1, Nat.zero_add] at c2
  have hBl2 : B.length = 32 + (putAll (pick (hasRq r.op) (rqAny r))).length := by rw [hB, List.length_append, hl1]
  obtain ⟨a1, _⟩ := takeL_backA (rqHead r) (rqHead rq0) B.length B 0 ⟨rfl, trivial, rfl, trivial, rfl, trivial, rfl, trivial, rfl, trivial, trivial⟩ hf1 (by omega) c1
  rw [hl1, Nat.zero_add] at a1
  obtain ⟨b1, b2⟩ := takeL_backA (pick (hasRq r.op) (rqAny r)) _ B.length B 32 hlk hf2 (by omega) c2
  rw [← hBl2] at b1
  have t1 : rqH B.length B = (rqHead r, (32, 0)) := a1
  have t2 : rq1 B.length B = ⟨r.client, r.seq, r.ack, r.epoch, r.op, 0, 0, 0, 0, ⟨#[]⟩, ⟨#[]⟩, ⟨#[]⟩, []⟩ := by unfold rq1; rw [t1]; rfl
  have t3 : rqG (rq1 B.length B) = pick (hasRq r.op) (rqAny (⟨r.client, r.seq, r.ack, r.epoch, r.op, 0, 0, 0, 0, ⟨#[]⟩, ⟨#[]⟩, ⟨#[]⟩, []⟩ : Req)) := by rw [t2]; rfl
  have t4 : lastE B.length B (rqG (rq1 B.length B)) (rqH B.length B).2 = 0 := by
    rw [t3, t1]; unfold lastE; simp only [b1, b2]; simp [rdClose]
  have t5 : rq2 B.length B = r := by unfold rq2; rw [t3, t1, t2]; simp only [b1]; exact hfill
  have t2h : rqHeadE (rq1 B.length B) = 0 := by rw [t2]; exact hh
  have t6 : rqTE B.length B = 0 := by
    unfold rqTE
    rw [t4, t5, t2h, t1]
    simp only [not_true_eq_false, if_false]
    exact hj
  have t7 : rqDE (rqB r) = 0 := by
    unfold rqDE
    rw [m1, m2, hopen, t6]; rfl
  refine ⟨t7, ?_, ?_⟩
  · unfold rqD
    rw [if_pos t7, m1, m2, t5]
  · rw [hX]; simp [closeB, be_length]; omega
/-- A valid reply, read from its own datagram. -/
theorem rp_back {r : Rep} (h : rpE r = 0) : rpDE (rpB r) = 0 ∧ rpD (rpB r) = r ∧ (rpB r).length ≤ 1400 := by
  obtain ⟨hh, hbody⟩ := rpE_head h
  have hj := rpE_zero h
  have hf1 := rpHeadE_fit hh
  have hf2 := judge_fit hj
  have hz := judge_zeros hj
  have hfill := rp_fill r (hasRp r.op r.status) hz
  have hl1 : (putAll (rpHead r)).length = 28 := by simp [putAll, rpHead, putV, be_length]
  have hl2 := Nat.le_trans (all_bnd hf2) (rp_bnd r r.op r.status)
  have hlk : LikesA (pick (hasRp r.op r.status) (rpAny (⟨r.client, r.seq, r.epoch, r.op, r.status, 0, 0, 0, 0, [], [], false⟩ : Rep))) (pick (hasRp r.op r.status) (rpAny r)) := LikesA.pick _ ⟨rfl, trivial, rfl, trivial, rfl, trivial, rfl, trivial, trivial⟩
  obtain ⟨B, hB⟩ : ∃ B, B = putAll (rpHead r) ++ putAll (pick (hasRp r.op r.status) (rpAny r)) := ⟨_, rfl⟩
  have hX : rpB r = closeB ([65, 78, 82, 49] ++ B) := by
    unfold rpB
    rw [show nums ⟨#[65, 78, 82, 49]⟩ = [65, 78, 82, 49] by decide, hB, List.append_assoc]
  have hBl : B.length ≤ 1388 := by rw [hB, List.length_append]; omega
  have hopen := openE_close (mg := [65, 78, 82, 49]) (B := B) rfl hBl
  obtain ⟨m1, m2⟩ := close_mid (mg := [65, 78, 82, 49]) (B := B) rfl
  rw [← hX] at hopen m1 m2
  have hpre : (B.drop 0).take (putAll (rpHead r) ++ putAll (pick (hasRp r.op r.status) (rpAny r))).length = putAll (rpHead r) ++ putAll (pick (hasRp r.op r.status) (rpAny r)) := by
    rw [← hB, List.drop_zero, List.take_length]
  obtain ⟨c1, c2⟩ := cut_front hpre
  rw [hl1, Nat.zero_add] at c2
  have hBl2 : B.length = 28 + (putAll (pick (hasRp r.op r.status) (rpAny r))).length := by rw [hB, List.length_append, hl1]
  obtain ⟨a1, _⟩ := takeL_backA (rpHead r) (rpHead rp0) B.length B 0 ⟨rfl, trivial, rfl, trivial, rfl, trivial, rfl, trivial, rfl, trivial, trivial⟩ hf1 (by omega) c1
  rw [hl1, Nat.zero_add] at a1
  obtain ⟨b1, b2⟩ := takeL_backA (pick (hasRp r.op r.status) (rpAny r)) _ B.length B 28 hlk hf2 (by omega) c2
  rw [← hBl2] at b1
  have t1 : rpH B.length B = (rpHead r, (28, 0)) := a1
  have t2 : rp1 B.length B = ⟨r.client, r.seq, r.epoch, r.op, r.status, 0, 0, 0, 0, [], [], false⟩ := by unfold rp1; rw [t1]; rfl
  have t3 : rpG (rp1 B.length B) = pick (hasRp r.op r.status) (rpAny (⟨r.client, r.seq, r.epoch, r.op, r.status, 0, 0, 0, 0, [], [], false⟩ : Rep)) := by rw [t2]; rfl
  have t4 : lastE B.length B (rpG (rp1 B.length B)) (rpH B.length B).2 = 0 := by
    rw [t3, t1]; unfold lastE; simp only [b1, b2]; simp [rdClose]
  have t5 : rp2 B.length B = r := by unfold rp2; rw [t3, t1, t2]; simp only [b1]; exact hfill
  have t2h : rpHeadE (rp1 B.length B) = 0 := by rw [t2]; exact hh
  have t6 : rpTE B.length B = 0 := by
    unfold rpTE
    rw [t4, t5, t2h, t1]
    simp only [not_true_eq_false, if_false]
    exact hbody
  have t7 : rpDE (rpB r) = 0 := by
    unfold rpDE
    rw [m1, m2, hopen, t6]; rfl
  refine ⟨t7, ?_, ?_⟩
  · unfold rpD
    rw [if_pos t7, m1, m2, t5]
  · rw [hX]; simp [closeB, be_length]; omega
end Go.Proofs.YtdcliiojdlonbaaGreatDoor

/- MsgBack by its contract. -/
namespace Go.Proofs.YtdcliiojdlonbaaGreatDoor
open Go.RowKit
set_option maxRecDepth 100000

/-- Encode, in one word. -/
theorem encRq (r : Req) (ao : Option Addr) (n c : Nat) (w : World) (hD : Lies w ao n c r.data) (hp : r.path.size ≤ 281474976710656) (hby : Bys r.data) :
    Calls Tryz.prog 10 #[rqV r ao n c] w fun e w' => ∃ go k l, e = .returned (.tuple #[.slice go k l, .int .i64 (rqE r)]) ∧ Below w.heap.size w w' ∧ (rqE r = 0 → Lies w' go k l (rqB r)) ∧ (rqE r ≠ 0 → k = 0) := by
  refine (EncodeRequest_any r ao n c w hD hp hby).mono ?_
  rintro e w' (⟨h, he, hb⟩ | ⟨h, g, k, l, he, ho, hb⟩)
  · exact ⟨_, _, _, he, hb, fun q => absurd q h, fun _ => rfl⟩
  · exact ⟨_, _, _, by rw [h]; exact he, hb, fun _ => Lies.owned ho, fun q => absurd h q⟩
theorem encRp (r : Rep) (ao : Option Addr) (n c : Nat) (lo : Option Addr) (ln lc : Nat) (w : World) (hD : Lies w ao n c r.data) (hE : CLies w lo ln lc 3 (entCells r.list)) (hel : r.list.length = ln) (hby : Bys r.data) :
    Calls Tryz.prog 14 #[rpV r ao n c lo ln lc] w fun e w' => ∃ go k l, e = .returned (.tuple #[.slice go k l, .int .i64 (rpE r)]) ∧ Below w.heap.size w w' ∧ (rpE r = 0 → Lies w' go k l (rpB r)) ∧ (rpE r ≠ 0 → k = 0) := by
  refine (EncodeReply_any r ao n c lo ln lc w hD hE hel hby).mono ?_
  rintro e w' (⟨h, he, hb⟩ | ⟨h, g, k, l, he, ho, hb⟩)
  · exact ⟨_, _, _, he, hb, fun q => absurd q h, fun _ => rfl⟩
  · exact ⟨_, _, _, by rw [h]; exact he, hb, fun _ => Lies.owned ho, fun q => absurd h q⟩
theorem rqB_bys {r : Req} (h : rqE r = 0) (hby : Bys r.data) : Bys (rqB r) := by
  obtain ⟨X, hX, _, _, hXb⟩ := rqB_is h hby
  rw [hX]; exact hXb.app (be_bys _ _)
theorem rpB_bys {r : Rep} (h : rpE r = 0) (hby : Bys r.data) : Bys (rpB r) := by
  obtain ⟨X, hX, _, _, hXb⟩ := rpB_is h hby
  rw [hX]; exact hXb.app (be_bys _ _)
/-- Decode of a datagram that Encode made. -/
theorem decRq {r : Req} (h : rqE r = 0) (hby : Bys r.data) (ao : Option Addr) (m c : Nat) (er : Nat → Addr) (w : World) (hL : Lies w ao m c (rqB r)) (hE : Errs w er) :
    Calls Tryz.prog 17 #[.slice ao m c] w fun e w' => ∃ (bo : Option Addr) (n d : Nat), e = .returned (.tuple #[rqV r bo n d, .int .i64 0]) ∧ Lies w' bo n d r.data ∧ Below w.heap.size w w' := by
  obtain ⟨h1, h2, h3⟩ := rq_back h
  have hm : m ≤ 1400 := by rw [← hL.hlen]; exact h3
  refine (decodeRequest_any ao m c (rqB r) er w hL (by omega) (rqB_bys h hby) hE).mono ?_
  rintro e w' ⟨s, bo, n, d, he, hs, ho, hb⟩
  rw [h2] at hs
  subst hs
  rw [h1] at he
  exact ⟨bo, n, d, he, Lies.owned ho, hb⟩
theorem decRp {r : Rep} (h : rpE r = 0) (hby : Bys r.data) (ao : Option Addr) (m c : Nat) (er : Nat → Addr) (w : World) (hL : Lies w ao m c (rpB r)) (hE : Errs w er) (ln : Nat) (hel : r.list.length = ln) :
    Calls Tryz.prog 20 #[.slice ao m c] w fun e w' => ∃ (bo : Option Addr) (n d : Nat) (lo : Option Addr) (lc : Nat), e = .returned (.tuple #[rpV r bo n d lo ln lc, .int .i64 0]) ∧ Lies w' bo n d r.data ∧ CLies w' lo ln lc 3 (entCells r.list) ∧ Below w.heap.size w w' := by
  obtain ⟨h1, h2, h3⟩ := rp_back h
  have hm : m ≤ 1400 := by rw [← hL.hlen]; exact h3
  refine (decodeReply_any ao m c (rpB r) er w hL (by omega) (rpB_bys h hby) hE).mono ?_
  rintro e w' ⟨s, bo, n, d, lo, ln', lc, he, hs, ho, ho2, hl, hb⟩
  rw [h2] at hs
  subst hs
  subst hl
  subst hel
  rw [h1] at he
  exact ⟨bo, n, d, lo, lc, he, Lies.owned ho, CLies.owned ho2, hb⟩
theorem take_close {mg B : List Int} (h : mg.length = 4) : (closeB (mg ++ B)).take 4 = mg := by
  unfold closeB
  rw [List.append_assoc, List.take_append_of_le_length (by omega)]
  exact List.take_of_length_le (by omega)
theorem kindRq {r : Req} (h : rqE r = 0) (hby : Bys r.data) (ao : Option Addr) (m c : Nat) (w : World) (hL : Lies w ao m c (rqB r)) :
    Calls Tryz.prog 18 #[.slice ao m c] w fun e w' => e = .returned (.int .i64 1) ∧ w' = w := by
  refine (kind_any ao m c (rqB r) w hL (rqB_bys h hby)).mono ?_
  rintro e w' ⟨rfl, rfl⟩
  have e1 : (rqB r).take 4 = [65, 78, 81, 49] := by
    unfold rqB; rw [List.append_assoc]; exact take_close rfl
  rw [if_pos e1]
  exact ⟨rfl, rfl⟩
theorem kindRp {r : Rep} (h : rpE r = 0) (hby : Bys r.data) (ao : Option Addr) (m c : Nat) (w : World) (hL : Lies w ao m c (rpB r)) :
    Calls Tryz.prog 18 #[.slice ao m c] w fun e w' => e = .returned (.int .i64 2) ∧ w' = w := by
  refine (kind_any ao m c (rpB r) w hL (rpB_bys h hby)).mono ?_
  rintro e w' ⟨rfl, rfl⟩
  have e1 : (rpB r).take 4 = [65, 78, 82, 49] := by
    unfold rpB; rw [List.append_assoc]; exact take_close rfl
  rw [if_neg (by rw [e1]; decide), if_pos e1]
  exact ⟨rfl, rfl⟩

set_option maxHeartbeats 4000000 in
theorem back_any (r : Req) (ao : Option Addr) (n c : Nat) (y : Rep) (bo : Option Addr) (m d : Nat) (lo : Option Addr) (ln lc : Nat) (er : Nat → Addr) (w : World) (hE : Errs w er)
    (hD : Lies w ao n c r.data) (hn : n ≤ 200000000000000) (hp : r.path.size ≤ 281474976710656) (hby : Bys r.data) (hD2 : Lies w bo m d y.data) (hm : m ≤ 200000000000000) (hby2 : Bys y.data) (hN : CLies w lo ln lc 3 (entCells y.list)) (hel : y.list.length = ln) (hln : ln ≤ 200000000000000) :
    Calls Tryz.prog 4 #[rqV r ao n c, rpV y bo m d lo ln lc] w fun e w' => e = .returned (.bool true) ∧ Below w.heap.size w w' := by
  have HEL : Hid (y.list.length = ln) := hel
  clear hel
  have hq0 := RqBox.new w r ao n c
  have hp0 : RpBox ((w.alloc (.cells #[.int .i64 r.client, .int .i64 r.seq, .int .i64 r.ack, .int .i64 r.epoch, .int .i64 r.op, .int .i64 r.id, .int .i64 r.id2, .int .i64 r.off, .int .i64 r.len, .string r.path, .string r.name, .string r.name2, .slice ao n c] 24)).alloc (.cells #[.int .i64 y.client, .int .i64 y.seq, .int .i64 y.epoch, .int .i64 y.op, .int .i64 y.status, .int .i64 y.ai, .int .i64 y.ak, .int .i64 y.az, .int .i64 y.ac, .slice bo m d, .slice lo ln lc, .bool y.more] 30)) (w.heap.size + 1) y bo m d lo ln lc := by
    have q := RpBox.new (w.alloc (.cells #[.int .i64 r.client, .int .i64 r.seq, .int .i64 r.ack, .int .i64 r.epoch, .int .i64 r.op, .int .i64 r.id, .int .i64 r.id2, .int .i64 r.off, .int .i64 r.len, .string r.path, .string r.name, .string r.name2, .slice ao n c] 24)) y bo m d lo ln lc
    rw [show (w.alloc (.cells #[.int .i64 r.client, .int .i64 r.seq, .int .i64 r.ack, .int .i64 r.epoch, .int .i64 r.op, .int .i64 r.id, .int .i64 r.id2, .int .i64 r.off, .int .i64 r.len, .string r.path, .string r.name, .string r.name2, .slice ao n c] 24)).heap.size = w.heap.size + 1 by simp] at q
    exact q
  have hq0 := RqBox.later hq0 (newBox (w.alloc (.cells #[.int .i64 r.client, .int .i64 r.seq, .int .i64 r.ack, .int .i64 r.epoch, .int .i64 r.op, .int .i64 r.id, .int .i64 r.id2, .int .i64 r.off, .int .i64 r.len, .string r.path, .string r.name, .string r.name2, .slice ao n c] 24)) (.cells #[.int .i64 y.client, .int .i64 y.seq, .int .i64 y.epoch, .int .i64 y.op, .int .i64 y.status, .int .i64 y.ai, .int .i64 y.ak, .int .i64 y.az, .int .i64 y.ac, .slice bo m d, .slice lo ln lc, .bool y.more] 30)) (Nat.le_refl _)
  have hb0 := box2 w (.cells #[.int .i64 r.client, .int .i64 r.seq, .int .i64 r.ack, .int .i64 r.epoch, .int .i64 r.op, .int .i64 r.id, .int .i64 r.id2, .int .i64 r.off, .int .i64 r.len, .string r.path, .string r.name, .string r.name2, .slice ao n c] 24) (.cells #[.int .i64 y.client, .int .i64 y.seq, .int .i64 y.epoch, .int .i64 y.op, .int .i64 y.status, .int .i64 y.ai, .int .i64 y.ak, .int .i64 y.az, .int .i64 y.ac, .slice bo m d, .slice lo ln lc, .bool y.more] 30)
  go_enter Tryz.func4, Tryz.ntmps4
  go_wp2_with fail
  generalize (w.alloc (.cells #[.int .i64 r.client, .int .i64 r.seq, .int .i64 r.ack, .int .i64 r.epoch, .int .i64 r.op, .int .i64 r.id, .int .i64 r.id2, .int .i64 r.off, .int .i64 r.len, .string r.path, .string r.name, .string r.name2, .slice ao n c] 24)).alloc (.cells #[.int .i64 y.client, .int .i64 y.seq, .int .i64 y.epoch, .int .i64 y.op, .int .i64 y.status, .int .i64 y.ai, .int .i64 y.ak, .int .i64 y.az, .int .i64 y.ac, .slice bo m d, .slice lo ln lc, .bool y.more] 30) = w0 at *
  refine (head_any er _ (hE.below hb0 (Nat.le_refl _))).mono ?_
  rintro e w1 ⟨rfl, hb1⟩
  have hq1 := RqBox.later hq0 hb1 (Nat.le_refl _)
  have hp1 := RpBox.later hp0 hb1 (Nat.le_refl _)
  have hB1 := hb0.trans (hb1.mono hb0.size)
  clear hq0 hp0 hb0 hb1
  have hq1' := hq1
  obtain ⟨q0, q1, q2, q3, q4, q5, q6, q7, q8, q9, q10, q11, q12⟩ := hq1'
  go_wp2_with fail
  clear q0 q1 q2 q3 q4 q5 q6 q7 q8 q9 q10 q11 q12
  refine (encRq r ao n c _ (hD.below hB1 (Nat.le_refl _)) hp hby).mono ?_
  rintro e w2 ⟨g2, k2, l2, rfl, hb2, hok2, hno2⟩
  have hq2 := RqBox.later hq1 hb2 (Nat.le_refl _)
  have hp2 := RpBox.later hp1 hb2 (Nat.le_refl _)
  have hB2 := hB1.trans (hb2.mono hB1.size)
  clear hq1 hp1 hb2 hB1
  have hq2' := hq2
  obtain ⟨q0, q1, q2, q3, q4, q5, q6, q7, q8, q9, q10, q11, q12⟩ := hq2'
  go_wp2_with fail
  clear q0 q1 q2 q3 q4 q5 q6 q7 q8 q9 q10 q11 q12
  refine (checkRequest_any r ao n c _ (hD.below hB2 (Nat.le_refl _)) hp).mono ?_
  rintro e w3 ⟨rfl, hb3⟩
  have hq3 := RqBox.later hq2 hb3 (Nat.le_refl _)
  have hp3 := RpBox.later hp2 hb3 (Nat.le_refl _)
  have hB3 := hB2.trans (hb3.mono hB2.size)
  have hok3 : rqE r = 0 → Lies w3 g2 k2 l2 (rqB r) := fun h => (hok2 h).below hb3 (Nat.le_refl _)
  clear hq2 hp2 hb3 hB2 hok2
  by_cases hz : rqE r = 0
  · have hL3 := hok3 hz
    clear hok3 hno2
    rw [hz]
    go_wp2_with (go_at_call 11; refine (num_id _ _).mono ?_; rintro e wn ⟨rfl, hwn⟩; subst wn)
    refine (decRq hz hby g2 k2 l2 er _ hL3 (hE.below hB3 (Nat.le_refl _))).mono ?_
    rintro e w4 ⟨bo4, n4, d4, rfl, hL4, hb4⟩
    have hq4 := RqBox.later hq3 hb4 (Nat.le_refl _)
    have hp4 := RpBox.later hp3 hb4 (Nat.le_refl _)
    have hB4 := hB3.trans (hb4.mono hB3.size)
    have hM4 := hL3.below hb4 (Nat.le_refl _)
    clear hq3 hp3 hb4 hB3 hL3
    have hbx := newBox w4 (.cells #[.int .i64 r.client, .int .i64 r.seq, .int .i64 r.ack, .int .i64 r.epoch, .int .i64 r.op, .int .i64 r.id, .int .i64 r.id2, .int .i64 r.off, .int .i64 r.len, .string r.path, .string r.name, .string r.name2, .slice bo4 n4 d4] 24)
    have hq4 := RqBox.later hq4 hbx (Nat.le_refl _)
    have hp4 := RpBox.later hp4 hbx (Nat.le_refl _)
    have hB4 := hB4.trans (hbx.mono hB4.size)
    have hM4 := hM4.below hbx (Nat.le_refl _)
    have hL4 := hL4.below hbx (Nat.le_refl _)
    obtain ⟨q0, q1, q2, q3, q4, q5, q6, q7, q8, q9, q10, q11, q12⟩ := hq4
    go_wp2_with fail
    clear q0 q1 q2 q3 q4 q5 q6 q7 q8 q9 q10 q11 q12
    refine (sameRequest_refl r bo4 n4 d4 ao n c _ (by rw [← hL4.hlen, hD.hlen]; exact hn) hL4 (hD.below hB4 (Nat.le_refl _))).mono ?_
    rintro e w5 ⟨rfl, hb5⟩
    have hp5 := RpBox.later hp4 hb5 (Nat.le_refl _)
    have hB5 := hB4.trans (hb5.mono hB4.size)
    have hM5 := hM4.below hb5 (Nat.le_refl _)
    have hk2 : (k2 : Int) ≤ 1400 := by rw [← hM5.hlen]; have := (rq_back hz).2.2; omega
    clear hp4 hb5 hB4 hM4 hL4
    have hp5' := hp5
    obtain ⟨p0, p1, p2, p3, p4, p5, p6, p7, p8, p9, p10, p11⟩ := hp5'
    go_wp2_with (first | (go_at_call 11; refine (num_id _ _).mono ?_; rintro e wn ⟨rfl, hwn⟩; subst wn) | (go_at_call 18; refine (kindRq hz hby g2 k2 l2 _ hM5).mono ?_; rintro e wn ⟨rfl, hwn⟩; subst wn))
    clear p0 p1 p2 p3 p4 p5 p6 p7 p8 p9 p10 p11
    refine (encRp y bo m d lo ln lc _ (hD2.below hB5 (Nat.le_refl _)) (hN.below hB5 (Nat.le_refl _)) HEL.out hby2).mono ?_
    rintro e w6 ⟨g6, k6, l6, rfl, hb6, hok6, hno6⟩
    have hp6 := RpBox.later hp5 hb6 (Nat.le_refl _)
    have hB6 := hB5.trans (hb6.mono hB5.size)
    clear hp5 hb6 hB5
    have hp6' := hp6
    obtain ⟨p0, p1, p2, p3, p4, p5, p6, p7, p8, p9, p10, p11⟩ := hp6'
    go_wp2_with fail
    clear p0 p1 p2 p3 p4 p5 p6 p7 p8 p9 p10 p11
    refine (checkReply_any y bo m d lo ln lc _ (hD2.below hB6 (Nat.le_refl _)) (hN.below hB6 (Nat.le_refl _)) HEL.out).mono ?_
    rintro e w7 ⟨rfl, hb7⟩
    have hp7 := RpBox.later hp6 hb7 (Nat.le_refl _)
    have hB7 := hB6.trans (hb7.mono hB6.size)
    have hok7 : rpE y = 0 → Lies w7 g6 k6 l6 (rpB y) := fun h => (hok6 h).below hb7 (Nat.le_refl _)
    clear hp6 hb7 hB6 hok6
    by_cases hy : rpE y = 0
    · have hL7 := hok7 hy
      clear hok7 hno6
      rw [hy]
      go_wp2_with (go_at_call 11; refine (num_id _ _).mono ?_; rintro e wn ⟨rfl, hwn⟩; subst wn)
      refine (decRp hy hby2 g6 k6 l6 er _ hL7 (hE.below hB7 (Nat.le_refl _)) ln HEL.out).mono ?_
      rintro e w8 ⟨bo8, n8, d8, lo8, lc8, rfl, hL8, hN8, hb8⟩
      have hp8 := RpBox.later hp7 hb8 (Nat.le_refl _)
      have hB8 := hB7.trans (hb8.mono hB7.size)
      have hM8 := hL7.below hb8 (Nat.le_refl _)
      clear hp7 hb8 hB7 hL7
      have hbx := newBox w8 (.cells #[.int .i64 y.client, .int .i64 y.seq, .int .i64 y.epoch, .int .i64 y.op, .int .i64 y.status, .int .i64 y.ai, .int .i64 y.ak, .int .i64 y.az, .int .i64 y.ac, .slice bo8 n8 d8, .slice lo8 ln lc8, .bool y.more] 30)
      have hp8 := RpBox.later hp8 hbx (Nat.le_refl _)
      have hB8 := hB8.trans (hbx.mono hB8.size)
      have hM8 := hM8.below hbx (Nat.le_refl _)
      have hL8 := hL8.below hbx (Nat.le_refl _)
      have hN8 := hN8.below hbx (Nat.le_refl _)
      obtain ⟨p0, p1, p2, p3, p4, p5, p6, p7, p8, p9, p10, p11⟩ := hp8
      go_wp2_with fail
      clear p0 p1 p2 p3 p4 p5 p6 p7 p8 p9 p10 p11
      refine (sameReply_refl y bo8 n8 d8 lo8 ln lc8 bo m d lo lc _ (by rw [← hL8.hlen, hD2.hlen]; exact hm) hln hL8 (hD2.below hB8 (Nat.le_refl _)) hN8 (hN.below hB8 (Nat.le_refl _)) HEL.out).mono ?_
      rintro e w9 ⟨rfl, hb9⟩
      have hB9 := hB8.trans (hb9.mono hB8.size)
      have hM9 := hM8.below hb9 (Nat.le_refl _)
      have hk6 : (k6 : Int) ≤ 1400 := by rw [← hM9.hlen]; have := (rp_back hy).2.2; omega
      clear hb9 hB8 hM8 hL8 hN8
      go_wp2_with (first | (go_at_call 11; refine (num_id _ _).mono ?_; rintro e wn ⟨rfl, hwn⟩; subst wn) | (go_at_call 18; refine (kindRp hy hby2 g6 k6 l6 _ hM9).mono ?_; rintro e wn ⟨rfl, hwn⟩; subst wn))
      go_ret
      exact ⟨rfl, hB9⟩
    · obtain rfl := hno6 hy
      clear hok7
      have hne1 : (rpE y != 0) = true := by simpa using hy
      have hne2 : (rpE y == 0) = false := by simpa using hy
      have hne3 : decide (rpE y = 0) = false := by simpa using hy
      generalize rpE y = E6 at *
      go_wp2_with (go_at_call 11; refine (num_id _ _).mono ?_; rintro e wn ⟨rfl, hwn⟩; subst wn)
      go_ret
      exact ⟨rfl, hB7⟩
  · obtain rfl := hno2 hz
    clear hok3
    have hne1 : (rqE r != 0) = true := by simpa using hz
    have hne2 : (rqE r == 0) = false := by simpa using hz
    have hne3 : decide (rqE r = 0) = false := by simpa using hz
    generalize rqE r = E2 at *
    have hp3' := hp3
    obtain ⟨p0, p1, p2, p3, p4, p5, p6, p7, p8, p9, p10, p11⟩ := hp3'
    go_wp2_with (go_at_call 11; refine (num_id _ _).mono ?_; rintro e wn ⟨rfl, hwn⟩; subst wn)
    clear p0 p1 p2 p3 p4 p5 p6 p7 p8 p9 p10 p11
    refine (encRp y bo m d lo ln lc _ (hD2.below hB3 (Nat.le_refl _)) (hN.below hB3 (Nat.le_refl _)) HEL.out hby2).mono ?_
    rintro e w6 ⟨g6, k6, l6, rfl, hb6, hok6, hno6⟩
    have hp6 := RpBox.later hp3 hb6 (Nat.le_refl _)
    have hB6 := hB3.trans (hb6.mono hB3.size)
    clear hp3 hb6 hB3
    have hp6' := hp6
    obtain ⟨p0, p1, p2, p3, p4, p5, p6, p7, p8, p9, p10, p11⟩ := hp6'
    go_wp2_with fail
    clear p0 p1 p2 p3 p4 p5 p6 p7 p8 p9 p10 p11
    refine (checkReply_any y bo m d lo ln lc _ (hD2.below hB6 (Nat.le_refl _)) (hN.below hB6 (Nat.le_refl _)) HEL.out).mono ?_
    rintro e w7 ⟨rfl, hb7⟩
    have hp7 := RpBox.later hp6 hb7 (Nat.le_refl _)
    have hB7 := hB6.trans (hb7.mono hB6.size)
    have hok7 : rpE y = 0 → Lies w7 g6 k6 l6 (rpB y) := fun h => (hok6 h).below hb7 (Nat.le_refl _)
    clear hp6 hb7 hB6 hok6
    by_cases hy : rpE y = 0
    · have hL7 := hok7 hy
      clear hok7 hno6
      rw [hy]
      go_wp2_with (go_at_call 11; refine (num_id _ _).mono ?_; rintro e wn ⟨rfl, hwn⟩; subst wn)
      refine (decRp hy hby2 g6 k6 l6 er _ hL7 (hE.below hB7 (Nat.le_refl _)) ln HEL.out).mono ?_
      rintro e w8 ⟨bo8, n8, d8, lo8, lc8, rfl, hL8, hN8, hb8⟩
      have hp8 := RpBox.later hp7 hb8 (Nat.le_refl _)
      have hB8 := hB7.trans (hb8.mono hB7.size)
      have hM8 := hL7.below hb8 (Nat.le_refl _)
      clear hp7 hb8 hB7 hL7
      have hbx := newBox w8 (.cells #[.int .i64 y.client, .int .i64 y.seq, .int .i64 y.epoch, .int .i64 y.op, .int .i64 y.status, .int .i64 y.ai, .int .i64 y.ak, .int .i64 y.az, .int .i64 y.ac, .slice bo8 n8 d8, .slice lo8 ln lc8, .bool y.more] 30)
      have hp8 := RpBox.later hp8 hbx (Nat.le_refl _)
      have hB8 := hB8.trans (hbx.mono hB8.size)
      have hM8 := hM8.below hbx (Nat.le_refl _)
      have hL8 := hL8.below hbx (Nat.le_refl _)
      have hN8 := hN8.below hbx (Nat.le_refl _)
      obtain ⟨p0, p1, p2, p3, p4, p5, p6, p7, p8, p9, p10, p11⟩ := hp8
      go_wp2_with fail
      clear p0 p1 p2 p3 p4 p5 p6 p7 p8 p9 p10 p11
      refine (sameReply_refl y bo8 n8 d8 lo8 ln lc8 bo m d lo lc _ (by rw [← hL8.hlen, hD2.hlen]; exact hm) hln hL8 (hD2.below hB8 (Nat.le_refl _)) hN8 (hN.below hB8 (Nat.le_refl _)) HEL.out).mono ?_
      rintro e w9 ⟨rfl, hb9⟩
      have hB9 := hB8.trans (hb9.mono hB8.size)
      have hM9 := hM8.below hb9 (Nat.le_refl _)
      have hk6 : (k6 : Int) ≤ 1400 := by rw [← hM9.hlen]; have := (rp_back hy).2.2; omega
      clear hb9 hB8 hM8 hL8 hN8
      go_wp2_with (first | (go_at_call 11; refine (num_id _ _).mono ?_; rintro e wn ⟨rfl, hwn⟩; subst wn) | (go_at_call 18; refine (kindRp hy hby2 g6 k6 l6 _ hM9).mono ?_; rintro e wn ⟨rfl, hwn⟩; subst wn))
      go_ret
      exact ⟨rfl, hB9⟩
    · obtain rfl := hno6 hy
      clear hok7
      have hne1 : (rpE y != 0) = true := by simpa using hy
      have hne2 : (rpE y == 0) = false := by simpa using hy
      have hne3 : decide (rpE y = 0) = false := by simpa using hy
      generalize rpE y = E6 at *
      go_wp2_with (go_at_call 11; refine (num_id _ _).mono ?_; rintro e wn ⟨rfl, hwn⟩; subst wn)
      go_ret
      exact ⟨rfl, hB7⟩
end Go.Proofs.YtdcliiojdlonbaaGreatDoor
