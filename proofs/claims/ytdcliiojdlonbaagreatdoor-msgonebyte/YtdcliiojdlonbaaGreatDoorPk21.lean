/- Plain mathematics: what was taken, put again, is what lay there: numbers, flags, texts. -/
import Derived.Test.YtdcliiojdlonbaaGreatDoorPk17
import Derived.Test.YtdcliiojdlonbaaGreatDoorPk20
namespace Go.Proofs.YtdcliiojdlonbaaGreatDoor
open Go.RowKit
set_option maxRecDepth 100000

theorem num_form (k n : Nat) (bs : List Int) (pl : Nat) (code M : Int) (hl : bs.length = n) (hM : M ≤ 18446744073709551615) (hby : Bys bs) (h : (rdNum k n bs pl code M).2.2 = 0) :
    code = 0 ∧ ∃ V, rdNum k n bs pl code M = (V, pl + k, 0) ∧ pl + k ≤ n ∧ 0 ≤ V ∧ V ≤ M ∧ (bs.drop pl).take k = be (IntKind.u64.wrap V) k := by
  unfold rdNum at h ⊢
  by_cases hc : code = 0
  case neg => rw [if_pos (by simpa using hc)] at h; exact absurd h hc
  subst hc
  rw [if_neg (by simp)] at h ⊢
  by_cases h1 : n < pl + k
  · rw [if_pos h1] at h; cases h
  rw [if_neg h1] at h ⊢
  by_cases h2 : M < 0 ∨ M < val ((bs.drop pl).take k)
  · rw [if_pos h2] at h; cases h
  rw [if_neg h2]
  have hv := val_bd ((bs.drop pl).take k) (piece_by pl k hby)
  refine ⟨rfl, _, rfl, by omega, hv.1, by omega, ?_⟩
  rw [wrap_small _ hv.1 (by omega), be_piece bs n pl k hl (by omega) hby]
theorem flag_form (n : Nat) (bs : List Int) (pl : Nat) (code : Int) (hl : bs.length = n) (hby : Bys bs) (h : (rdFlag n bs pl code).2.2 = 0) :
    code = 0 ∧ ∃ b : Bool, rdFlag n bs pl code = (b, pl + 4, 0) ∧ pl + 4 ≤ n ∧ (bs.drop pl).take 4 = putV (.flag b) := by
  unfold rdFlag at h ⊢
  by_cases hc : code = 0
  case neg => rw [if_pos (by simpa using hc)] at h; exact absurd h hc
  subst hc
  rw [if_neg (by simp)] at h ⊢
  by_cases h1 : n < pl + 4
  · rw [if_pos h1] at h; cases h
  rw [if_neg h1] at h ⊢
  by_cases h2 : 1 < val ((bs.drop pl).take 4)
  · rw [if_pos h2] at h; cases h
  rw [if_neg h2]
  have hv := val_bd ((bs.drop pl).take 4) (piece_by pl 4 hby)
  refine ⟨rfl, _, rfl, by omega, ?_⟩
  rw [← be_piece bs n pl 4 hl (by omega) hby]
  have e : val ((bs.drop pl).take 4) = 0 ∨ val ((bs.drop pl).take 4) = 1 := by omega
  rcases e with e | e <;> rw [e] <;> rfl
theorem text_form (n : Nat) (bs : List Int) (pl : Nat) (code M : Int) (hl : bs.length = n) (hby : Bys bs) (h : (rdText n bs pl code M).2.2 = 0) :
    code = 0 ∧ ∃ ds, rdText n bs pl code M = (ds, pl + (4 + ds.length + padN ds.length), 0) ∧ pl + (4 + ds.length + padN ds.length) ≤ n ∧ (ds.length : Int) ≤ M ∧ Bys ds ∧ (bs.drop pl).take (4 + ds.length + padN ds.length) = dtB ds := by
  unfold rdText at h ⊢
  by_cases hc : code = 0
  case neg => rw [if_pos (by simpa using hc)] at h; exact absurd h hc
  subst hc
  rw [if_neg (by simp)] at h ⊢
  by_cases h1 : n < pl + 4
  · rw [if_pos h1] at h; cases h
  rw [if_neg h1] at h ⊢
  have hv := val_bd ((bs.drop pl).take 4) (piece_by pl 4 hby)
  have hbe := be_piece bs n pl 4 hl (by omega) hby
  obtain ⟨L, hL⟩ : ∃ L : Nat, val ((bs.drop pl).take 4) = (L : Int) := ⟨(val ((bs.drop pl).take 4)).toNat, by omega⟩
  rw [hL] at h hbe ⊢
  by_cases h2 : M < 0 ∨ M < (L : Int)
  · rw [if_pos h2] at h; cases h
  rw [if_neg h2] at h ⊢
  simp only [Int.toNat_natCast] at h ⊢
  by_cases h3 : n < pl + (4 + L + padN L)
  · rw [if_pos h3] at h; cases h
  rw [if_neg h3] at h ⊢
  by_cases h4 : ∀ t, t < padN L → bs.getD (pl + (4 + L) + t) 0 = 0
  case neg => rw [if_pos h4] at h; cases h
  rw [if_neg (fun q => q h4)]
  have hd : ((bs.drop (pl + 4)).take L).length = L := piece_len bs n (pl + 4) L hl (by omega)
  refine ⟨trivial, _, by rw [hd], by rw [hd]; omega, by rw [hd]; omega, piece_by (pl + 4) L hby, ?_⟩
  rw [hd]
  unfold dtB
  rw [hd, hbe]
  have e1 : (bs.drop pl).take (4 + L + padN L) = (bs.drop pl).take 4 ++ (bs.drop (pl + 4)).take L ++ (bs.drop (pl + (4 + L))).take (padN L) := by
    rw [List.take_add, List.take_add, List.drop_drop, List.drop_drop]
  rw [e1]
  congr 1
  refine zeros_of _ _ (piece_len bs n _ _ hl (by omega)) fun t ht => ?_
  have := h4 t ht
  rw [List.getD_eq_getElem?_getD, List.getElem?_take, if_pos ht, List.getElem?_drop, ← List.getD_eq_getElem?_getD]
  exact this
end Go.Proofs.YtdcliiojdlonbaaGreatDoor

/- Plain mathematics: what was taken, put again, is what lay there: entries, fields, lists of fields. -/
namespace Go.Proofs.YtdcliiojdlonbaaGreatDoor
open Go.RowKit
set_option maxRecDepth 100000

theorem txB_txt {ds : List Int} (h : Bys ds) : txB (txt ds) = dtB ds := by
  unfold txB dtB
  rw [txt_size ds, nums_txt ds h]
theorem glue {bs a b : List Int} {pl : Nat} (h1 : (bs.drop pl).take a.length = a) (h2 : (bs.drop (pl + a.length)).take b.length = b) : (bs.drop pl).take (a ++ b).length = a ++ b := by
  rw [List.length_append, List.take_add, List.drop_drop, h1, h2]
theorem ent_form (n : Nat) (bs : List Int) (st : Nat × Int) (hl : bs.length = n) (hby : Bys bs) (h : (rdEnt n bs st).2.2 = 0) :
    st.2 = 0 ∧ ∃ e, rdEnt n bs st = (e, (st.1 + (entB e).length, 0)) ∧ st.1 + (entB e).length ≤ n ∧ (bs.drop st.1).take (entB e).length = entB e := by
  unfold rdEnt at h ⊢
  simp only at h ⊢
  obtain ⟨c2, V2, e2, l2, v2, m2, p2⟩ := num_form 4 n bs _ _ 4294967295 hl (by decide) hby h
  obtain ⟨c1, V1, e1, l1, v1, m1, p1⟩ := num_form 8 n bs _ _ 9223372036854775807 hl (by decide) hby c2
  obtain ⟨c0, ds, e0, l0, m0, b0, p0⟩ := text_form n bs st.1 st.2 23 hl hby c1
  simp only [e0] at e1 e2 l1 l2 p1 p2 ⊢
  simp only [e1] at e2 l2 p2 ⊢
  simp only [e2]
  have hx : (txB (txt ds)).length = 4 + ds.length + padN ds.length := by rw [txB_txt b0, dtB_length]
  have he : (entB ⟨txt ds, V1, V2⟩).length = (4 + ds.length + padN ds.length) + 8 + 4 := by
    unfold entB
    rw [List.length_append, List.length_append, be_length, be_length, hx]
  refine ⟨c0, _, by rw [he]; simp only [Nat.add_assoc], by rw [he]; omega, ?_⟩
  unfold entB
  refine glue (glue ?_ ?_) ?_
  · rw [hx, txB_txt b0]; exact p0
  · rw [be_length, hx]; exact p1
  · rw [be_length, List.length_append, be_length, hx, ← Nat.add_assoc]; exact p2
theorem ents_form (n : Nat) (bs : List Int) (st : Nat × Int) (hl : bs.length = n) (hby : Bys bs) : ∀ k, (rdEnts n bs k st).2.2 = 0 →
    st.2 = 0 ∧ ∃ l, l.length = k ∧ rdEnts n bs k st = (l, (st.1 + (l.flatMap entB).length, 0)) ∧ (st.1 ≤ n → st.1 + (l.flatMap entB).length ≤ n) ∧ (bs.drop st.1).take (l.flatMap entB).length = l.flatMap entB
  | 0, h => ⟨h, [], rfl, by simp only [rdEnts] at h ⊢; obtain ⟨a, b⟩ := st; simp only at h; subst h; rfl, fun q => by simpa using q, by simp⟩
  | k + 1, h => by
    unfold rdEnts at h ⊢
    simp only at h ⊢
    obtain ⟨c, e, e1, l1, p1⟩ := ent_form n bs _ hl hby h
    obtain ⟨c0, l, hk, e0, l0, p0⟩ := ents_form n bs st hl hby k c
    simp only [e0] at e1 l1 p1 ⊢
    simp only [e1]
    have hf : (l ++ [e]).flatMap entB = l.flatMap entB ++ entB e := by simp
    refine ⟨c0, l ++ [e], by simp [hk], ?_, ?_, ?_⟩
    · rw [hf, List.length_append, Nat.add_assoc]
    · intro _; rw [hf, List.length_append]; omega
    · rw [hf]; exact glue p0 p1
theorem take_form (n : Nat) (bs : List Int) (st : Nat × Int) (k : Val) (hl : bs.length = n) (hby : Bys bs) (h : (takeV n bs st k).2.2 = 0) :
    st.2 = 0 ∧ ∃ x, takeV n bs st k = (x, (st.1 + (putV x).length, 0)) ∧ LikeA k x ∧ st.1 + (putV x).length ≤ n ∧ (bs.drop st.1).take (putV x).length = putV x := by
  cases k with
  | small y =>
    obtain ⟨c, V, e, l, v, m, p⟩ := num_form 4 n bs _ _ 4294967295 hl (by decide) hby h
    refine ⟨c, .small V, by simp only [takeV, e, putV, be_length], trivial, by simpa [putV, be_length] using l, ?_⟩
    simp only [putV, be_length]; exact p
  | great y =>
    obtain ⟨c, V, e, l, v, m, p⟩ := num_form 8 n bs _ _ 9223372036854775807 hl (by decide) hby h
    refine ⟨c, .great V, by simp only [takeV, e, putV, be_length], trivial, by simpa [putV, be_length] using l, ?_⟩
    simp only [putV, be_length]; exact p
  | flag y =>
    obtain ⟨c, b, e, l, p⟩ := flag_form n bs _ _ hl hby h
    have hp : (putV (.flag b)).length = 4 := by simp [putV, be_length]
    refine ⟨c, .flag b, by simp only [takeV, e, hp], trivial, by rw [hp]; exact l, by rw [hp]; exact p⟩
  | path y =>
    obtain ⟨c, ds, e, l, m, b, p⟩ := text_form n bs _ _ 384 hl hby h
    have hp : putV (.path (txt ds)) = dtB ds := txB_txt b
    refine ⟨c, .path (txt ds), by simp only [takeV, e]; rw [hp, dtB_length], trivial, by rw [hp, dtB_length]; exact l, by rw [hp, dtB_length]; exact p⟩
  | name y =>
    obtain ⟨c, ds, e, l, m, b, p⟩ := text_form n bs _ _ 23 hl hby h
    have hp : putV (.name (txt ds)) = dtB ds := txB_txt b
    refine ⟨c, .name (txt ds), by simp only [takeV, e]; rw [hp, dtB_length], trivial, by rw [hp, dtB_length]; exact l, by rw [hp, dtB_length]; exact p⟩
  | content y =>
    obtain ⟨c, ds, e, l, m, b, p⟩ := text_form n bs _ _ 1024 hl hby h
    have hp : putV (.content ds) = dtB ds := rfl
    refine ⟨c, .content ds, by simp only [takeV, e]; rw [hp, dtB_length], trivial, by rw [hp, dtB_length]; exact l, by rw [hp, dtB_length]; exact p⟩
  | attr i k z c =>
    unfold takeV at h ⊢
    simp only at h ⊢
    obtain ⟨c3, V3, e3, l3, v3, m3, p3⟩ := num_form 8 n bs _ _ 9223372036854775807 hl (by decide) hby h
    obtain ⟨c2, V2, e2, l2, v2, m2, p2⟩ := num_form 4 n bs _ _ 4294967295 hl (by decide) hby c3
    obtain ⟨c1, V1, e1, l1, v1, m1, p1⟩ := num_form 4 n bs _ _ 4294967295 hl (by decide) hby c2
    obtain ⟨c0, V0, e0, l0, v0, m0, p0⟩ := num_form 8 n bs _ _ 9223372036854775807 hl (by decide) hby c1
    simp only [e0] at e1 e2 e3 l1 l2 l3 p1 p2 p3 ⊢
    simp only [e1] at e2 e3 l2 l3 p2 p3 ⊢
    simp only [e2] at e3 l3 p3 ⊢
    simp only [e3]
    have hp : (putV (.attr V0 V1 V2 V3)).length = 24 := by simp [putV, be_length]
    refine ⟨c0, .attr V0 V1 V2 V3, by rw [hp], trivial, by rw [hp]; omega, ?_⟩
    unfold putV
    refine glue (glue (glue ?_ ?_) ?_) ?_
    · rw [be_length]; exact p0
    · rw [be_length, be_length]; exact p1
    · rw [be_length, List.length_append, be_length, be_length, ← Nat.add_assoc]; exact p2
    · rw [be_length, List.length_append, List.length_append, be_length, be_length, be_length]
      exact p3
  | entries y =>
    unfold takeV at h ⊢
    simp only at h ⊢
    obtain ⟨c1, l, hk, e1, l1, p1⟩ := ents_form n bs _ hl hby _ h
    obtain ⟨c0, V, e0, l0, v0, m0, p0⟩ := num_form 4 n bs _ _ 4294967295 hl (by decide) hby c1
    simp only [e0] at e1 l1 p1 hk ⊢
    simp only [e1]
    obtain rfl : V = (l.length : Int) := by omega
    have hp : putV (.entries l) = be (IntKind.u64.wrap l.length) 4 ++ l.flatMap entB := rfl
    refine ⟨c0, .entries l, ?_, trivial, ?_, ?_⟩
    · rw [hp, List.length_append, be_length, Nat.add_assoc]
    · rw [hp, List.length_append, be_length]; have := l1 l0; omega
    · rw [hp]; refine glue ?_ ?_
      · rw [be_length]; exact p0
      · rw [be_length]; exact p1
theorem takeL_form (n : Nat) (bs : List Int) (hl : bs.length = n) (hby : Bys bs) : ∀ (ks : List (Int × Val)) (st : Nat × Int), (takeL n bs ks st).2.2 = 0 →
    st.2 = 0 ∧ ∃ gs, takeL n bs ks st = (gs, (st.1 + (putAll gs).length, 0)) ∧ LikesA ks gs ∧ (st.1 ≤ n → st.1 + (putAll gs).length ≤ n) ∧ (bs.drop st.1).take (putAll gs).length = putAll gs
  | [], st, h => ⟨h, [], by obtain ⟨a, b⟩ := st; simp only [takeL] at h; subst h; rfl, trivial, fun hp => by simpa [putAll] using hp, by simp [putAll]⟩
  | k :: ks, st, h => by
    unfold takeL at h ⊢
    simp only at h ⊢
    obtain ⟨c1, gs, e1, k1, l1, p1⟩ := takeL_form n bs hl hby ks _ h
    obtain ⟨c0, x, e0, k0, l0, p0⟩ := take_form n bs st k.2 hl hby c1
    simp only [e0] at e1 l1 p1 ⊢
    simp only [e1]
    have hf : putAll ((k.1, x) :: gs) = putV x ++ putAll gs := rfl
    refine ⟨c0, (k.1, x) :: gs, ?_, ⟨rfl, k0, k1⟩, ?_, ?_⟩
    · rw [hf, List.length_append, Nat.add_assoc]
    · intro _; rw [hf, List.length_append]; have := l1 l0; omega
    · rw [hf]; exact glue p0 p1
end Go.Proofs.YtdcliiojdlonbaaGreatDoor

/- Plain mathematics: whatever bytes are read as a request are just its bytes. -/
namespace Go.Proofs.YtdcliiojdlonbaaGreatDoor
open Go.RowKit
set_option maxRecDepth 100000

theorem rqHead_like {gs : List (Int × Val)} (h : LikesA (rqHead rq0) gs) : ∃ c s a e o, gs = [(0, .small c), (1, .great s), (2, .great a), (3, .great e), (4, .small o)] := by
  match gs, h with
  | [(n0, x0), (n1, x1), (n2, x2), (n3, x3), (n4, x4)], h =>
    obtain ⟨rfl, h0, rfl, h1, rfl, h2, rfl, h3, rfl, h4, _⟩ := h
    cases x0 with
    | small c =>
      cases x1 with
      | great s =>
        cases x2 with
        | great a =>
          cases x3 with
          | great e =>
            cases x4 with
            | small o => exact ⟨c, s, a, e, o, rfl⟩
            | _ => exact h4.elim
          | _ => exact h3.elim
        | _ => exact h2.elim
      | _ => exact h1.elim
    | _ => exact h0.elim
theorem rpHead_like {gs : List (Int × Val)} (h : LikesA (rpHead rp0) gs) : ∃ c s e o t, gs = [(0, .small c), (1, .great s), (3, .great e), (4, .small o), (5, .small t)] := by
  match gs, h with
  | [(n0, x0), (n1, x1), (n2, x2), (n3, x3), (n4, x4)], h =>
    obtain ⟨rfl, h0, rfl, h1, rfl, h2, rfl, h3, rfl, h4, _⟩ := h
    cases x0 with
    | small c =>
      cases x1 with
      | great s =>
        cases x2 with
        | great e =>
          cases x3 with
          | small o =>
            cases x4 with
            | small t => exact ⟨c, s, e, o, t, rfl⟩
            | _ => exact h4.elim
          | _ => exact h3.elim
        | _ => exact h2.elim
      | _ => exact h1.elim
    | _ => exact h0.elim
/-- A field of the kind that the number asks. -/
def RqKind (g : Int × Val) : Prop := LikeA (match g.1 with | 6 => .great 0 | 7 => .small 0 | 8 => .small 0 | 9 => .path ⟨#[]⟩ | 10 => .name ⟨#[]⟩ | 11 => .great 0 | 12 => .name ⟨#[]⟩ | _ => .content []) g.2
theorem like1 {k : Int × Val} {gs : List (Int × Val)} (h : LikesA [k] gs) : ∃ x, gs = [(k.1, x)] ∧ LikeA k.2 x := by
  match gs, h with
  | [(n0, x0)], h => obtain ⟨rfl, h0, _⟩ := h; exact ⟨x0, rfl, h0⟩
theorem like2 {k l : Int × Val} {gs : List (Int × Val)} (h : LikesA [k, l] gs) : ∃ x y, gs = [(k.1, x), (l.1, y)] ∧ LikeA k.2 x ∧ LikeA l.2 y := by
  match gs, h with
  | [(n0, x0), (n1, x1)], h => obtain ⟨rfl, h0, rfl, h1, _⟩ := h; exact ⟨x0, x1, rfl, h0, h1⟩
theorem like3 {k l m : Int × Val} {gs : List (Int × Val)} (h : LikesA [k, l, m] gs) : ∃ x y z, gs = [(k.1, x), (l.1, y), (m.1, z)] ∧ LikeA k.2 x ∧ LikeA l.2 y ∧ LikeA m.2 z := by
  match gs, h with
  | [(n0, x0), (n1, x1), (n2, x2)], h => obtain ⟨rfl, h0, rfl, h1, rfl, h2, _⟩ := h; exact ⟨x0, x1, x2, rfl, h0, h1, h2⟩
theorem like4 {k l m n : Int × Val} {gs : List (Int × Val)} (h : LikesA [k, l, m, n] gs) : ∃ x y z u, gs = [(k.1, x), (l.1, y), (m.1, z), (n.1, u)] ∧ LikeA k.2 x ∧ LikeA l.2 y ∧ LikeA m.2 z ∧ LikeA n.2 u := by
  match gs, h with
  | [(n0, x0), (n1, x1), (n2, x2), (n3, x3)], h => obtain ⟨rfl, h0, rfl, h1, rfl, h2, rfl, h3, _⟩ := h; exact ⟨x0, x1, x2, x3, rfl, h0, h1, h2, h3⟩
theorem is_small {y : Int} {x : Val} (h : LikeA (.small y) x) : ∃ v, x = .small v := by cases x with | small v => exact ⟨v, rfl⟩ | _ => exact h.elim
theorem is_great {y : Int} {x : Val} (h : LikeA (.great y) x) : ∃ v, x = .great v := by cases x with | great v => exact ⟨v, rfl⟩ | _ => exact h.elim
theorem is_flag {y : Bool} {x : Val} (h : LikeA (.flag y) x) : ∃ v, x = .flag v := by cases x with | flag v => exact ⟨v, rfl⟩ | _ => exact h.elim
theorem is_path {y : ByteArray} {x : Val} (h : LikeA (.path y) x) : ∃ v, x = .path v := by cases x with | path v => exact ⟨v, rfl⟩ | _ => exact h.elim
theorem is_name {y : ByteArray} {x : Val} (h : LikeA (.name y) x) : ∃ v, x = .name v := by cases x with | name v => exact ⟨v, rfl⟩ | _ => exact h.elim
theorem is_content {y : List Int} {x : Val} (h : LikeA (.content y) x) : ∃ v, x = .content v := by cases x with | content v => exact ⟨v, rfl⟩ | _ => exact h.elim
theorem is_attr {a b c d : Int} {x : Val} (h : LikeA (.attr a b c d) x) : ∃ i k z e, x = .attr i k z e := by cases x with | attr i k z e => exact ⟨i, k, z, e, rfl⟩ | _ => exact h.elim
theorem is_entries {y : List Ent} {x : Val} (h : LikeA (.entries y) x) : ∃ v, x = .entries v := by cases x with | entries v => exact ⟨v, rfl⟩ | _ => exact h.elim

/-- What was taken for a request's fields stands in it, and its header stays. -/
theorem rq_placed (r : Req) (op : Int) (gs : List (Int × Val)) (h : LikesA (pick (hasRq op) (rqAny r)) gs) :
    pick (hasRq op) (rqAny (gs.foldl rqPlace r)) = gs ∧ rqHead (gs.foldl rqPlace r) = rqHead r := by
  unfold hasRq at h ⊢
  split at h
  · rename_i e; rw [if_pos e]
    obtain ⟨x, rfl, h1⟩ := like1 (k := (9, .path r.path)) h
    obtain ⟨v, rfl⟩ := is_path h1
    exact ⟨rfl, rfl⟩
  rename_i e1; rw [if_neg e1]
  split at h
  · rename_i e; rw [if_pos e]
    obtain ⟨x, rfl, h1⟩ := like1 (k := (6, .great r.id)) h
    obtain ⟨v, rfl⟩ := is_great h1
    exact ⟨rfl, rfl⟩
  rename_i e2; rw [if_neg e2]
  split at h
  · rename_i e; rw [if_pos e]
    obtain ⟨x, y, z, rfl, h1, h2, h3⟩ := like3 (k := (6, .great r.id)) (l := (7, .small r.off)) (m := (8, .small r.len)) h
    obtain ⟨v, rfl⟩ := is_great h1
    obtain ⟨v2, rfl⟩ := is_small h2
    obtain ⟨v3, rfl⟩ := is_small h3
    exact ⟨rfl, rfl⟩
  rename_i e3; rw [if_neg e3]
  split at h
  · rename_i e; rw [if_pos e]
    obtain ⟨x, y, z, rfl, h1, h2, h3⟩ := like3 (k := (6, .great r.id)) (l := (7, .small r.off)) (m := (14, .content r.data)) h
    obtain ⟨v, rfl⟩ := is_great h1
    obtain ⟨v2, rfl⟩ := is_small h2
    obtain ⟨v3, rfl⟩ := is_content h3
    exact ⟨rfl, rfl⟩
  rename_i e4; rw [if_neg e4]
  split at h
  · rename_i e; rw [if_pos e]
    obtain ⟨x, y, rfl, h1, h2⟩ := like2 (k := (6, .great r.id)) (l := (10, .name r.name)) h
    obtain ⟨v, rfl⟩ := is_great h1
    obtain ⟨v2, rfl⟩ := is_name h2
    exact ⟨rfl, rfl⟩
  rename_i e5; rw [if_neg e5]
  split at h
  · rename_i e; rw [if_pos e]
    obtain ⟨x, y, z, u, rfl, h1, h2, h3, h4⟩ := like4 (k := (6, .great r.id)) (l := (10, .name r.name)) (m := (11, .great r.id2)) (n := (12, .name r.name2)) h
    obtain ⟨v, rfl⟩ := is_great h1
    obtain ⟨v2, rfl⟩ := is_name h2
    obtain ⟨v3, rfl⟩ := is_great h3
    obtain ⟨v4, rfl⟩ := is_name h4
    exact ⟨rfl, rfl⟩
  rename_i e6; rw [if_neg e6]
  split at h
  · rename_i e; rw [if_pos e]
    obtain ⟨x, y, z, rfl, h1, h2, h3⟩ := like3 (k := (6, .great r.id)) (l := (8, .small r.len)) (m := (10, .name r.name)) h
    obtain ⟨v, rfl⟩ := is_great h1
    obtain ⟨v2, rfl⟩ := is_small h2
    obtain ⟨v3, rfl⟩ := is_name h3
    exact ⟨rfl, rfl⟩
  rename_i e7; rw [if_neg e7]
  match gs, h with
  | [], _ => exact ⟨rfl, rfl⟩
end Go.Proofs.YtdcliiojdlonbaaGreatDoor

/- Plain mathematics: whatever bytes are read as a request are just its bytes. -/
namespace Go.Proofs.YtdcliiojdlonbaaGreatDoor
open Go.RowKit
set_option maxRecDepth 100000

theorem open_parts {mg bs : List Int} (hby : Bys bs) (h : openE mg bs.length bs = 0) :
    ∃ B, bs = closeB (mg ++ B) ∧ (bs.drop 4).take (bs.length - 12) = B ∧ B.length = bs.length - 12 := by
  unfold openE at h
  by_cases h1 : 1400 < bs.length
  · rw [if_pos h1] at h; cases h
  rw [if_neg h1] at h
  by_cases h2 : bs.take 4 = mg
  case neg => rw [if_pos h2] at h; cases h
  rw [if_neg (fun q => q h2)] at h
  by_cases h3 : bs.length < 12
  · rw [if_pos h3] at h; cases h
  rw [if_neg h3] at h
  by_cases h4 : val (bs.drop (bs.length - 8)) = sumOf (bs.take (bs.length - 8))
  case neg => rw [if_pos h4] at h; cases h
  refine ⟨_, ?_, rfl, by simp; omega⟩
  have e1 : mg ++ (bs.drop 4).take (bs.length - 12) = bs.take (bs.length - 8) := by
    rw [← h2, take_piece, show 4 + (bs.length - 12) = bs.length - 8 by omega]
  have e2 : be (val (bs.drop (bs.length - 8))) 8 = bs.drop (bs.length - 8) := by
    have q := be_val (bs.drop (bs.length - 8)) (fun x hx => hby x (List.mem_of_mem_drop hx))
    rwa [show (bs.drop (bs.length - 8)).length = 8 by simp; omega] at q
  rw [e1]
  unfold closeB
  rw [← h4, e2, List.take_append_drop]
theorem last_zero {n : Nat} {bs : List Int} {gs : List (Int × Val)} {st : Nat × Int} (h : lastE n bs gs st = 0) : (takeL n bs gs st).2.2 = 0 ∧ n ≤ (takeL n bs gs st).2.1 := by
  unfold lastE at h
  by_cases h1 : takeLE n bs gs st = 46
  · rw [if_pos h1] at h; cases h
  rw [if_neg h1] at h
  unfold rdClose at h
  by_cases h2 : (takeL n bs gs st).2.2 = 0 ∧ (takeL n bs gs st).2.1 < n
  · rw [if_pos h2] at h; cases h
  · rw [if_neg h2] at h
    exact ⟨h, by omega⟩
theorem putAll_mem {g : Int × Val} {gs : List (Int × Val)} (h : g ∈ gs) : ∀ x ∈ putV g.2, x ∈ putAll gs := fun _ hx => List.mem_flatMap.2 ⟨g, h, hx⟩

theorem rq_form {bs : List Int} (hby : Bys bs) (h : rqDE bs = 0) : rqE (rqD bs) = 0 ∧ rqB (rqD bs) = bs ∧ Bys (rqD bs).data := by
  have hD := h
  unfold rqDE at h
  by_cases ho : openE [65, 78, 81, 49] bs.length bs = 0
  case neg => rw [if_pos ho] at h; exact absurd h ho
  rw [if_neg (fun q => q ho)] at h
  obtain ⟨B, hbs, hB, hBl⟩ := open_parts hby ho
  rw [hB, ← hBl] at h
  have hR : rqD bs = rq2 B.length B := by unfold rqD; rw [if_pos hD, hB, ← hBl]
  rw [hR]
  have hbB : Bys B := fun x hx => hby x (by rw [← hB] at hx; exact List.mem_of_mem_drop (List.mem_of_mem_take hx))
  unfold rqTE at h
  by_cases a1 : (rqH B.length B).2.2 = 0
  case neg => rw [if_pos a1] at h; exact absurd h a1
  rw [if_neg (fun q => q a1)] at h
  by_cases a2 : rqHeadE (rq1 B.length B) = 0
  case neg => rw [if_pos a2] at h; exact absurd h a2
  rw [if_neg (fun q => q a2)] at h
  by_cases a3 : lastE B.length B (rqG (rq1 B.length B)) (rqH B.length B).2 = 0
  case neg => rw [if_pos a3] at h; exact absurd h a3
  rw [if_neg (fun q => q a3)] at h
  obtain ⟨_, gs1, e1, k1, l1, p1⟩ := takeL_form B.length B rfl hbB (rqHead rq0) (0, 0) a1
  obtain ⟨cl, sq, ak, ep, op, rfl⟩ := rqHead_like k1
  have t1 : rqH B.length B = ([(0, Val.small cl), (1, .great sq), (2, .great ak), (3, .great ep), (4, .small op)], (32, 0)) := by
    unfold rqH; rw [e1]; simp [putAll, putV, be_length]
  have t2 : rq1 B.length B = ⟨cl, sq, ak, ep, op, 0, 0, 0, 0, ⟨#[]⟩, ⟨#[]⟩, ⟨#[]⟩, []⟩ := by unfold rq1; rw [t1]; rfl
  obtain ⟨r1, hr1⟩ : ∃ r1, rq1 B.length B = r1 := ⟨_, rfl⟩
  have hd1 : rqHead r1 = [(0, Val.small cl), (1, .great sq), (2, .great ak), (3, .great ep), (4, .small op)] := by rw [← hr1, t2]; rfl
  rw [hr1] at a2 a3
  rw [t1] at a3
  obtain ⟨z1, z2⟩ := last_zero a3
  obtain ⟨_, gs2, e2, k2, l2, p2⟩ := takeL_form B.length B rfl hbB (rqG r1) (32, 0) z1
  rw [e2] at z2
  have p1' : (B.drop 0).take (putAll (rqHead r1)).length = putAll (rqHead r1) := by rw [hd1]; exact p1
  have hl32 : (putAll (rqHead r1)).length = 32 := by rw [hd1]; simp [putAll, putV, be_length]
  have hg := glue (b := putAll gs2) p1' (by rw [hl32, Nat.zero_add]; exact p2)
  have hle : 32 ≤ B.length := by have := l1 (Nat.zero_le _); rw [← hd1, hl32] at this; omega
  have hlen : (putAll (rqHead r1) ++ putAll gs2).length = B.length := by
    rw [List.length_append, hl32]
    have := l2 hle
    simp only at this z2
    omega
  rw [hlen, List.drop_zero, List.take_length] at hg
  have hq2 : rq2 B.length B = gs2.foldl rqPlace r1 := by unfold rq2; rw [hr1, t1, e2]
  rw [hq2] at h ⊢
  obtain ⟨w1, w2⟩ := rq_placed r1 r1.op gs2 k2
  obtain ⟨R, hRR⟩ : ∃ R, gs2.foldl rqPlace r1 = R := ⟨_, rfl⟩
  rw [hRR] at w1 w2 h ⊢
  have hh : R.client = r1.client ∧ R.seq = r1.seq ∧ R.ack = r1.ack ∧ R.epoch = r1.epoch ∧ R.op = r1.op := by
    simpa [rqHead] using w2
  obtain ⟨q1, q2, q3, q4, q5⟩ := hh
  have hhE : rqHeadE R = 0 := by unfold rqHeadE at a2 ⊢; rw [q1, q2, q3, q4, q5]; exact a2
  rw [← q5] at w1
  have hj : judgeE R.op (hasRq R.op) (rqAny R) = 0 := h
  refine ⟨by unfold rqE; rw [if_pos hhE]; exact hj, ?_, ?_⟩
  · unfold rqB
    rw [show nums ⟨#[65, 78, 81, 49]⟩ = [65, 78, 81, 49] by decide, w1, w2, List.append_assoc, ← hg]
    exact hbs.symm
  · by_cases hm : (14 : Int) ∈ hasRq R.op
    · have hin : ((14 : Int), Val.content R.data) ∈ gs2 := by
        rw [← w1]; unfold pick
        rw [List.mem_filter]
        exact ⟨by simp [rqAny], by simpa using hm⟩
      intro x hx
      refine hbB x ?_
      rw [hg]
      refine List.mem_append_right _ (putAll_mem hin x ?_)
      show x ∈ dtB R.data
      unfold dtB
      simp [hx]
    · have := judge_zeros hj (14, .content R.data) (by simp [rqAny]) hm
      rw [nil_of this]
      intro x hx
      cases hx
end Go.Proofs.YtdcliiojdlonbaaGreatDoor

/- Plain mathematics: whatever bytes are read as a reply are just its bytes. -/
namespace Go.Proofs.YtdcliiojdlonbaaGreatDoor
open Go.RowKit
set_option maxRecDepth 100000

/-- What was taken for a reply's fields stands in it, and its header stays. -/
theorem rp_placed (r : Rep) (op st : Int) (gs : List (Int × Val)) (h : LikesA (pick (hasRp op st) (rpAny r)) gs) :
    pick (hasRp op st) (rpAny (gs.foldl rpPlace r)) = gs ∧ rpHead (gs.foldl rpPlace r) = rpHead r := by
  unfold hasRp at h ⊢
  split at h
  · rename_i e0; rw [if_pos e0]
    split at h
    · rename_i e; rw [if_pos e]
      obtain ⟨x, rfl, h1⟩ := like1 (k := (13, .attr r.ai r.ak r.az r.ac)) h
      obtain ⟨a, b, c, d, rfl⟩ := is_attr h1
      exact ⟨rfl, rfl⟩
    rename_i e1; rw [if_neg e1]
    split at h
    · rename_i e; rw [if_pos e]
      obtain ⟨x, y, rfl, h1, h2⟩ := like2 (k := (13, .attr r.ai r.ak r.az r.ac)) (l := (14, .content r.data)) h
      obtain ⟨a, b, c, d, rfl⟩ := is_attr h1
      obtain ⟨v, rfl⟩ := is_content h2
      exact ⟨rfl, rfl⟩
    rename_i e2; rw [if_neg e2]
    split at h
    · rename_i e; rw [if_pos e]
      obtain ⟨x, y, rfl, h1, h2⟩ := like2 (k := (15, .entries r.list)) (l := (16, .flag r.more)) h
      obtain ⟨v, rfl⟩ := is_entries h1
      obtain ⟨v2, rfl⟩ := is_flag h2
      exact ⟨rfl, rfl⟩
    rename_i e3; rw [if_neg e3]
    match gs, h with
    | [], _ => exact ⟨rfl, rfl⟩
  · rename_i e0; rw [if_neg e0]
    match gs, h with
    | [], _ => exact ⟨rfl, rfl⟩

theorem rp_form {bs : List Int} (hby : Bys bs) (h : rpDE bs = 0) : rpE (rpD bs) = 0 ∧ rpB (rpD bs) = bs ∧ Bys (rpD bs).data := by
  have hD := h
  unfold rpDE at h
  by_cases ho : openE [65, 78, 82, 49] bs.length bs = 0
  case neg => rw [if_pos ho] at h; exact absurd h ho
  rw [if_neg (fun q => q ho)] at h
  obtain ⟨B, hbs, hB, hBl⟩ := open_parts hby ho
  rw [hB, ← hBl] at h
  have hR : rpD bs = rp2 B.length B := by unfold rpD; rw [if_pos hD, hB, ← hBl]
  rw [hR]
  have hbB : Bys B := fun x hx => hby x (by rw [← hB] at hx; exact List.mem_of_mem_drop (List.mem_of_mem_take hx))
  unfold rpTE at h
  by_cases a1 : (rpH B.length B).2.2 = 0
  case neg => rw [if_pos a1] at h; exact absurd h a1
  rw [if_neg (fun q => q a1)] at h
  by_cases a2 : rpHeadE (rp1 B.length B) = 0
  case neg => rw [if_pos a2] at h; exact absurd h a2
  rw [if_neg (fun q => q a2)] at h
  by_cases a3 : lastE B.length B (rpG (rp1 B.length B)) (rpH B.length B).2 = 0
  case neg => rw [if_pos a3] at h; exact absurd h a3
  rw [if_neg (fun q => q a3)] at h
  obtain ⟨_, gs1, e1, k1, l1, p1⟩ := takeL_form B.length B rfl hbB (rpHead rp0) (0, 0) a1
  obtain ⟨cl, sq, ep, op, su, rfl⟩ := rpHead_like k1
  have t1 : rpH B.length B = ([(0, Val.small cl), (1, .great sq), (3, .great ep), (4, .small op), (5, .small su)], (28, 0)) := by
    unfold rpH; rw [e1]; simp [putAll, putV, be_length]
  have t2 : rp1 B.length B = ⟨cl, sq, ep, op, su, 0, 0, 0, 0, [], [], false⟩ := by unfold rp1; rw [t1]; rfl
  obtain ⟨r1, hr1⟩ : ∃ r1, rp1 B.length B = r1 := ⟨_, rfl⟩
  have hd1 : rpHead r1 = [(0, Val.small cl), (1, .great sq), (3, .great ep), (4, .small op), (5, .small su)] := by rw [← hr1, t2]; rfl
  rw [hr1] at a2 a3
  rw [t1] at a3
  obtain ⟨z1, z2⟩ := last_zero a3
  obtain ⟨_, gs2, e2, k2, l2, p2⟩ := takeL_form B.length B rfl hbB (rpG r1) (28, 0) z1
  rw [e2] at z2
  have p1' : (B.drop 0).take (putAll (rpHead r1)).length = putAll (rpHead r1) := by rw [hd1]; exact p1
  have hl28 : (putAll (rpHead r1)).length = 28 := by rw [hd1]; simp [putAll, putV, be_length]
  have hg := glue (b := putAll gs2) p1' (by rw [hl28, Nat.zero_add]; exact p2)
  have hle : 28 ≤ B.length := by have := l1 (Nat.zero_le _); rw [← hd1, hl28] at this; omega
  have hlen : (putAll (rpHead r1) ++ putAll gs2).length = B.length := by
    rw [List.length_append, hl28]
    have := l2 hle
    simp only at this z2
    omega
  rw [hlen, List.drop_zero, List.take_length] at hg
  have hq2 : rp2 B.length B = gs2.foldl rpPlace r1 := by unfold rp2; rw [hr1, t1, e2]
  rw [hq2] at h ⊢
  obtain ⟨w1, w2⟩ := rp_placed r1 r1.op r1.status gs2 k2
  obtain ⟨R, hRR⟩ : ∃ R, gs2.foldl rpPlace r1 = R := ⟨_, rfl⟩
  rw [hRR] at w1 w2 h ⊢
  have hh : R.client = r1.client ∧ R.seq = r1.seq ∧ R.epoch = r1.epoch ∧ R.op = r1.op ∧ R.status = r1.status := by
    simpa [rpHead] using w2
  obtain ⟨q1, q2, q3, q4, q5⟩ := hh
  have hhE : rpHeadE R = 0 := by unfold rpHeadE at a2 ⊢; rw [q1, q2, q3, q4, q5]; exact a2
  rw [← q4, ← q5] at w1
  have hb : rpBodyE R = 0 := h
  have hE : rpE R = 0 := by unfold rpE; rw [if_pos hhE]; exact hb
  have hj := rpE_zero hE
  refine ⟨hE, ?_, ?_⟩
  · unfold rpB
    rw [show nums ⟨#[65, 78, 82, 49]⟩ = [65, 78, 82, 49] by decide, w1, w2, List.append_assoc, ← hg]
    exact hbs.symm
  · by_cases hm : (14 : Int) ∈ hasRp R.op R.status
    · have hin : ((14 : Int), Val.content R.data) ∈ gs2 := by
        rw [← w1]; unfold pick
        rw [List.mem_filter]
        exact ⟨by simp [rpAny], by simpa using hm⟩
      intro x hx
      refine hbB x ?_
      rw [hg]
      refine List.mem_append_right _ (putAll_mem hin x ?_)
      show x ∈ dtB R.data
      unfold dtB
      simp [hx]
    · have := judge_zeros hj (14, .content R.data) (by simp [rpAny]) hm
      rw [nil_of this]
      intro x hx
      cases hx
end Go.Proofs.YtdcliiojdlonbaaGreatDoor

/- MsgOneForm by its contract. -/
namespace Go.Proofs.YtdcliiojdlonbaaGreatDoor
open Go.RowKit
set_option maxRecDepth 100000

theorem open_magic4 {mg bs : List Int} {n : Nat} (h : openE mg n bs = 0) : bs.take 4 = mg := by
  unfold openE at h
  by_cases h1 : 1400 < n
  · rw [if_pos h1] at h; cases h
  rw [if_neg h1] at h
  by_cases h2 : bs.take 4 = mg
  · exact h2
  · rw [if_pos h2] at h; cases h
theorem rqDE_open {bs : List Int} (h : rqDE bs = 0) : bs.take 4 = [65, 78, 81, 49] := by
  unfold rqDE at h
  by_cases ho : openE [65, 78, 81, 49] bs.length bs = 0
  · exact open_magic4 ho
  · rw [if_pos ho] at h; exact absurd h ho
theorem rpDE_open {bs : List Int} (h : rpDE bs = 0) : bs.take 4 = [65, 78, 82, 49] := by
  unfold rpDE at h
  by_cases ho : openE [65, 78, 82, 49] bs.length bs = 0
  · exact open_magic4 ho
  · rw [if_pos ho] at h; exact absurd h ho

theorem rq_path {r : Req} (h : rqE r = 0) : r.path.size ≤ 384 := by
  have hj := rqE_zero h
  by_cases hm : (9 : Int) ∈ hasRq r.op
  · exact judge_fit hj (9, .path r.path) (by unfold pick; rw [List.mem_filter]; exact ⟨by simp [rqAny], by simpa using hm⟩)
  · rw [empty_of (judge_zeros hj (9, .path r.path) (by simp [rqAny]) hm)]; decide

set_option maxHeartbeats 8000000 in
theorem form_any (ao : Option Addr) (n c : Nat) (bs : List Int) (er : Nat → Addr) (w : World) (hE : Errs w er) (hL : Lies w ao n c bs) (hn : n ≤ 140737488355328) (hby : Bys bs) :
    Calls Tryz.prog 5 #[.slice ao n c] w fun e w' => e = .returned (.bool true) ∧ Below w.heap.size w w' := by
  go_enter Tryz.func5, Tryz.ntmps5
  go_wp2_with fail
  refine (head_any er _ hE).mono ?_
  rintro e w1 ⟨rfl, hB1⟩
  go_wp2_with fail
  refine (decodeRequest_any ao n c bs er _ (hL.below hB1 (Nat.le_refl _)) hn hby (hE.below hB1 (Nat.le_refl _))).mono ?_
  rintro e w2 ⟨r, bo, m, d, rfl, hr, ho2, hb2⟩
  have hB2 := hB1.trans (hb2.mono hB1.size)
  have hD2 : Lies w2 bo m d r.data := Lies.owned ho2
  clear hB1 hb2 ho2
  have HR : Hid (r = rqD bs) := hr
  clear hr
  have hbx := newBox w2 (.cells #[.int .i64 r.client, .int .i64 r.seq, .int .i64 r.ack, .int .i64 r.epoch, .int .i64 r.op, .int .i64 r.id, .int .i64 r.id2, .int .i64 r.off, .int .i64 r.len, .string r.path, .string r.name, .string r.name2, .slice bo m d] 24)
  have hQ3 : RqBox (w2.alloc (.cells #[.int .i64 r.client, .int .i64 r.seq, .int .i64 r.ack, .int .i64 r.epoch, .int .i64 r.op, .int .i64 r.id, .int .i64 r.id2, .int .i64 r.off, .int .i64 r.len, .string r.path, .string r.name, .string r.name2, .slice bo m d] 24)) w2.heap.size r bo m d := RqBox.new w2 r bo m d
  have hB3 := hB2.trans (hbx.mono hB2.size)
  have hD3 := hD2.below hbx (Nat.le_refl _)
  clear hB2 hD2 hbx
  go_wp2_with fail
  generalize w2.alloc (.cells #[.int .i64 r.client, .int .i64 r.seq, .int .i64 r.ack, .int .i64 r.epoch, .int .i64 r.op, .int .i64 r.id, .int .i64 r.id2, .int .i64 r.off, .int .i64 r.len, .string r.path, .string r.name, .string r.name2, .slice bo m d] 24) = w3 at *
  generalize w2.heap.size = b1 at *
  refine (decodeReply_any ao n c bs er _ (hL.below hB3 (Nat.le_refl _)) hn hby (hE.below hB3 (Nat.le_refl _))).mono ?_
  rintro e w4 ⟨y, co, k1, d1, lo, ln, lc, rfl, hy, ho4, ho5, hel, hb4⟩
  have HY : Hid (y = rpD bs) := hy
  have HEL : Hid (y.list.length = ln) := hel
  clear hy hel
  have hB4 := hB3.trans (hb4.mono hB3.size)
  have hQ4 := RqBox.later hQ3 hb4 (Nat.le_refl _)
  have hD4 := hD3.below hb4 (Nat.le_refl _)
  have hC4 : Lies w4 co k1 d1 y.data := Lies.owned ho4
  have hN4 : CLies w4 lo ln lc 3 (entCells y.list) := CLies.owned ho5
  clear hB3 hQ3 hD3 hb4 ho4 ho5
  have hbx := newBox w4 (.cells #[.int .i64 y.client, .int .i64 y.seq, .int .i64 y.epoch, .int .i64 y.op, .int .i64 y.status, .int .i64 y.ai, .int .i64 y.ak, .int .i64 y.az, .int .i64 y.ac, .slice co k1 d1, .slice lo ln lc, .bool y.more] 30)
  have hP5 : RpBox (w4.alloc (.cells #[.int .i64 y.client, .int .i64 y.seq, .int .i64 y.epoch, .int .i64 y.op, .int .i64 y.status, .int .i64 y.ai, .int .i64 y.ak, .int .i64 y.az, .int .i64 y.ac, .slice co k1 d1, .slice lo ln lc, .bool y.more] 30)) w4.heap.size y co k1 d1 lo ln lc := RpBox.new w4 y co k1 d1 lo ln lc
  have hB5 := hB4.trans (hbx.mono hB4.size)
  have hQ5 := RqBox.later hQ4 hbx (Nat.le_refl _)
  have hD5 := hD4.below hbx (Nat.le_refl _)
  have hC5 := hC4.below hbx (Nat.le_refl _)
  have hN5 := hN4.below hbx (Nat.le_refl _)
  clear hB4 hQ4 hD4 hC4 hN4 hbx
  go_wp2_with fail
  generalize w4.alloc (.cells #[.int .i64 y.client, .int .i64 y.seq, .int .i64 y.epoch, .int .i64 y.op, .int .i64 y.status, .int .i64 y.ai, .int .i64 y.ak, .int .i64 y.az, .int .i64 y.ac, .slice co k1 d1, .slice lo ln lc, .bool y.more] 30) = w5 at *
  generalize w4.heap.size = b2 at *
  have hL5 := hL.below hB5 (Nat.le_refl _)
  refine (kind_any ao n c bs _ hL5 hby).mono ?_
  rintro e wn ⟨rfl, hwn⟩
  subst wn
  by_cases h1 : rqDE bs = 0
  · have hmg := rqDE_open h1
    have h2 : ¬ rpDE bs = 0 := fun q => by have z := rpDE_open q; rw [hmg] at z; cases z
    obtain ⟨f1, f2, f3⟩ := rq_form hby h1
    rw [← HR.out] at f1 f2 f3
    have hpath := Nat.le_trans (rq_path f1) (show 384 ≤ 281474976710656 by decide)
    rw [if_pos hmg, h1]
    have hne1 : (rpDE bs != 0) = true := by simpa using h2
    have hne2 : (rpDE bs == 0) = false := by simpa using h2
    generalize rpDE bs = E2 at *
    have hQ5' := hQ5
    obtain ⟨q0, q1, q2, q3, q4, q5, q6, q7, q8, q9, q10, q11, q12⟩ := hQ5'
    clear hmg
    go_wp2_with (go_at_call 11; refine (num_id _ _).mono ?_; rintro e wn ⟨rfl, hwn⟩; subst wn)
    clear q0 q1 q2 q3 q4 q5 q6 q7 q8 q9 q10 q11 q12
    refine (encRq r bo m d _ hD5 hpath f3).mono ?_
    rintro e w6 ⟨g, i, j, rfl, hb6, hok, _⟩
    have hM6 := hok f1
    rw [f2] at hM6
    rw [f1]
    clear hok
    have hB6 := hB5.trans (hb6.mono hB5.size)
    have hQ6 := RqBox.later hQ5 hb6 (Nat.le_refl _)
    have hD6 := hD5.below hb6 (Nat.le_refl _)
    clear hB5 hQ5 hD5 hb6 hC5 hN5 hP5 hL5
    obtain ⟨q0, q1, q2, q3, q4, q5, q6, q7, q8, q9, q10, q11, q12⟩ := hQ6
    go_wp2_with fail
    clear q0 q1 q2 q3 q4 q5 q6 q7 q8 q9 q10 q11 q12
    refine (checkRequest_any r bo m d _ hD6 hpath).mono ?_
    rintro e w7 ⟨rfl, hb7⟩
    rw [f1]
    have hB7 := hB6.trans (hb7.mono hB6.size)
    have hM7 := hM6.below hb7 (Nat.le_refl _)
    clear hB6 hD6 hb7 hM6
    go_wp2_with fail
    refine (same_true ao g n i c j bs _ (by omega) (hL.below hB7 (Nat.le_refl _)) hM7).mono ?_
    rintro e w8 ⟨rfl, hb8⟩
    have hB8 := hB7.trans (hb8.mono hB7.size)
    clear hB7 hb8 hM7
    go_wp2_with (go_at_call 11; refine (num_id _ _).mono ?_; rintro e wn ⟨rfl, hwn⟩; subst wn)
    go_ret
    exact ⟨rfl, hB8⟩
  have hne1 : (rqDE bs != 0) = true := by simpa using h1
  have hne2 : (rqDE bs == 0) = false := by simpa using h1
  by_cases h2 : rpDE bs = 0
  · have hmg := rpDE_open h2
    obtain ⟨f1, f2, f3⟩ := rp_form hby h2
    rw [← HY.out] at f1 f2 f3
    rw [if_neg (by rw [hmg]; decide), if_pos hmg, h2]
    generalize rqDE bs = E1 at *
    have hP5' := hP5
    obtain ⟨p0, p1, p2, p3, p4, p5, p6, p7, p8, p9, p10, p11⟩ := hP5'
    clear hmg
    go_wp2_with (go_at_call 11; refine (num_id _ _).mono ?_; rintro e wn ⟨rfl, hwn⟩; subst wn)
    clear p0 p1 p2 p3 p4 p5 p6 p7 p8 p9 p10 p11
    refine (encRp y co k1 d1 lo ln lc _ hC5 hN5 HEL.out f3).mono ?_
    rintro e w6 ⟨g, i, j, rfl, hb6, hok, _⟩
    have hM6 := hok f1
    rw [f2] at hM6
    rw [f1]
    clear hok
    have hB6 := hB5.trans (hb6.mono hB5.size)
    have hP6 := RpBox.later hP5 hb6 (Nat.le_refl _)
    have hC6 := hC5.below hb6 (Nat.le_refl _)
    have hN6 := hN5.below hb6 (Nat.le_refl _)
    clear hB5 hQ5 hD5 hb6 hC5 hN5 hP5 hL5
    obtain ⟨p0, p1, p2, p3, p4, p5, p6, p7, p8, p9, p10, p11⟩ := hP6
    go_wp2_with fail
    clear p0 p1 p2 p3 p4 p5 p6 p7 p8 p9 p10 p11
    refine (checkReply_any y co k1 d1 lo ln lc _ hC6 hN6 HEL.out).mono ?_
    rintro e w7 ⟨rfl, hb7⟩
    rw [f1]
    have hB7 := hB6.trans (hb7.mono hB6.size)
    have hM7 := hM6.below hb7 (Nat.le_refl _)
    clear hB6 hC6 hN6 hb7 hM6
    go_wp2_with fail
    refine (same_true ao g n i c j bs _ (by omega) (hL.below hB7 (Nat.le_refl _)) hM7).mono ?_
    rintro e w8 ⟨rfl, hb8⟩
    have hB8 := hB7.trans (hb8.mono hB7.size)
    clear hB7 hb8 hM7
    go_wp2_with (go_at_call 11; refine (num_id _ _).mono ?_; rintro e wn ⟨rfl, hwn⟩; subst wn)
    go_ret
    exact ⟨rfl, hB8⟩
  · have hne3 : (rpDE bs != 0) = true := by simpa using h2
    have hne4 : (rpDE bs == 0) = false := by simpa using h2
    generalize rqDE bs = E1 at *
    generalize rpDE bs = E2 at *
    generalize (if bs.take 4 = [65, 78, 81, 49] then (1 : Int) else if bs.take 4 = [65, 78, 82, 49] then 2 else 0) = K
    go_wp2_with (go_at_call 11; refine (num_id _ _).mono ?_; rintro e wn ⟨rfl, hwn⟩; subst wn)
    go_ret
    exact ⟨rfl, hB5⟩
end Go.Proofs.YtdcliiojdlonbaaGreatDoor
