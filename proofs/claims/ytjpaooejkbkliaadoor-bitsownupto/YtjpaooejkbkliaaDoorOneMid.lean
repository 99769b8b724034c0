/- BitsOneForm: what a round's field is, behind the call that read it. -/
import Derived.Test.YtjpaooejkbkliaaDoorMath
import Derived.Test.YtjpaooejkbkliaaDoorHead
namespace Go.Proofs.YtjpaooejkbkliaaDoor
open Go.RowKit
set_option maxRecDepth 100000

theorem own_ne {w : World} {base rb g n cap m : Nat} {pl code : Int} {bs : List Int} {v : Value} {xs : List Value} (h : w.ownsRow base 5 1 v m xs) (hR : Rdr w rb g n cap pl code bs) : v.ownBlock ≠ some rb := by
  rcases h.2 with ⟨rfl, _⟩ | ⟨g', cap', cur, rfl, _, hg, _⟩
  · simp [Value.ownBlock]
  · simp only [Value.ownBlock, ne_eq, Option.some.injEq]
    rintro rfl
    rw [hR.blk] at hg
    simp at hg

theorem own_lt_ne {w : World} {base m k : Nat} {v : Value} {xs : List Value} (h : w.ownsRow base 5 1 v m xs) (hk : w.heap.size ≤ k) : v.ownBlock ≠ some k := fun e => by
  have := (h.lt k e).2
  omega

/-- The field x of a round, behind the call that read it: either the reader has an error and x is empty, or what was read is the next bytes. -/
structure Mid (w W : World) (rb g n xb pl c : Nat) (av : Option Addr) (bs : List Int) (K X S : Int) (bo : Option Addr) (dl dc : Nat) (ds : List Int) (pl' : Nat) (code' : Int) : Prop where
  rd : Rdr W rb g n n pl' code' bs
  blk : W.heap[xb]? = some (.cells #[.int .i64 K, .int .i64 X, .int .u64 S, .slice bo dl dc] 32 (0, 0))
  lies : Lies W bo dl dc ds
  small : ∀ x ∈ ds, 0 ≤ x ∧ x ≤ 255
  s0 : 0 ≤ S
  s1 : S ≤ 18446744073709551615
  own : W.ownsRow w.heap.size 5 1 (.slice av pl c) pl ((bs.take pl).map (Value.int .u8))
  below : Below w.heap.size w W
  out : ((code' == 0) = false ∧ pl' = pl ∧ X = 0 ∧ S = 0 ∧ dl = 0) ∨ (code' = 0 ∧ pl' ≤ n ∧ pl + dl ≤ n ∧ pl' = pl + putN K dl ∧ bs.take pl ++ putL K X S ds = bs.take pl')

/-- A store into x's block. -/
theorem kept_store {w W : World} {rb g n xb pl c : Nat} {av : Option Addr} {bs : List Int} {pl' : Nat} {code' : Int} {C : Array Value} (hR : Rdr W rb g n n pl' code' bs) (hx : W.heap[xb]? = some (.cells C 32 (0, 0)))
    (hown : W.ownsRow w.heap.size 5 1 (.slice av pl c) pl ((bs.take pl).map (Value.int .u8))) (hb : Below w.heap.size w W) (hwx : w.heap.size ≤ xb) (hgx : g ≠ xb) (o : Nat) (v : Value) :
    Rdr (W.setCell ⟨xb, o, none⟩ v) rb g n n pl' code' bs ∧ (W.setCell ⟨xb, o, none⟩ v).heap[xb]? = some (.cells (C.setIfInBounds o v) 32 (0, 0)) ∧
      (W.setCell ⟨xb, o, none⟩ v).ownsRow w.heap.size 5 1 (.slice av pl c) pl ((bs.take pl).map (Value.int .u8)) ∧ Below w.heap.size w (W.setCell ⟨xb, o, none⟩ v) := by
  have hgr := grown_setCell W xb o v
  have hne : rb ≠ xb := by
    rintro rfl
    rw [hR.blk] at hx
    simp at hx
  refine ⟨hR.kept hgr (by simpa using hne) (by simpa using hgx), heap_setCell_same _ _ _ _ _ _ hx, hown.kept hgr (.inr ?_), hb.setCell hwx v⟩
  rcases hown.2 with ⟨hv, _⟩ | ⟨g', cap', cur, hv, _, hg, _⟩
  · rw [hv]; simp [Value.ownBlock]
  · rw [hv]
    simp only [Value.ownBlock, ne_eq, Option.some.injEq]
    rintro rfl
    rw [hx] at hg
    simp at hg

theorem cx_at {W : World} {xb : Nat} {C : Array Value} {t : TypeId} (h : W.heap[xb]? = some (.cells C t (0, 0))) (o : Nat) (v : Value) (hv : C[o]? = some v) : W.cell? ⟨xb, o, none⟩ = some v := by simp [World.cell?, h, hv]
theorem fx_at {W : World} {xb : Nat} {C : Array Value} {t : TypeId} (h : W.heap[xb]? = some (.cells C t (0, 0))) (o : Nat) : W.frozen? ⟨xb, o, none⟩ = false := by simp [World.frozen?, h]

/-- Behind a call at the reader: x's new block is as it was laid. -/
theorem after_face {w wr w3 : World} {rb g n pl c pl0 : Nat} {code0 : Int} {av : Option Addr} {bs : List Int} {C : Array Value} (hR : Rdr wr rb g n n pl0 code0 bs) (hown : wr.ownsRow w.heap.size 5 1 (.slice av pl c) pl ((bs.take pl).map (Value.int .u8))) (hb : Below w.heap.size w wr)
    (hg3 : (wr.alloc (.cells C 32)).grownBy w3 (some rb)) (hwrb : w.heap.size ≤ rb) :
    w3.heap[wr.heap.size]? = some (.cells C 32 (0, 0)) ∧ w3.ownsRow w.heap.size 5 1 (.slice av pl c) pl ((bs.take pl).map (Value.int .u8)) ∧ Below w.heap.size w w3 := by
  have hlt := hR.lt
  refine ⟨?_, (hown.alloc _).kept hg3 (.inr (own_ne hown hR)), (hb.alloc hb.size _).grown hg3 (by simp; have := hb.size; omega) (fun k hk => by cases hk; exact hwrb)⟩
  rw [hg3.block _ (by simp) (by simp; omega)]
  exact heap_alloc_new _ _

theorem lies_nil' (W : World) : Lies W none 0 0 [] := Lies.nil W

theorem mid_num {w w3 : World} {rb g n xb pl c : Nat} {code : Int} {av : Option Addr} {bs : List Int} (kk : Nat) (K X : Int) (hKk : (K = 1 ∧ kk = 4) ∨ (K = 2 ∧ kk = 8)) (p' : Nat) (c' : Int) (e1 : rdNum kk n bs pl code 9223372036854775807 = (X, p', c')) (hl : bs.length = n) (hby : ∀ x ∈ bs, 0 ≤ x ∧ x ≤ 255) (hp : pl ≤ n)
    (hR3 : Rdr w3 rb g n n p' c' bs) (hx3 : w3.heap[xb]? = some (.cells #[.int .i64 K, .int .i64 0, .int .u64 0, .slice none 0 0] 32 (0, 0)))
    (ho3 : w3.ownsRow w.heap.size 5 1 (.slice av pl c) pl ((bs.take pl).map (Value.int .u8))) (hb3 : Below w.heap.size w w3) (hwx : w.heap.size ≤ xb) (hgx : g ≠ xb) :
    Mid w (w3.setCell ⟨xb, 1, none⟩ (.int .i64 X)) rb g n xb pl c av bs K X 0 none 0 0 [] p' c' := by
  obtain ⟨hR4, hx4, ho4, hb4⟩ := kept_store hR3 hx3 ho3 hb3 hwx hgx 1 (.int .i64 X)
  refine ⟨hR4, by rw [hx4]; rfl, lies_nil' _, by simp, by omega, by omega, ho4, hb4, ?_⟩
  rcases num_cases kk n bs pl code hl (by omega) hby hp with ⟨c2, e2, hc⟩ | ⟨x, e2, hle, hput⟩
  · rw [e1] at e2
    cases e2
    exact .inl ⟨hc, rfl, rfl, rfl, rfl⟩
  · rw [e1] at e2
    cases e2
    rcases hKk with ⟨rfl, rfl⟩ | ⟨rfl, rfl⟩
    · exact .inr ⟨rfl, hle, hp, rfl, hput⟩
    · exact .inr ⟨rfl, hle, hp, rfl, hput⟩

theorem mid_sum {w w3 : World} {rb g n xb pl c : Nat} {code : Int} {av : Option Addr} {bs : List Int} (K X : Int) (hK : K = 3) (p' : Nat) (c' : Int) (e1 : rdSum n bs pl code = (X, p', c')) (hl : bs.length = n) (hby : ∀ x ∈ bs, 0 ≤ x ∧ x ≤ 255) (hp : pl ≤ n)
    (hR3 : Rdr w3 rb g n n p' c' bs) (hx3 : w3.heap[xb]? = some (.cells #[.int .i64 K, .int .i64 0, .int .u64 0, .slice none 0 0] 32 (0, 0)))
    (ho3 : w3.ownsRow w.heap.size 5 1 (.slice av pl c) pl ((bs.take pl).map (Value.int .u8))) (hb3 : Below w.heap.size w w3) (hwx : w.heap.size ≤ xb) (hgx : g ≠ xb) :
    Mid w (w3.setCell ⟨xb, 2, none⟩ (.int .u64 X)) rb g n xb pl c av bs K 0 X none 0 0 [] p' c' := by
  obtain ⟨hR4, hx4, ho4, hb4⟩ := kept_store hR3 hx3 ho3 hb3 hwx hgx 2 (.int .u64 X)
  subst hK
  rcases sum_cases n bs pl code hl hby hp with ⟨c2, e2, hc⟩ | ⟨x, e2, hle, h0, h1, hput⟩
  · rw [e1] at e2
    cases e2
    exact ⟨hR4, by rw [hx4]; rfl, lies_nil' _, by simp, by omega, by omega, ho4, hb4, .inl ⟨hc, rfl, rfl, rfl, rfl⟩⟩
  · rw [e1] at e2
    cases e2
    exact ⟨hR4, by rw [hx4]; rfl, lies_nil' _, by simp, h0, h1, ho4, hb4, .inr ⟨rfl, hle, hp, rfl, hput⟩⟩

theorem mid_flag {w w3 : World} {rb g n xb pl c : Nat} {code : Int} {av : Option Addr} {bs : List Int} (b : Bool) (p' : Nat) (c' : Int) (e1 : rdFlag n bs pl code = (b, p', c')) (hl : bs.length = n) (hby : ∀ x ∈ bs, 0 ≤ x ∧ x ≤ 255) (hp : pl ≤ n)
    (hR3 : Rdr w3 rb g n n p' c' bs) (hx3 : w3.heap[xb]? = some (.cells #[.int .i64 1, .int .i64 0, .int .u64 0, .slice none 0 0] 32 (0, 0)))
    (ho3 : w3.ownsRow w.heap.size 5 1 (.slice av pl c) pl ((bs.take pl).map (Value.int .u8))) (hb3 : Below w.heap.size w w3) (hwx : w.heap.size ≤ xb) (hgx : g ≠ xb) :
    (b = true → Mid w (w3.setCell ⟨xb, 1, none⟩ (.int .i64 1)) rb g n xb pl c av bs 1 1 0 none 0 0 [] p' c') ∧ (b = false → Mid w w3 rb g n xb pl c av bs 1 0 0 none 0 0 [] p' c') := by
  obtain ⟨hR4, hx4, ho4, hb4⟩ := kept_store hR3 hx3 ho3 hb3 hwx hgx 1 (.int .i64 1)
  rcases flag_cases n bs pl code hl hby hp with ⟨c2, e2, hc⟩ | ⟨x, e2, hle, hput⟩
  · rw [e1] at e2
    cases e2
    exact ⟨(fun h => by cases h), fun _ => ⟨hR3, hx3, lies_nil' _, by simp, by omega, by omega, ho3, hb3, .inl ⟨hc, rfl, rfl, rfl, rfl⟩⟩⟩
  · rw [e1] at e2
    cases e2
    refine ⟨fun h => ?_, fun h => ?_⟩
    · subst h
      exact ⟨hR4, by rw [hx4]; rfl, lies_nil' _, by simp, by omega, by omega, ho4, hb4, .inr ⟨rfl, hle, hp, rfl, hput⟩⟩
    · subst h
      exact ⟨hR3, hx3, lies_nil' _, by simp, by omega, by omega, ho3, hb3, .inr ⟨rfl, hle, hp, rfl, hput⟩⟩

/-- x's bytes stored: whatever list of the bytes L it is. -/
theorem mid_list {w w3 : World} {rb g n xb pl c : Nat} {code : Int} {av : Option Addr} {bs : List Int} (K : Int) (hK : K = 4 ∨ K = 5) (L : List Int) (p' : Nat) (c' : Int) (e1 : rdText n bs pl code 9223372036854775807 = (L, p', c')) (hl : bs.length = n) (hby : ∀ x ∈ bs, 0 ≤ x ∧ x ≤ 255) (hp : pl ≤ n)
    (hR3 : Rdr w3 rb g n n p' c' bs) (hx3 : w3.heap[xb]? = some (.cells #[.int .i64 K, .int .i64 0, .int .u64 0, .slice none 0 0] 32 (0, 0)))
    (ho3 : w3.ownsRow w.heap.size 5 1 (.slice av pl c) pl ((bs.take pl).map (Value.int .u8))) (hb3 : Below w.heap.size w w3) (hwx : w.heap.size ≤ xb) (hgx : g ≠ xb) (bo : Option Addr) (dl dc : Nat) (hLi : Lies w3 bo dl dc L) (hbx : ∀ ad, bo = some ad → ad.block ≠ xb) :
    Mid w (w3.setCell ⟨xb, 3, none⟩ (.slice bo dl dc)) rb g n xb pl c av bs K 0 0 bo dl dc L p' c' := by
  obtain ⟨hR4, hx4, ho4, hb4⟩ := kept_store hR3 hx3 ho3 hb3 hwx hgx 3 (.slice bo dl dc)
  have hLi4 : Lies (w3.setCell ⟨xb, 3, none⟩ (.slice bo dl dc)) bo dl dc L := hLi.grown (grown_setCell _ _ _ _) (fun ad had => by simpa using hbx ad had)
  have hdl := hLi.hlen
  rcases text_cases n bs pl code hl hby hp with ⟨c2, e2, hc⟩ | ⟨x, e2, hle, hsm, hput⟩
  · rw [e1] at e2
    cases e2
    refine ⟨hR4, by rw [hx4]; rfl, hLi4, by simp, by omega, by omega, ho4, hb4, .inl ⟨hc, rfl, rfl, rfl, ?_⟩⟩
    rw [← hdl]; rfl
  · rw [e1] at e2
    cases e2
    refine ⟨hR4, by rw [hx4]; rfl, hLi4, hsm, by omega, by omega, ho4, hb4, .inr ⟨rfl, hle, by omega, ?_, ?_⟩⟩
    · rw [← hdl]
      rcases hK with rfl | rfl <;> rfl
    · rcases hK with rfl | rfl <;> exact hput

theorem Mid.drewN {w W : World} {rb g n xb pl c : Nat} {av : Option Addr} {bs : List Int} {K X S : Int} {bo : Option Addr} {dl dc : Nat} {ds : List Int} {p' : Nat} {c' : Int} (h : Mid w W rb g n xb pl c av bs K X S bo dl dc ds p' c') (m : Nat) : Mid w (W.drewN m) rb g n xb pl c av bs K X S bo dl dc ds p' c' :=
  ⟨h.rd.drewN m, h.blk, ⟨h.lies.hlen, h.lies.hle, h.lies.hnone, h.lies.hcells⟩, h.small, h.s0, h.s1, h.own, below_drewN h.below m, h.out⟩

theorem Rdr.below {w W : World} {rb g n cap : Nat} {pl code : Int} {bs : List Int} (h : Rdr w rb g n cap pl code bs) (hb : Below w.heap.size w W) : Rdr W rb g n cap pl code bs :=
  ⟨(hb.block _ h.lt).trans h.blk, h.lies.below hb (Nat.le_refl _), h.apart, Nat.lt_of_lt_of_le h.glt hb.size⟩
theorem Lies.upto {w : World} {ao : Option Addr} {n cap : Nat} {bs : List Int} (h : Lies w ao n cap bs) (p : Nat) (hp : p ≤ n) : Lies w ao p cap (bs.take p) := by
  have hle := h.hle
  have hlen := h.hlen
  refine ⟨by simp; omega, by omega, fun hn => ⟨by have := (h.hnone hn).1; omega, (h.hnone hn).2⟩, fun ad had t u hu => h.hcells ad had t u ?_⟩
  rw [List.map_take, List.getElem?_take] at hu
  split at hu
  · exact hu
  · cases hu
theorem held_num (k n : Nat) (bs : List Int) (pl : Nat) (c M : Int) (hc : (c == 0) = false) : rdNum k n bs pl c M = (0, pl, c) := by
  unfold rdNum; rw [if_pos (by simpa using hc)]
theorem held_text (n : Nat) (bs : List Int) (pl : Nat) (c M : Int) (hc : (c == 0) = false) : rdText n bs pl c M = ([], pl, c) := by
  unfold rdText; rw [if_pos (by simpa using hc)]
theorem held_close (n pl : Nat) (c : Int) (hc : (c == 0) = false) : rdClose n pl c = c := by
  unfold rdClose; rw [if_neg (by simp at hc; simp [hc])]
theorem Mid.put {w W : World} {rb g n xb pl c : Nat} {av : Option Addr} {bs : List Int} {K X S : Int} {bo : Option Addr} {dl dc : Nat} {ds : List Int} {p' : Nat} {c' : Int} (h : Mid w W rb g n xb pl c av bs K X S bo dl dc ds p' c') (hn : n ≤ 140737488351232) (hfit : pl + dl ≤ n) (hpe : p' = pl + putN K dl) (hput : bs.take pl ++ putL K X S ds = bs.take p') :
    Calls Tryd.prog 22 #[.slice av pl c, itemV K X S bo dl dc] W fun e w' => Fresh W e w' p' (bs.take p') := by
  have hP := put_any av pl c (bs.take pl) K X S bo dl dc ds W h.s0 h.s1 (by omega) (Lies.owned h.own) h.lies h.small
  rwa [hput, ← hpe] at hP
theorem own_below {w W : World} {base n : Nat} {v : Value} {xs : List Value} (h : w.ownsRow base 5 1 v n xs) (hb : Below w.heap.size w W) : W.ownsRow base 5 1 v n xs := by
  obtain ⟨h1, h2⟩ := h
  refine ⟨h1, ?_⟩
  rcases h2 with h2 | ⟨g, cap, cur, hv, hg, hh, r⟩
  · exact Or.inl h2
  · exact Or.inr ⟨g, cap, cur, hv, hg, (hb.block _ (lt_of_block hh)).trans hh, r⟩
theorem text_small (n : Nat) (bs : List Int) (pl : Nat) (code : Int) (hl : bs.length = n) (hby : ∀ x ∈ bs, 0 ≤ x ∧ x ≤ 255) (hp : pl ≤ n) (L : List Int) (p' : Nat) (c' : Int) (e1 : rdText n bs pl code 9223372036854775807 = (L, p', c')) : ∀ x ∈ L, 0 ≤ x ∧ x ≤ 255 := by
  rcases text_cases n bs pl code hl hby hp with ⟨c2, e2, hc⟩ | ⟨x, e2, hle, hsm, hput⟩
  · rw [e1] at e2
    cases e2
    simp
  · rw [e1] at e2
    cases e2
    exact hsm
theorem txt_nil : txt [] = ⟨#[]⟩ := rfl
end Go.Proofs.YtjpaooejkbkliaaDoor
