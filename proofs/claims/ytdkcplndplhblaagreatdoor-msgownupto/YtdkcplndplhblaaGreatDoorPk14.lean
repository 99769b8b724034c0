/- takeReply by its contract. -/
import Derived.Test.YtdkcplndplhblaaGreatDoorPk13
import Derived.Test.YtdkcplndplhblaaGreatDoorPk05
import Derived.Test.YtdkcplndplhblaaGreatDoorPk08
import Derived.Laws.AppendOwn
import Derived.Laws.Rows
namespace Go.Proofs.YtdkcplndplhblaaGreatDoor
open Go.RowKit
set_option maxRecDepth 100000

def rp0 : Rep := ⟨0, 0, 0, 0, 0, 0, 0, 0, 0, [], [], false⟩
/-- The header, as it is read. -/
def rpH (k : Nat) (bs : List Int) : List (Int × Val) × (Nat × Int) := takeL k bs (rpHead rp0) (0, 0)
/-- The message with its header read. -/
def rp1 (k : Nat) (bs : List Int) : Rep := (rpH k bs).1.foldl rpPlace rp0
/-- The fields that are to be read then. -/
def rpG (r : Rep) : List (Int × Val) := pick (hasRp r.op r.status) (rpAny r)
/-- The message read whole. -/
def rp2 (k : Nat) (bs : List Int) : Rep := (takeL k bs (rpG (rp1 k bs)) (rpH k bs).2).1.foldl rpPlace (rp1 k bs)
def rpJE (r : Rep) : Int := rpBodyE r
/-- The error of reading it. -/
def rpTE (k : Nat) (bs : List Int) : Int :=
  if ¬ (rpH k bs).2.2 = 0 then (rpH k bs).2.2 else if ¬ rpHeadE (rp1 k bs) = 0 then rpHeadE (rp1 k bs) else
  if ¬ lastE k bs (rpG (rp1 k bs)) (rpH k bs).2 = 0 then lastE k bs (rpG (rp1 k bs)) (rpH k bs).2 else rpJE (rp2 k bs)

theorem rpHead_take (k : Nat) (bs : List Int) : takeLE k bs (rpHead rp0) (0, 0) = 0 := by simp [rpHead, takeLE, takeE]
theorem rp1_plain (k : Nat) (bs : List Int) : (rp1 k bs).data = [] ∧ (rp1 k bs).list = [] := by
  simp [rp1, rpH, takeL, rpHead, takeV, rpPlace, rpSmall, rpGreat, rp0]
theorem rpG_void (k : Nat) (bs : List Int) : ∀ g ∈ rpG (rp1 k bs), Void g.2 := by
  intro g hg
  have h1 := (pick_mem hg).1
  simp only [rpAny, List.mem_cons, List.not_mem_nil, or_false] at h1
  rcases h1 with rfl | rfl | rfl | rfl <;> first | trivial | exact (rp1_plain k bs).1 | exact (rp1_plain k bs).2
theorem rpG_len (r : Rep) : (rpG r).length ≤ 4 := pick_len _ _
theorem rpH_zero : ∀ g ∈ rpHead rp0, Void g.2 := by
  intro g hg
  simp only [rpHead, List.mem_cons, List.not_mem_nil, or_false] at hg
  rcases hg with rfl | rfl | rfl | rfl | rfl <;> trivial

set_option maxHeartbeats 8000000 in
theorem takeReply_core {rb g k : Nat} {bs : List Int} {er : Nat → Addr} (w : World) (h : Rd w rb g k bs er (0, 0)) (Hd : List (Int × Val) × (Nat × Int)) (r1 r2 : Rep) (TE : Int)
    (HH : Hid (takeL k bs (rpHead rp0) (0, 0) = Hd)) (H1 : Hid (Hd.1.foldl rpPlace rp0 = r1)) (H2 : Hid ((takeL k bs (rpG r1) Hd.2).1.foldl rpPlace r1 = r2))
    (HTE : Hid (TE = if ¬ Hd.2.2 = 0 then Hd.2.2 else if ¬ rpHeadE r1 = 0 then rpHeadE r1 else if ¬ lastE k bs (rpG r1) Hd.2 = 0 then lastE k bs (rpG r1) Hd.2 else rpJE r2)) (hvd : ∀ g ∈ rpG r1, Void g.2) (_hpl : True) :
    Calls Tryz.prog 72 #[.pointer (some ⟨rb, 0, none⟩)] w fun e w' => ∃ (r : Rep) (ao : Option Addr) (n c : Nat) (lo : Option Addr) (ln lc : Nat), e = .returned (.tuple #[rpV r ao n c lo ln lc, .int .i64 (TE)]) ∧ (TE = 0 → r = r2 ∧ w'.ownsRow w.heap.size 5 1 (.slice ao n c) n (r.data.map (Value.int .u8)) ∧ w'.ownsRow w.heap.size 86 3 (.slice lo ln lc) ln (entCells r.list) ∧ r.list.length = ln) ∧ w.grownBy w' (some rb) := by
  have hlim := h.lim
  have hrb := hlim.1
  have htE := rpHead_take k bs
  have hv0 := rpH_zero
  go_enter Tryz.func72, Tryz.ntmps72
  go_wp2_with fail
  have hxR : RpB ((w.alloc (.cells #[.int .i64 0, .int .i64 0, .int .i64 0, .int .i64 0, .int .i64 0, .int .i64 0, .int .i64 0, .int .i64 0, .int .i64 0, .slice none 0 0, .slice none 0 0, .bool false] 30)).alloc (.cells #[.int .i64 0, .int .i64 0, .int .i64 0, .int .i64 0, .int .i64 0, .int .i64 0, .int .i64 0, .int .i64 0, .int .i64 0, .slice none 0 0, .slice none 0 0, .bool false] 30)) w.heap.size rp0 none 0 0 none 0 0 := ((World.grownBy_alloc (w.alloc (.cells #[.int .i64 0, .int .i64 0, .int .i64 0, .int .i64 0, .int .i64 0, .int .i64 0, .int .i64 0, .int .i64 0, .int .i64 0, .slice none 0 0, .slice none 0 0, .bool false] 30)) (.cells #[.int .i64 0, .int .i64 0, .int .i64 0, .int .i64 0, .int .i64 0, .int .i64 0, .int .i64 0, .int .i64 0, .int .i64 0, .slice none 0 0, .slice none 0 0, .bool false] 30) none).block w.heap.size (by simp) (by simp)).trans (heap_alloc_new w _)
  have hxB : RpB ((w.alloc (.cells #[.int .i64 0, .int .i64 0, .int .i64 0, .int .i64 0, .int .i64 0, .int .i64 0, .int .i64 0, .int .i64 0, .int .i64 0, .slice none 0 0, .slice none 0 0, .bool false] 30)).alloc (.cells #[.int .i64 0, .int .i64 0, .int .i64 0, .int .i64 0, .int .i64 0, .int .i64 0, .int .i64 0, .int .i64 0, .int .i64 0, .slice none 0 0, .slice none 0 0, .bool false] 30)) (w.heap.size + 1) rp0 none 0 0 none 0 0 := by
    have q := heap_alloc_new (w.alloc (.cells #[.int .i64 0, .int .i64 0, .int .i64 0, .int .i64 0, .int .i64 0, .int .i64 0, .int .i64 0, .int .i64 0, .int .i64 0, .slice none 0 0, .slice none 0 0, .bool false] 30)) (.cells #[.int .i64 0, .int .i64 0, .int .i64 0, .int .i64 0, .int .i64 0, .int .i64 0, .int .i64 0, .int .i64 0, .int .i64 0, .slice none 0 0, .slice none 0 0, .bool false] 30)
    rw [show (w.alloc (.cells #[.int .i64 0, .int .i64 0, .int .i64 0, .int .i64 0, .int .i64 0, .int .i64 0, .int .i64 0, .int .i64 0, .int .i64 0, .slice none 0 0, .slice none 0 0, .bool false] 30)).heap.size = w.heap.size + 1 by simp] at q
    exact q
  have hb0 := box2 w (.cells #[.int .i64 0, .int .i64 0, .int .i64 0, .int .i64 0, .int .i64 0, .int .i64 0, .int .i64 0, .int .i64 0, .int .i64 0, .slice none 0 0, .slice none 0 0, .bool false] 30) (.cells #[.int .i64 0, .int .i64 0, .int .i64 0, .int .i64 0, .int .i64 0, .int .i64 0, .int .i64 0, .int .i64 0, .int .i64 0, .slice none 0 0, .slice none 0 0, .bool false] 30)
  have hs0 : ((w.alloc (.cells #[.int .i64 0, .int .i64 0, .int .i64 0, .int .i64 0, .int .i64 0, .int .i64 0, .int .i64 0, .int .i64 0, .int .i64 0, .slice none 0 0, .slice none 0 0, .bool false] 30)).alloc (.cells #[.int .i64 0, .int .i64 0, .int .i64 0, .int .i64 0, .int .i64 0, .int .i64 0, .int .i64 0, .int .i64 0, .int .i64 0, .slice none 0 0, .slice none 0 0, .bool false] 30)).heap.size = w.heap.size + 2 := by simp
  generalize (w.alloc (.cells #[.int .i64 0, .int .i64 0, .int .i64 0, .int .i64 0, .int .i64 0, .int .i64 0, .int .i64 0, .int .i64 0, .int .i64 0, .slice none 0 0, .slice none 0 0, .bool false] 30)).alloc (.cells #[.int .i64 0, .int .i64 0, .int .i64 0, .int .i64 0, .int .i64 0, .int .i64 0, .int .i64 0, .int .i64 0, .int .i64 0, .slice none 0 0, .slice none 0 0, .bool false] 30) = w0 at *
  have hR0 := h.kept hb0
  refine (replyHead_new rp0 none 0 0 none 0 0 w0).mono ?_
  rintro e w1 ⟨fo1, k1, rfl, hF1, hb1, hn1⟩
  have hR1 := hR0.kept hb1
  have hxR1 := hxR.below hb1
  have hxB1 := hxB.below hb1
  have hG1 : w.grownBy w1 (some rb) := by
    have q := hb0.trans (hb1.mono hb0.size)
    exact ⟨q.os, q.tape, q.output, q.size, fun i hi _ => q.block i hi⟩
  have hs1 := hb1.size
  clear hb0 hb1 hR0 hxR hxB
  go_wp2_with fail
  refine (takeAll_any (rpHead rp0) fo1 5 k1 w.heap.size _ hR1 (by omega) (by omega) hF1 (fun ad had => by have := hn1 ad had; omega) hv0 (by omega)).mono ?_
  rintro e w2 (⟨_, to2, k2, rfl, hT2, hn2, hR2, hg2⟩ | ⟨hbad, _, _⟩)
  rotate_left
  · rw [htE] at hbad; cases hbad
  have hxR2 := hxR1.row hg2 (by omega)
  have hxB2 := hxB1.row hg2 (by omega)
  have hG2 := grown_trans hG1 hg2
  have hs2 := hg2.size
  clear hxR1 hxB1 hG1 hg2 hR1 htE hF1 hn1
  have hHH := HH.out
  rw [hHH] at hT2 hR2 ⊢
  clear hHH
  by_cases h0 : ¬ Hd.2.2 = 0
  · have HE : Hid (TE = Hd.2.2) := by have q := HTE.out; rw [if_pos h0] at q; exact q
    have hne : (Hd.2.2 != 0) = true := by simpa using h0
    have H0 : Hid (¬ Hd.2.2 = 0) := h0
    obtain ⟨⟨a0, a1, a2, a3, a4, a5, a6, a7, a8, a9, a10, a11⟩, af⟩ := hxR2.c
    obtain ⟨⟨b0, b1, b2, b3, b4, b5, b6, b7, b8, b9, b10, b11⟩, bf⟩ := hxB2.c
    clear h0 hT2 hR2 hn2 hvd hv0
    go_wp2
    clear a0 a1 a2 a3 a4 a5 a6 a7 a8 a9 a10 a11 b0 b1 b2 b3 b4 b5 b6 b7 b8 b9 b10 b11 af bf
    have hz := setRp_is rp0 none 0 0 none 0 0 hxR2
    have hzg := setRp_grown w2 w.heap.size rp0 none 0 0 none 0 0
    refine bodyPost_ret (RpB.res rfl _ rfl hz) rfl ?_
    exact ⟨_, _, _, _, _, _, _, by rw [HE.out]; rfl, fun q => absurd (by rw [← HE.out]; exact q) H0.out, grown_above hG2 hzg (Nat.le_refl _)⟩
  replace h0 := Classical.not_not.1 h0
  have hh := HTE.out
  rw [if_neg (by simpa using h0)] at hh
  clear HTE
  have HTE : Hid (TE = if ¬ rpHeadE r1 = 0 then rpHeadE r1 else if ¬ lastE k bs (rpG r1) Hd.2 = 0 then lastE k bs (rpG r1) Hd.2 else rpJE r2) := hh
  clear hh
  rw [h0]
  clear h0
  go_wp2_with fail
  refine (placeInReply_any rp0 none 0 0 none 0 0 (w.heap.size + 1) w.heap.size Hd.1 to2 5 k2 _ hxB2 (World.ownsRow_nil _ _ _ _) (World.ownsRow_nil _ _ _ _) rfl hT2 (fun ad had => by have := hn2 ad had; omega) (by omega)).mono ?_
  rintro e w3 ⟨rfl, ⟨ao, n, c, lo, ln, lc, hxB3, hO3, hP3, hl3⟩, hg3⟩
  have h1e := H1.out
  rw [h1e] at hxB3 hO3 hP3 hl3
  clear h1e
  have HLN : Hid (r1.list.length = ln) := hl3
  clear hl3
  have hR3 := hR2.beside hlim hg3 (by omega)
  have hxR3 := hxR2.row hg3 (by omega)
  have hG3 := grown_above hG2 hg3 (by omega)
  have hs3 := hg3.size
  clear hT2 hn2 hR2 hxR2 hxB2 hG2
  obtain ⟨⟨b0, b1, b2, b3, b4, b5, b6, b7, b8, b9, b10, b11⟩, bf⟩ := hxB3.c
  go_wp2_with fail
  clear b0 b1 b2 b3 b4 b5 b6 b7 b8 b9 b10 b11 bf
  refine (judgeReplyHead_any r1 ao n c lo ln lc _).mono ?_
  rintro e w4 ⟨rfl, hb4⟩
  have hR4 := hR3.kept hb4
  have hxR4 := hxR3.below hb4
  have hxB4 := hxB3.below hb4
  have hO4 := hO3.kept (row := none) ⟨hb4.os, hb4.tape, hb4.output, hb4.size, fun i hi _ => hb4.block i hi⟩ (nb _)
  have hP4 := hP3.kept (row := none) ⟨hb4.os, hb4.tape, hb4.output, hb4.size, fun i hi _ => hb4.block i hi⟩ (nb _)
  have hG4 : w.grownBy w4 (some rb) := grown_trans hG3 ⟨hb4.os, hb4.tape, hb4.output, hb4.size, fun i hi _ => hb4.block i hi⟩
  have hs4 := hb4.size
  clear hR3 hxR3 hxB3 hO3 hP3 hG3 hb4 hg3
  by_cases h1 : ¬ rpHeadE r1 = 0
  · have HE : Hid (TE = rpHeadE r1) := by have q := HTE.out; rw [if_pos h1] at q; exact q
    have hne : (rpHeadE r1 != 0) = true := by simpa using h1
    have H0 : Hid (¬ rpHeadE r1 = 0) := h1
    obtain ⟨⟨a0, a1, a2, a3, a4, a5, a6, a7, a8, a9, a10, a11⟩, af⟩ := hxR4.c
    obtain ⟨⟨b0, b1, b2, b3, b4, b5, b6, b7, b8, b9, b10, b11⟩, bf⟩ := hxB4.c
    clear h1 hvd
    go_wp2
    clear a0 a1 a2 a3 a4 a5 a6 a7 a8 a9 a10 a11 af b0 b1 b2 b3 b4 b5 b6 b7 b8 b9 b10 b11 bf
    have hz := setRp_is r1 ao n c lo ln lc hxR4
    have hzg := setRp_grown w4 w.heap.size r1 ao n c lo ln lc
    refine bodyPost_ret (RpB.res rfl _ rfl hz) rfl ?_
    exact ⟨_, _, _, _, _, _, _, by rw [HE.out]; rfl, fun q => absurd (by rw [← HE.out]; exact q) H0.out, grown_above hG4 hzg (Nat.le_refl _)⟩
  replace h1 := Classical.not_not.1 h1
  have hh := HTE.out
  rw [if_neg (by simpa using h1)] at hh
  clear HTE
  have HTE : Hid (TE = if ¬ lastE k bs (rpG r1) Hd.2 = 0 then lastE k bs (rpG r1) Hd.2 else rpJE r2) := hh
  clear hh
  rw [h1]
  clear h1
  obtain ⟨⟨b0, b1, b2, b3, b4, b5, b6, b7, b8, b9, b10, b11⟩, bf⟩ := hxB4.c
  go_wp2_with fail
  clear b0 b1 b2 b3 b4 b5 b6 b7 b8 b9 b10 b11 bf
  refine (replyBody_new r1 ao n c lo ln lc _ (Lies.owned hO4) (CLies.owned hP4) HLN.out).mono ?_
  rintro e w5 ⟨fo5, m5, k5, rfl, hF5, hb5, hn5⟩
  have hR5 := hR4.kept hb5
  have hxR5 := hxR4.below hb5
  have hxB5 := hxB4.below hb5
  have hO5 := hO4.kept (row := none) ⟨hb5.os, hb5.tape, hb5.output, hb5.size, fun i hi _ => hb5.block i hi⟩ (nb _)
  have hP5 := hP4.kept (row := none) ⟨hb5.os, hb5.tape, hb5.output, hb5.size, fun i hi _ => hb5.block i hi⟩ (nb _)
  have hG5 : w.grownBy w5 (some rb) := grown_trans hG4 ⟨hb5.os, hb5.tape, hb5.output, hb5.size, fun i hi _ => hb5.block i hi⟩
  have hs5 := hb5.size
  have hm5 : m5 ≤ 8 := by have q1 := hF5.hlen; have q2 := rpG_len r1; unfold rpG at q2; omega
  clear hR4 hxR4 hxB4 hO4 hP4 hG4 hb5
  go_wp2_with fail
  refine (takeLast_any (rpG r1) fo5 m5 k5 w.heap.size _ hR5 (by omega) (by omega) hF5 (fun ad had => by have := hn5 ad had; omega) hvd (by omega)).mono ?_
  rintro e w6 ⟨to6, m6, k6, rfl, hL6, hg6⟩
  have hxR6 := hxR5.row hg6 (by omega)
  have hxB6 := hxB5.row hg6 (by omega)
  have hO6 := own_grown hO5 hg6 hrb
  have hP6 := own_grown hP5 hg6 hrb
  have hG6 := grown_trans hG5 hg6
  have hs6 := hg6.size
  clear hR5 hxR5 hxB5 hO5 hP5 hG5 hg6 hF5 hn5
  by_cases h2 : ¬ lastE k bs (rpG r1) Hd.2 = 0
  · have HE : Hid (TE = lastE k bs (rpG r1) Hd.2) := by have q := HTE.out; rw [if_pos h2] at q; exact q
    have hne : (lastE k bs (rpG r1) Hd.2 != 0) = true := by simpa using h2
    have H0 : Hid (¬ lastE k bs (rpG r1) Hd.2 = 0) := h2
    obtain ⟨⟨a0, a1, a2, a3, a4, a5, a6, a7, a8, a9, a10, a11⟩, af⟩ := hxR6.c
    obtain ⟨⟨b0, b1, b2, b3, b4, b5, b6, b7, b8, b9, b10, b11⟩, bf⟩ := hxB6.c
    clear h2 hvd hL6
    go_wp2
    clear a0 a1 a2 a3 a4 a5 a6 a7 a8 a9 a10 a11 af b0 b1 b2 b3 b4 b5 b6 b7 b8 b9 b10 b11 bf
    have hz := setRp_is r1 ao n c lo ln lc hxR6
    have hzg := setRp_grown w6 w.heap.size r1 ao n c lo ln lc
    refine bodyPost_ret (RpB.res rfl _ rfl hz) rfl ?_
    exact ⟨_, _, _, _, _, _, _, by rw [HE.out]; rfl, fun q => absurd (by rw [← HE.out]; exact q) H0.out, grown_above hG6 hzg (Nat.le_refl _)⟩
  replace h2 := Classical.not_not.1 h2
  obtain ⟨hm6, hT6, hn6⟩ := hL6 h2
  subst hm6
  have hh := HTE.out
  rw [if_neg (by simpa using h2)] at hh
  clear HTE hL6
  have HTE : Hid (TE = rpJE r2) := hh
  clear hh
  rw [h2]
  clear h2
  go_wp2_with fail
  refine (placeInReply_any r1 ao n c lo ln lc (w.heap.size + 1) w.heap.size (takeL k bs (rpG r1) Hd.2).1 to6 m6 k6 _ hxB6 hO6 hP6 HLN.out hT6 (fun ad had => by have := hn6 ad had; omega) (by omega)).mono ?_
  rintro e w7 ⟨rfl, ⟨ao7, n7, c7, lo7, ln7, lc7, hxB7, hO7, hP7, hl7⟩, hg7⟩
  have h2e := H2.out
  rw [h2e] at hxB7 hO7 hP7 hl7
  clear h2e
  have HLN7 : Hid (r2.list.length = ln7) := hl7
  clear hl7
  have hxR7 := hxR6.row hg7 (by omega)
  have hG7 := grown_above hG6 hg7 (by omega)
  have hs7 := hg7.size
  clear hxR6 hxB6 hO6 hP6 hG6 hg7 hT6 hn6
  go_wp2_with fail
  have hO7d : w7.drew.ownsRow w.heap.size 5 1 (.slice ao7 n7 c7) n7 (r2.data.map (Value.int .u8)) := hO7
  have hP7d : w7.drew.ownsRow w.heap.size 86 3 (.slice lo7 ln7 lc7) ln7 (entCells r2.list) := hP7
  have hB7 : RpBox w7.drew (w.heap.size + 1) r2 ao7 n7 c7 lo7 ln7 lc7 := hxB7.c.1
  go_region_held3 (fun w' => w'.cell? ⟨(w.heap.size + 1), 0, none⟩ = some (.int .i64 r2.client) ∧ w'.cell? ⟨(w.heap.size + 1), 1, none⟩ = some (.int .i64 r2.seq) ∧ w'.cell? ⟨(w.heap.size + 1), 2, none⟩ = some (.int .i64 r2.epoch) ∧ w'.cell? ⟨(w.heap.size + 1), 3, none⟩ = some (.int .i64 r2.op) ∧ w'.cell? ⟨(w.heap.size + 1), 4, none⟩ = some (.int .i64 r2.status) ∧ w'.cell? ⟨(w.heap.size + 1), 5, none⟩ = some (.int .i64 r2.ai) ∧ w'.cell? ⟨(w.heap.size + 1), 6, none⟩ = some (.int .i64 r2.ak) ∧ w'.cell? ⟨(w.heap.size + 1), 7, none⟩ = some (.int .i64 r2.az) ∧ w'.cell? ⟨(w.heap.size + 1), 8, none⟩ = some (.int .i64 r2.ac) ∧ w'.cell? ⟨(w.heap.size + 1), 9, none⟩ = some (.slice ao7 n7 c7) ∧ w'.cell? ⟨(w.heap.size + 1), 10, none⟩ = some (.slice lo7 ln7 lc7) ∧ w'.cell? ⟨(w.heap.size + 1), 11, none⟩ = some (.bool r2.more))
    (first | with_reducible exact hB7 | with_reducible exact hB8 | with_reducible exact hB9)
    (first
      | (go_at_call 44; refine (judgeReplyBody_any r2 ao7 n7 c7 lo7 ln7 lc7 _ (Lies.owned hO7d) (CLies.owned hP7d) HLN7.out).mono ?_; rintro e w8 ⟨rfl, hb8⟩; have hxR8 : RpB w8 w.heap.size rp0 none 0 0 none 0 0 := RpB.below (w := w7.drew) hxR7 hb8; obtain ⟨⟨a0, a1, a2, a3, a4, a5, a6, a7, a8, a9, a10, a11⟩, af⟩ := hxR8.c; have hxB8 : RpB w8 (w.heap.size + 1) r2 ao7 n7 c7 lo7 ln7 lc7 := RpB.below (w := w7.drew) hxB7 hb8; have hB8 := hxB8.c.1; have hB9 := (hxB8.row (setRp_grown w8 w.heap.size r2 ao7 n7 c7 lo7 ln7 lc7) (by omega)).c.1))
  have hz := setRp_is r2 ao7 n7 c7 lo7 ln7 lc7 hxR8
  have hzg := setRp_grown w8 w.heap.size r2 ao7 n7 c7 lo7 ln7 lc7
  have hG8 : w.grownBy w8 (some rb) := grown_trans (grown_trans hG7 (grown_drew _ _)) ⟨hb8.os, hb8.tape, hb8.output, hb8.size, fun i hi _ => hb8.block i hi⟩
  have hO8 := own_other (T := 30) (hO7d.kept (row := none) ⟨hb8.os, hb8.tape, hb8.output, hb8.size, fun i hi _ => hb8.block i hi⟩ (nb _)) hzg ⟨_, hxR8⟩ (by decide)
  have hP8 := own_other (T := 30) (hP7d.kept (row := none) ⟨hb8.os, hb8.tape, hb8.output, hb8.size, fun i hi _ => hb8.block i hi⟩ (nb _)) hzg ⟨_, hxR8⟩ (by decide)
  clear a0 a1 a2 a3 a4 a5 a6 a7 a8 a9 a10 a11 af hB7 hB8 hB9
  go_wp2
  refine bodyPost_ret (RpB.res rfl _ rfl hz) rfl ?_
  exact ⟨r2, ao7, n7, c7, lo7, ln7, lc7, by rw [HTE.out]; rfl, fun _ => ⟨rfl, hO8, hP8, HLN7.out⟩, grown_above hG8 hzg (Nat.le_refl _)⟩

theorem takeReply_any {rb g k : Nat} {bs : List Int} {er : Nat → Addr} (w : World) (h : Rd w rb g k bs er (0, 0)) :
    Calls Tryz.prog 72 #[.pointer (some ⟨rb, 0, none⟩)] w fun e w' => ∃ (r : Rep) (ao : Option Addr) (n c : Nat) (lo : Option Addr) (ln lc : Nat), e = .returned (.tuple #[rpV r ao n c lo ln lc, .int .i64 (rpTE k bs)]) ∧ (rpTE k bs = 0 → r = rp2 k bs ∧ w'.ownsRow w.heap.size 5 1 (.slice ao n c) n (r.data.map (Value.int .u8)) ∧ w'.ownsRow w.heap.size 86 3 (.slice lo ln lc) ln (entCells r.list) ∧ r.list.length = ln) ∧ w.grownBy w' (some rb) :=
  takeReply_core w h _ _ _ _ rfl rfl rfl rfl (rpG_void k bs) trivial
end Go.Proofs.YtdkcplndplhblaaGreatDoor

/- Decode by its contract. -/
namespace Go.Proofs.YtdkcplndplhblaaGreatDoor
open Go.RowKit
set_option maxRecDepth 100000

/-- DecodeReply's error. -/
def rpDE (bs : List Int) : Int := if ¬ openE [65, 78, 82, 49] bs.length bs = 0 then openE [65, 78, 82, 49] bs.length bs else rpTE (bs.length - 12) ((bs.drop 4).take (bs.length - 12))
/-- DecodeReply's message. -/
def rpD (bs : List Int) : Rep := if rpDE bs = 0 then rp2 (bs.length - 12) ((bs.drop 4).take (bs.length - 12)) else rp0

set_option maxHeartbeats 8000000 in
theorem decodeReply_core (ao : Option Addr) (m c : Nat) (bs : List Int) (er : Nat → Addr) (w : World) (hL : Lies w ao m c bs) (hby : Bys bs) (hE : Errs w er) (E1 E2 E : Int) (D R : Rep) (k : Nat) (cs : List Int) (HE1 : Hid (openE [65, 78, 82, 49] m bs = E1)) (HE2 : Hid (rpTE k cs = E2)) (HD : Hid (rp2 k cs = D)) (HK : Hid (m - 12 = k)) (HC : Hid ((bs.drop 4).take (m - 12) = cs)) (HEE : Hid (E = if ¬ E1 = 0 then E1 else E2)) (HRR : Hid (R = if E = 0 then D else rp0)) (_hpl : True) :
    Calls Tryz.prog 30 #[.slice ao m c] w fun e w' => ∃ (r : Rep) (ao : Option Addr) (n c : Nat) (lo : Option Addr) (ln lc : Nat), e = .returned (.tuple #[rpV r ao n c lo ln lc, .int .i64 E]) ∧ r = R ∧ w'.ownsRow w.heap.size 5 1 (.slice ao n c) n (r.data.map (Value.int .u8)) ∧ w'.ownsRow w.heap.size 86 3 (.slice lo ln lc) ln (entCells r.list) ∧ r.list.length = ln ∧ Below w.heap.size w w' := by
  have e1 : nums ⟨#[65, 78, 82, 49]⟩ = [65, 78, 82, 49] := by decide
  have hO := open_any ⟨#[65, 78, 82, 49]⟩ ao m c bs er (w.alloc (.cells #[.int .i64 0, .int .i64 0, .int .i64 0, .int .i64 0, .int .i64 0, .int .i64 0, .int .i64 0, .int .i64 0, .int .i64 0, .slice none 0 0, .slice none 0 0, .bool false] 30)) rfl (hL.boxed _) hby (hE.alloc _)
  rw [e1] at hO
  have hxR : RpB (w.alloc (.cells #[.int .i64 0, .int .i64 0, .int .i64 0, .int .i64 0, .int .i64 0, .int .i64 0, .int .i64 0, .int .i64 0, .int .i64 0, .slice none 0 0, .slice none 0 0, .bool false] 30)) w.heap.size rp0 none 0 0 none 0 0 := heap_alloc_new w _
  have hb0 := newBox w (.cells #[.int .i64 0, .int .i64 0, .int .i64 0, .int .i64 0, .int .i64 0, .int .i64 0, .int .i64 0, .int .i64 0, .int .i64 0, .slice none 0 0, .slice none 0 0, .bool false] 30)
  have hs0 : (w.alloc (.cells #[.int .i64 0, .int .i64 0, .int .i64 0, .int .i64 0, .int .i64 0, .int .i64 0, .int .i64 0, .int .i64 0, .int .i64 0, .slice none 0 0, .slice none 0 0, .bool false] 30)).heap.size = w.heap.size + 1 := by simp
  clear e1
  go_enter Tryz.func30, Tryz.ntmps30
  go_wp2_with fail
  generalize w.alloc (.cells #[.int .i64 0, .int .i64 0, .int .i64 0, .int .i64 0, .int .i64 0, .int .i64 0, .int .i64 0, .int .i64 0, .int .i64 0, .slice none 0 0, .slice none 0 0, .bool false] 30) = w0 at *
  refine hO.mono ?_
  rintro e w1 (⟨hne, rfl, hb1⟩ | ⟨h0, rb, g, rfl, hR1, hrb, hb1⟩)
  · have h1e := HE1.out
    rw [h1e] at hne ⊢
    have hneb : (E1 != 0) = true := by simpa using hne
    have HN : Hid (¬ E1 = 0) := hne
    have hxR1 := hxR.below hb1
    have hq1 := hb0.trans (hb1.mono hb0.size)
    obtain ⟨⟨a0, a1, a2, a3, a4, a5, a6, a7, a8, a9, a10, a11⟩, af⟩ := hxR1.c
    clear hO hne h1e
    go_wp2
    clear a0 a1 a2 a3 a4 a5 a6 a7 a8 a9 a10 a11 af
    have hz := setRp_is rp0 none 0 0 none 0 0 hxR1
    have hzg := setRp_grown w1 w.heap.size rp0 none 0 0 none 0 0
    refine bodyPost_ret (RpB.res rfl _ rfl hz) rfl ?_
    have h2 := HN.out
    have he := HEE.out
    rw [if_pos h2] at he
    have hr := HRR.out
    rw [he, if_neg h2] at hr
    refine ⟨rp0, none, 0, 0, none, 0, 0, by rw [he]; rfl, hr.symm, World.ownsRow_nil _ _ _ _, World.ownsRow_nil _ _ _ _, rfl, hq1.grown hzg hq1.size (fun k hk => by cases hk; exact Nat.le_refl _)⟩
  · have h1e := HE1.out
    rw [h1e] at h0
    have hk := HK.out
    have hc := HC.out
    rw [hc, hk] at hR1
    clear h1e hk hc
    have H0 : Hid (E1 = 0) := h0
    have hxR1 := hxR.below hb1
    have hq1 := hb0.trans (hb1.mono hb0.size)
    have hs1 := hb1.size
    clear hO h0 hL
    go_wp2_with fail
    refine (takeReply_any w1 hR1).mono ?_
    rintro e w2 ⟨r, ao7, n7, c7, lo7, ln7, lc7, rfl, hok, hg2⟩
    have h2e := HE2.out
    have hde := HD.out
    rw [h2e] at hok ⊢
    rw [hde] at hok
    clear h2e hde
    have hxR2 := hxR1.row hg2 (by omega)
    have hq2 : Below w.heap.size w w2 := hq1.grown hg2 hq1.size (fun k hk => by cases hk; omega)
    have hxR2 := hxR2.below (newBox w2 (.cells #[.int .i64 r.client, .int .i64 r.seq, .int .i64 r.epoch, .int .i64 r.op, .int .i64 r.status, .int .i64 r.ai, .int .i64 r.ak, .int .i64 r.az, .int .i64 r.ac, .slice ao7 n7 c7, .slice lo7 ln7 lc7, .bool r.more] 30))
    have hq2 := hq2.trans ((newBox w2 (.cells #[.int .i64 r.client, .int .i64 r.seq, .int .i64 r.epoch, .int .i64 r.op, .int .i64 r.status, .int .i64 r.ai, .int .i64 r.ak, .int .i64 r.az, .int .i64 r.ac, .slice ao7 n7 c7, .slice lo7 ln7 lc7, .bool r.more] 30)).mono hq2.size)
    obtain ⟨⟨a0, a1, a2, a3, a4, a5, a6, a7, a8, a9, a10, a11⟩, af⟩ := hxR2.c
    clear hxR1 hR1
    by_cases h2 : ¬ E2 = 0
    · have hneb : (E2 != 0) = true := by simpa using h2
      have HN : Hid (¬ E2 = 0) := h2
      clear h2 hok
      go_wp2
      clear a0 a1 a2 a3 a4 a5 a6 a7 a8 a9 a10 a11 af
      have hz := setRp_is rp0 none 0 0 none 0 0 hxR2
      have hzg := setRp_grown (w2.alloc (.cells #[.int .i64 r.client, .int .i64 r.seq, .int .i64 r.epoch, .int .i64 r.op, .int .i64 r.status, .int .i64 r.ai, .int .i64 r.ak, .int .i64 r.az, .int .i64 r.ac, .slice ao7 n7 c7, .slice lo7 ln7 lc7, .bool r.more] 30)) w.heap.size rp0 none 0 0 none 0 0
      refine bodyPost_ret (RpB.res rfl _ rfl hz) rfl ?_
      have h2 := HN.out
      have h0 := H0.out
      have he := HEE.out
      rw [if_neg (by simpa using h0)] at he
      have hr := HRR.out
      rw [he, if_neg h2] at hr
      refine ⟨rp0, none, 0, 0, none, 0, 0, by rw [he]; rfl, hr.symm, World.ownsRow_nil _ _ _ _, World.ownsRow_nil _ _ _ _, rfl, hq2.grown hzg hq2.size (fun k hk => by cases hk; exact Nat.le_refl _)⟩
    · replace h2 := Classical.not_not.1 h2
      obtain ⟨hrr, hO2, hP2, hl2⟩ := hok h2
      subst hrr
      rw [h2]
      have HN : Hid (E2 = 0) := h2
      have HLN : Hid (r.list.length = ln7) := hl2
      clear hl2
      clear h2 hok
      go_wp2_with fail
      go_wp2
      clear a0 a1 a2 a3 a4 a5 a6 a7 a8 a9 a10 a11 af
      have hz := setRp_is r ao7 n7 c7 lo7 ln7 lc7 hxR2
      have hzg := setRp_grown (w2.alloc (.cells #[.int .i64 r.client, .int .i64 r.seq, .int .i64 r.epoch, .int .i64 r.op, .int .i64 r.status, .int .i64 r.ai, .int .i64 r.ak, .int .i64 r.az, .int .i64 r.ac, .slice ao7 n7 c7, .slice lo7 ln7 lc7, .bool r.more] 30)) w.heap.size r ao7 n7 c7 lo7 ln7 lc7
      refine bodyPost_ret (RpB.res rfl _ rfl hz) rfl ?_
      have h2 := HN.out
      have h0 := H0.out
      have hO3 := own_other (T := 30) ((ownsRow_mono hO2 (show w.heap.size ≤ w1.heap.size by omega)).alloc _) hzg ⟨_, hxR2⟩ (by decide)
      have hP3 := own_other (T := 30) ((ownsRow_mono hP2 (show w.heap.size ≤ w1.heap.size by omega)).alloc _) hzg ⟨_, hxR2⟩ (by decide)
      have he := HEE.out
      rw [if_neg (by simpa using h0)] at he
      have hr := HRR.out
      rw [he, if_pos h2] at hr
      refine ⟨r, ao7, n7, c7, lo7, ln7, lc7, by rw [he, h2]; rfl, hr.symm, hO3, hP3, HLN.out, hq2.grown hzg hq2.size (fun k hk => by cases hk; exact Nat.le_refl _)⟩

theorem decodeReply_any (ao : Option Addr) (m c : Nat) (bs : List Int) (er : Nat → Addr) (w : World) (hL : Lies w ao m c bs) (hm : m ≤ 140737488355328) (hby : Bys bs) (hE : Errs w er) :
    Calls Tryz.prog 30 #[.slice ao m c] w fun e w' => ∃ (r : Rep) (ao : Option Addr) (n c : Nat) (lo : Option Addr) (ln lc : Nat), e = .returned (.tuple #[rpV r ao n c lo ln lc, .int .i64 (rpDE bs)]) ∧ r = rpD bs ∧ w'.ownsRow w.heap.size 5 1 (.slice ao n c) n (r.data.map (Value.int .u8)) ∧ w'.ownsRow w.heap.size 86 3 (.slice lo ln lc) ln (entCells r.list) ∧ r.list.length = ln ∧ Below w.heap.size w w' := by
  have hl := hL.hlen
  subst hl
  refine (decodeReply_core ao _ c bs er w hL hby hE _ _ _ _ _ _ _ rfl rfl rfl rfl rfl rfl rfl trivial).mono ?_
  · intro e w' h
    exact h

end Go.Proofs.YtdkcplndplhblaaGreatDoor

/- annexref3.Check: it answers as checkN says, too. -/
namespace Go.Proofs.YtdkcplndplhblaaGreatDoor.N3
open Go.RowKit
set_option maxRecDepth 100000

theorem byte_at {s : ByteArray} {k : Nat} (hk : k < s.size) (h : (s[k]'hk).toNat = 47 ∨ (s[k]'hk).toNat = 0) : plain (bs s) = false := by
  have hk' : k < (bs s).length := by rw [← size_bs]; exact hk
  have he : (bs s)[k] = s[k]'hk := by simp [ByteArray.getElem_eq_getElem_data]
  have hm : s[k]'hk ∈ bs s := by rw [← he]; exact List.getElem_mem hk'
  rcases Bool.eq_false_or_eq_true (plain (bs s)) with ho | ho
  · simp only [plain, List.all_eq_true] at ho
    have := ho _ hm
    simp only [Bool.and_eq_true, bne_iff_ne, ne_eq] at this
    rcases h with h | h
    · exact absurd (UInt8.toNat_inj.1 h) this.1
    · exact absurd (UInt8.toNat_inj.1 h) this.2
  · exact ho
theorem PlainTo.next {s : ByteArray} {k : Nat} (h : PlainTo s k) (hk : k < s.size) (h1 : ¬ (s[k]'hk).toNat = 47) (h2 : ¬ (s[k]'hk).toNat = 0) : PlainTo s (k + 1) := by
  intro j hj hlt
  by_cases hl : j < k
  · exact h j hj hl
  · obtain rfl : j = k := by omega
    exact ⟨h1, h2⟩

set_option maxHeartbeats 1000000 in
theorem rcheck_any (s : ByteArray) (w : World) :
    Calls Tryz.prog 119 #[.string s] w fun e w' => e = .returned (.int .i64 (checkN (bs s))) ∧ w' = w := by
  go_enter Tryz.func119, Tryz.ntmps119
  by_cases h1 : s.toList = []
  · have hsz : s.size = 0 := by rw [ByteArray.toList_eq] at h1; rw [size_bs, show bs s = [] from h1]; rfl
    have h1i : (s.size : Int) < 1 := by omega
    go_wp2
    go_ret
    exact ⟨by rw [check_bad (Or.inl h1)]; rfl, rfl⟩
  have hsz : 0 < s.size := by
    rw [ByteArray.toList_eq] at h1
    rw [size_bs]; exact List.length_pos_iff.2 h1
  have h1i : ¬ (s.size : Int) < 1 := by omega
  by_cases h2 : (23 : Int) < s.size
  · go_wp2
    go_ret
    exact ⟨by rw [check_bad (Or.inr (Or.inl h2))]; rfl, rfl⟩
  have h2' : (s.size : Int) ≤ 23 := by omega
  by_cases h3 : s.toList = [46]
  · go_wp2
    go_ret
    exact ⟨by rw [check_bad (Or.inr (Or.inr (Or.inl h3)))]; rfl, rfl⟩
  by_cases h4 : s.toList = [46, 46]
  · go_wp2
    go_ret
    exact ⟨by rw [check_bad (Or.inr (Or.inr (Or.inr h4)))]; rfl, rfl⟩
  have i3 : (s.toList == [46]) = false := by simpa using h3
  have i4 : (s.toList == [46, 46]) = false := by simpa using h4
  go_wp2
  go_loopw [3] (fun i wr => ∃ k : Nat, k ≤ s.size ∧ i = .int .i64 k ∧ wr = w ∧ PlainTo s k) (fun i _ => s.size - (intOf i).toNat)
  case atStart => exact ⟨0, Nat.zero_le _, rfl, rfl, fun k _ h => by omega⟩
  case round =>
    obtain ⟨k, hk, rfl, rfl, hpl⟩ := hrel
    have HP : Hid (PlainTo s k) := ⟨hpl⟩
    clear hpl
    by_cases hlt : k < s.size
    · by_cases e1 : (s[k]'hlt).toNat = 47
      · have hck := byte_at hlt (Or.inl e1)
        go_wp2
        go_ret
        exact ⟨by rw [check_plain h1 h2' h3 h4, hck]; rfl, rfl⟩
      by_cases e2 : (s[k]'hlt).toNat = 0
      · have hck := byte_at hlt (Or.inr e2)
        go_wp2
        go_ret
        exact ⟨by rw [check_plain h1 h2' h3 h4, hck]; rfl, rfl⟩
      · have e1' : (((s[k]'hlt).toNat : Int) == 47) = false := by simp; omega
        have e2' : (((s[k]'hlt).toNat : Int) == 0) = false := by simp; omega
        go_wp2
        go_roundw
        case rel => exact ⟨k + 1, by omega, by go_num, by simp, HP.out.next hlt e1 e2⟩
        case measure => simp [intOf]; omega
    · go_wp2
      go_ret
      exact ⟨by rw [check_plain h1 h2' h3 h4, HP.out.all hlt]; rfl, rfl⟩
end Go.Proofs.YtdkcplndplhblaaGreatDoor.N3

/- annexref3.judge: are these names, and not too many? -/
namespace Go.Proofs.YtdkcplndplhblaaGreatDoor.N3
open Go.RowKit
set_option maxRecDepth 100000

set_option maxHeartbeats 1000000 in
theorem rjudge_any (ao : Option Addr) (n c : Nat) (xs : List ByteArray) (w : World) (hn : n ≤ 200000000000000) (hA : Lies w ao n c xs) :
    Calls Tryz.prog 118 #[.slice ao n c] w fun e w' => e = .returned (.int .i64 (judge (xs.map bs))) ∧ w' = w := by
  have hni : (n : Int) ≤ 200000000000000 := by omega
  obtain rfl := hA.hlen
  go_enter Tryz.func118, Tryz.ntmps118
  by_cases h16 : 16 < xs.length
  · have h16' : (16 : Int) < xs.length := by omega
    have hj : judge (xs.map bs) = 33 := by unfold judge; rw [if_pos (by simpa using h16)]
    rw [hj]
    go_wp2
    go_ret
    exact ⟨rfl, rfl⟩
  · have h16' : ¬ (16 : Int) < xs.length := by omega
    have hall := allN_judge (xs := xs) (by omega)
    rw [← hall]
    have hlx : xs.length ≤ 16 := by omega
    clear hall
    go_wp2
    go_loopw [3] (fun i wr => ∃ k : Nat, k ≤ xs.length ∧ i = .int .i64 k ∧ wr = w ∧ (xs.take k).all (fun s => okName (bs s)) = true) (fun i _ => xs.length - (intOf i).toNat)
    case atStart => exact ⟨0, Nat.zero_le _, rfl, rfl, by simp⟩
    case round =>
      obtain ⟨k, hk, rfl, rfl, htk⟩ := hrel
      have HT : Hid ((xs.take k).all (fun s => okName (bs s)) = true) := ⟨htk⟩
      clear htk
      by_cases hlt : k < xs.length
      · obtain ⟨b, o, rfl, hbw, hcell⟩ := hA.at (by omega)
        have ga := hcell k hlt
        clear hcell
        have hok : checkN (bs xs[k]) = 0 ∨ checkN (bs xs[k]) = 31 := by unfold checkN; split <;> simp
        go_wp2_with fail
        refine (rcheck_any _ _).mono ?_
        rintro e w2 ⟨rfl, rfl⟩
        rcases hok with hok | hok
        · rw [hok]
          go_wp2
          go_roundw
          case rel => exact ⟨k + 1, by omega, by go_num, by simp, all_step HT.out hlt hok⟩
          case measure => simp [intOf]; omega
        · rw [hok]
          go_wp2
          go_ret
          exact ⟨by rw [all_bad hlt hok]; rfl, rfl⟩
      · go_wp2
        go_ret
        refine ⟨?_, rfl⟩
        have := HT.out
        rw [List.take_of_length_le (by omega)] at this
        simp [allN, this]
end Go.Proofs.YtdkcplndplhblaaGreatDoor.N3

/- annexref3.parts: what stands behind each slash. -/
namespace Go.Proofs.YtdkcplndplhblaaGreatDoor.N3
open Go.RowKit
set_option maxRecDepth 100000

/-- What is held in a round: at place k, behind place f, these texts have been found. -/
def PIn (l : List UInt8) (k f : Nat) (ys : List ByteArray) : Prop :=
  (1 ≤ f ∧ f ≤ k ∧ k ≤ l.length ∧ ys.length + 1 ≤ f ∧ cuts l.tail = ys.map bs ++ cuts (l.drop f) ∧ (47 : UInt8) ∉ (l.drop f).take (k - f)) ∨ (k = l.length + 1 ∧ ys.length ≤ l.length ∧ cuts l.tail = ys.map bs)

theorem PIn.start {l : List UInt8} (h : 1 ≤ l.length) : PIn l 1 1 [] := Or.inl ⟨Nat.le_refl _, Nat.le_refl _, h, by simp, by simp, by simp⟩
theorem PIn.last {l : List UInt8} {f : Nat} {ys : List ByteArray} (h : PIn l l.length f ys) (x : ByteArray) (hx : bs x = (l.drop f).take (l.length - f)) (g : Nat) : PIn l (l.length + 1) g (ys ++ [x]) := by
  rcases h with ⟨h1, h2, h3, h4, h5, h6⟩ | ⟨h, _⟩
  · refine Or.inr ⟨rfl, by simp; omega, ?_⟩
    rw [h5, List.map_append]
    rw [List.take_of_length_le (by simp)] at h6 hx
    rw [cuts_free h6, ← hx]
    rfl
  · omega
theorem PIn.cut {l : List UInt8} {k f : Nat} {ys : List ByteArray} (h : PIn l k f ys) (hk : k < l.length) (h47 : l[k] = 47) (x : ByteArray) (hx : bs x = (l.drop f).take (k - f)) : PIn l (k + 1) (k + 1) (ys ++ [x]) := by
  rcases h with ⟨h1, h2, h3, h4, h5, h6⟩ | ⟨h, _⟩
  · refine Or.inl ⟨by omega, Nat.le_refl _, hk, by simp; omega, ?_, by simp⟩
    have e : l.drop f = (l.drop f).take (k - f) ++ 47 :: l.drop (k + 1) := by
      conv => lhs; rw [← List.take_append_drop (k - f) (l.drop f)]
      rw [List.drop_drop, show f + (k - f) = k by omega, List.drop_eq_getElem_cons hk, h47]
    rw [h5, e, cuts_slash _ h6, List.map_append, ← hx]
    simp
  · omega
theorem PIn.on {l : List UInt8} {k f : Nat} {ys : List ByteArray} (h : PIn l k f ys) (hk : k < l.length) (h47 : ¬ l[k] = 47) : PIn l (k + 1) f ys := by
  rcases h with ⟨h1, h2, h3, h4, h5, h6⟩ | ⟨h, _⟩
  · refine Or.inl ⟨h1, by omega, hk, h4, h5, ?_⟩
    have hj : k - f < (l.drop f).length := by simp; omega
    rw [show k + 1 - f = (k - f) + 1 by omega, List.take_succ_eq_append_getElem hj]
    intro hm
    rcases List.mem_append.1 hm with hm | hm
    · exact h6 hm
    · have := List.mem_singleton.1 hm
      rw [List.getElem_drop] at this
      exact h47 (by rw [this]; congr 1; omega)
  · omega
theorem PIn.done {l : List UInt8} {f : Nat} {ys : List ByteArray} {k : Nat} (h : PIn l k f ys) (hk : ¬ k ≤ l.length) : cuts l.tail = ys.map bs := by
  rcases h with ⟨_, _, h3, _⟩ | ⟨_, _, h⟩
  · omega
  · exact h
theorem PIn.room {l : List UInt8} {f : Nat} {ys : List ByteArray} {k : Nat} (h : PIn l k f ys) : ys.length ≤ l.length := by
  rcases h with ⟨_, _, h3, _⟩ | ⟨_, h, _⟩
  · omega
  · exact h
theorem PIn.from_le {l : List UInt8} {f : Nat} {ys : List ByteArray} {k : Nat} (h : PIn l k f ys) (hk : k ≤ l.length) : f ≤ k := by
  rcases h with ⟨_, h, _⟩ | ⟨_, _⟩
  · exact h
  · omega

set_option maxHeartbeats 1000000 in
theorem rparts_any (p : ByteArray) (w : World) (hs : p.size ≤ 1048576) (hp : 1 ≤ p.size) :
    Calls Tryz.prog 117 #[.string p] w fun e w' => ∃ ao n c, e = .returned (.slice ao n c) ∧ w'.ownsRow w.heap.size 9 1 (.slice ao n c) n ((cutsB (bs p).tail).map Value.string) ∧ Below w.heap.size w w' := by
  obtain ⟨i0, hi, hz0, hz1, hz2⟩ := info_parts Tryz.info9
  have hsi : (p.size : Int) ≤ 1048576 := by omega
  go_enter Tryz.func117, Tryz.ntmps117
  go_wp2
  go_loopw [3, 4, 5] (fun l f i wr => ∃ (k f0 : Nat) (ys : List ByteArray), k ≤ p.size + 1 ∧ f = .int .i64 f0 ∧ i = .int .i64 k ∧ wr.ownsRow w.heap.size 9 1 l ys.length (ys.map Value.string) ∧ Below w.heap.size w wr ∧ PIn (bs p) k f0 ys) (fun _ _ i _ => p.size + 1 - (intOf i).toNat)
  case atStart => exact ⟨1, 1, [], by omega, rfl, rfl, ⟨rfl, Or.inl ⟨rfl, rfl⟩⟩, Below.refl _ _, PIn.start (by rw [← size_bs]; exact hp)⟩
  case round =>
    obtain ⟨k, f, ys, hk, rfl, rfl, hown, hbl, hin⟩ := hrel
    have HP : Hid (PIn (bs p) k f ys) := ⟨hin⟩
    have hroom := hin.room
    rw [← size_bs] at hroom
    clear hin
    obtain ⟨ao, c, rfl⟩ := own_len hown
    by_cases hle : k ≤ p.size
    · have hfk := HP.out.from_le (by rw [← size_bs]; exact hle)
      have hbytes : (bs p).length = p.size := (size_bs p).symm
      by_cases hlast : k = p.size
      · subst hlast
        have hx : bs (p.extract f p.size) = ((bs p).drop f).take ((bs p).length - f) := by rw [ext_bs, hbytes]
        go_wp2_with (at_builtin; refine wpList_append_own _ rfl (.tmp 22) (.tmp 27) 115 rfl w.heap.size 9 i0 (.string ⟨#[]⟩) 1 16 Tryz.underlying115 hi hz0 hz1 hz2 rfl (by decide) _ _ _ rfl (hown.alloc _) ⟨wr.heap.size, 0, none⟩ 1 1 [.string (p.extract f p.size)] rfl rfl (cell_one_new _ _ _) (by intro u hu; simp at hu; subst hu; rfl) (by unfold maxLen; omega) (by omega) (by have := hbl.size; simp; omega) ?_; intro v' w4 hown4 hgrow4 _)
        have hb4 : Below w.heap.size w w4 := (hbl.alloc hbl.size _).grown hgrow4 (by have := hbl.size; simp; omega) (own_block hown)
        go_wp2
        go_roundw
        case rel => exact ⟨p.size + 1, p.size + 1, ys ++ [p.extract f p.size], by omega, by go_num, by go_num, by simpa using hown4, hb4, by rw [← hbytes] at HP ⊢; exact HP.out.last _ hx _⟩
        case measure => simp [intOf]
      · have hlt : k < p.size := by omega
        have hlt' : k < (bs p).length := by omega
        have hlasti : ((k : Int) == (p.size : Int)) = false := by simp; omega
        have hget : (bs p)[k] = p[k]'hlt := by simp [ByteArray.getElem_eq_getElem_data]
        by_cases h47 : (p[k]'hlt).toNat = 47
        · have hx : bs (p.extract f k) = ((bs p).drop f).take (k - f) := ext_bs _ _ _
          have h47' : (bs p)[k] = 47 := by rw [hget]; exact UInt8.toNat_inj.1 h47
          go_wp2_with (at_builtin; refine wpList_append_own _ rfl (.tmp 22) (.tmp 27) 115 rfl w.heap.size 9 i0 (.string ⟨#[]⟩) 1 16 Tryz.underlying115 hi hz0 hz1 hz2 rfl (by decide) _ _ _ rfl (hown.alloc _) ⟨wr.heap.size, 0, none⟩ 1 1 [.string (p.extract f k)] rfl rfl (cell_one_new _ _ _) (by intro u hu; simp at hu; subst hu; rfl) (by unfold maxLen; omega) (by omega) (by have := hbl.size; simp; omega) ?_; intro v' w4 hown4 hgrow4 _)
          have hb4 : Below w.heap.size w w4 := (hbl.alloc hbl.size _).grown hgrow4 (by have := hbl.size; simp; omega) (own_block hown)
          go_wp2
          go_roundw
          case rel => exact ⟨k + 1, k + 1, ys ++ [p.extract f k], by omega, by go_num, by go_num, by simpa using hown4, hb4, HP.out.cut hlt' h47' _ hx⟩
          case measure => simp [intOf]; omega
        · have h47' : ¬ (bs p)[k] = 47 := by rw [hget]; intro e; exact h47 (by rw [e]; rfl)
          have h47i : (((p[k]'hlt).toNat : Int) == 47) = false := by simp; omega
          go_wp2
          go_roundw
          case rel => exact ⟨k + 1, f, ys, by omega, rfl, by go_num, hown, hbl, HP.out.on hlt' h47'⟩
          case measure => simp [intOf]; omega
    · have hd := HP.out.done (by rw [← size_bs]; exact hle)
      go_wp2
      go_ret
      have e : cutsB (bs p).tail = ys := by
        unfold cutsB
        rw [hd, List.map_map]
        conv => rhs; rw [← List.map_id ys]
        exact List.map_congr_left fun x _ => tx_bs x
      refine ⟨ao, ys.length, c, rfl, ?_, hbl⟩
      rw [e]
      exact hown
end Go.Proofs.YtdkcplndplhblaaGreatDoor.N3

/- annexref3.Split and annexref3.Join: as names.Split and names.Join answer. -/
namespace Go.Proofs.YtdkcplndplhblaaGreatDoor.N3
open Go.RowKit
set_option maxRecDepth 100000

theorem tx_bs_map (xs : List ByteArray) : (xs.map bs).map tx = xs := by
  rw [List.map_map]
  conv => rhs; rw [← List.map_id xs]
  exact List.map_congr_left fun x _ => tx_bs x

theorem cuts_len (l : List UInt8) : (cuts l).length ≤ l.length + 1 := by
  induction l with
  | nil => simp [cuts]
  | cons b r ih =>
    unfold cuts
    split
    · simp; omega
    · split
      · simp
      · rename_i h; rw [h] at ih; simp at ih ⊢; omega

set_option maxHeartbeats 1000000 in
theorem rsplit_any (p : ByteArray) (w : World) (hs : p.size ≤ 1048576) :
    Calls Tryz.prog 85 #[.string p] w fun e w' => SplitR w p e w' := by
  have hempty : w.ownsRow w.heap.size 9 1 (.slice none 0 0) 0 ((([] : List (List UInt8)).map tx).map Value.string) := ⟨rfl, Or.inl ⟨rfl, rfl⟩⟩
  go_enter Tryz.func85, Tryz.ntmps85
  by_cases h0 : p.toList = []
  · have hz : bs p = [] := by rw [ByteArray.toList_eq] at h0; exact h0
    have hE : splitE (bs p) = 32 := by rw [hz]; decide
    have hL := splitL_err (p := bs p) (by rw [hE]; decide)
    go_wp2
    go_ret2
    refine ⟨none, 0, 0, by rw [hE]; rfl, ?_, Below.refl _ _⟩
    rw [hL]
    exact hempty
  have hz : ¬ bs p = [] := by rw [ByteArray.toList_eq] at h0; exact h0
  have hpos : 0 < p.size := by rw [size_bs]; exact List.length_pos_iff.2 hz
  have hi0 : p.toList.isEmpty = false := by cases h : p.toList with | nil => exact absurd h h0 | cons => rfl
  have hhead : (bs p).head? = some (p[0]'hpos) := by
    have hl : 0 < (bs p).length := by rw [← size_bs]; exact hpos
    rw [List.head?_eq_getElem?, List.getElem?_eq_getElem hl]
    simp [ByteArray.getElem_eq_getElem_data]
  by_cases h47 : (p[0]'hpos).toNat = 47
  · have hh : (bs p).head? = some 47 := by rw [hhead, UInt8.toNat_inj.1 (show (p[0]'hpos).toNat = (47 : UInt8).toNat from h47)]
    by_cases hr : p.toList = [47]
    · have hr' : bs p = [47] := by rw [ByteArray.toList_eq] at hr; exact hr
      have hE : splitE (bs p) = 0 := by rw [hr']; decide
      have hL : splitL (bs p) = [] := by rw [hr']; decide
      go_wp2
      go_ret2
      refine ⟨none, 0, 0, by rw [hE]; rfl, ?_, Below.refl _ _⟩
      rw [hL]
      exact hempty
    · have hr' : ¬ bs p = [47] := by rw [ByteArray.toList_eq] at hr; exact hr
      have hri : (p.toList == [47]) = false := by simpa using hr
      have hE : splitE (bs p) = judge (cuts (bs p).tail) := by unfold splitE; rw [if_pos hh, if_neg hr']
      have hL : Hid (splitE (bs p) = 0 → splitL (bs p) = cuts (bs p).tail) := ⟨fun h => by unfold splitL; rw [if_pos ⟨h, hr'⟩]⟩
      have hLe : Hid (splitE (bs p) ≠ 0 → splitL (bs p) = []) := ⟨fun h => splitL_err h⟩
      have hcl : (cuts (bs p).tail).length ≤ 1048576 + 1 := by
        have := cuts_len (bs p).tail
        have h2 : (bs p).tail.length ≤ p.size := by rw [List.length_tail, ← size_bs]; omega
        omega
      go_wp2_with fail
      refine (rparts_any _ _ hs hpos).mono ?_
      rintro e w2 ⟨ao, n, c, rfl, hown, hb2⟩
      have hn : n ≤ 1048577 := by have := hown.1; simp [cutsB] at this; omega
      go_wp2_with fail
      refine (rjudge_any _ _ _ _ _ (by omega) (Lies.owned hown)).mono ?_
      rintro e w3 ⟨rfl, rfl⟩
      have hj : judge ((cutsB (bs p).tail).map bs) = splitE (bs p) := by unfold cutsB; rw [map_tx_bs, hE]
      rw [hj]
      by_cases hS : splitE (bs p) = 0
      · have hL1 := hL.out hS
        rw [hS]
        go_wp2
        go_ret2
        refine ⟨ao, n, c, by rw [hS]; rfl, ?_, hb2⟩
        rw [hL1]
        exact hown
      · have hL1 := hLe.out hS
        have hS' : (splitE (bs p) == 0) = false := by simpa using hS
        go_wp2
        go_ret2
        refine ⟨none, 0, 0, by rw [hE]; rfl, ?_, hb2⟩
        rw [hL1]
        exact ⟨rfl, Or.inl ⟨rfl, rfl⟩⟩
  · have hh : ¬ (bs p).head? = some 47 := by
      rw [hhead]; intro e
      exact h47 (by rw [Option.some.inj e]; rfl)
    have h47i : (((p[0]'hpos).toNat : Int) == 47) = false := by simp; omega
    have hE : splitE (bs p) = 32 := by unfold splitE; rw [if_neg hh]
    have hL := splitL_err (p := bs p) (by rw [hE]; decide)
    go_wp2
    go_ret2
    refine ⟨none, 0, 0, by rw [hE]; rfl, ?_, Below.refl _ _⟩
    rw [hL]
    exact hempty
end Go.Proofs.YtdkcplndplhblaaGreatDoor.N3

/- The document's own answers (annexref2: Step, More, Sum, Back) by their contracts. -/
namespace Go.Proofs.YtdkcplndplhblaaGreatDoor.S2
open Go.RowKit
set_option maxRecDepth 100000

set_option maxHeartbeats 400000 in
theorem rstep_any (h x : Int) (w : World) (hx : By x) :
    Calls Tryz.prog 143 #[.int .u64 h, .int .u8 x] w fun e w' => e = .returned (.int .u64 (stp h x)) ∧ w' = w := by
  have h1 := hx.1; have h2 := hx.2
  go_enter Tryz.func143, Tryz.ntmps143
  go_wp2
  go_ret
  exact ⟨rfl, rfl⟩

set_option maxHeartbeats 400000 in
theorem rmore_pos (h : Int) (b o c n : Nat) (bs : List Int) (w : World) (hn : n ≤ 9223372036854775807) (hl : bs.length = n) (hby : ∀ x ∈ bs, By x)
    (hc : ∀ t, t < n → w.cell? ⟨b, o + t, none⟩ = some (.int .u8 (bs.getD t 0))) :
    Calls Tryz.prog 126 #[.int .u64 h, .slice (some ⟨b, o, none⟩) n c] w fun e w' => e = .returned (.int .u64 (fwd h bs)) ∧ w' = w := by
  have hni : (n : Int) ≤ 9223372036854775807 := by omega
  go_enter Tryz.func126, Tryz.ntmps126
  go_wp2
  go_loopw [0, 5] (fun g i wr => ∃ k : Nat, k ≤ n ∧ i = .int .i64 k ∧ g = .int .u64 (fwd h (bs.take k)) ∧ wr = w) (fun _ i _ => n - (intOf i).toNat)
  case atStart => exact ⟨0, Nat.zero_le _, rfl, by simp [fwd], rfl⟩
  case round =>
    obtain ⟨k, hk, rfl, rfl, hwr⟩ := hrel
    subst wr
    by_cases hlt : k < n
    · have hck := hc k hlt
      have hx := by_getD hby (show k < bs.length by omega)
      have hs : fwd h (bs.take (k + 1)) = stp (fwd h (bs.take k)) (bs.getD k 0) := by
        rw [take_succ_getD bs (by omega), fwd_append]; rfl
      have HS : Hid _ := hs
      clear hs
      clear hc hby
      generalize fwd h (bs.take k) = g at *
      generalize bs.getD k 0 = x at *
      go_wp2_with (go_at_call 143; refine (rstep_any _ _ _ hx).mono ?_; rintro e w1 ⟨rfl, hw1⟩; subst w1)
      go_roundw
      case rel => exact ⟨k + 1, by omega, by go_num, by rw [HS.out], by trivial⟩
      case measure => simp [intOf]; omega
    · clear hc hby
      go_wp2
      go_ret
      rw [List.take_of_length_le (by omega)]
      exact ⟨rfl, rfl⟩

set_option maxHeartbeats 400000 in
theorem rmore_zero (h : Int) (ao : Option Addr) (c : Nat) (w : World) :
    Calls Tryz.prog 126 #[.int .u64 h, .slice ao 0 c] w fun e w' => e = .returned (.int .u64 h) ∧ w' = w := by
  go_enter Tryz.func126, Tryz.ntmps126
  go_wp2
  refine wp_loop_rounds 1 ?_
  rw [rounds_succ]
  go_wp2
  go_ret
  exact ⟨rfl, rfl⟩

theorem rmore_any (h : Int) (ao : Option Addr) (n c : Nat) (bs : List Int) (w : World) (hn : n ≤ 9223372036854775807) (hL : Lies w ao n c bs) (hby : ∀ x ∈ bs, By x) :
    Calls Tryz.prog 126 #[.int .u64 h, .slice ao n c] w fun e w' => e = .returned (.int .u64 (fwd h bs)) ∧ w' = w := by
  by_cases h0 : 0 < n
  · obtain ⟨b, o, rfl, hc⟩ := hL.at h0
    exact rmore_pos h b o c n bs w hn hL.hlen hby hc
  · obtain rfl : n = 0 := by omega
    obtain rfl := List.eq_nil_of_length_eq_zero hL.hlen
    exact rmore_zero h ao c w

set_option maxHeartbeats 400000 in
theorem rsum_any (ao : Option Addr) (n c : Nat) (bs : List Int) (w : World) (hn : n ≤ 9223372036854775807) (hL : Lies w ao n c bs) (hby : ∀ x ∈ bs, By x) :
    Calls Tryz.prog 98 #[.slice ao n c] w fun e w' => e = .returned (.int .u64 (fwd 14695981039346656037 bs)) ∧ w' = w := by
  go_enter Tryz.func98, Tryz.ntmps98
  go_wp2_with (go_at_call 126; refine (rmore_any _ ao n c bs _ hn hL hby).mono ?_; rintro e w1 ⟨rfl, hw1⟩; subst w1)
  go_ret
  exact ⟨rfl, rfl⟩

theorem und_is (h x : Int) : und h x = bits .xor .u64 (IntKind.u64.wrap (h * 14886173955864302971)) x := rfl
end Go.Proofs.YtdkcplndplhblaaGreatDoor.S2

/- The document's own answers at the two messages that every statement looks at first: the small functions. -/
namespace Go.Proofs.YtdkcplndplhblaaGreatDoor
open Go.RowKit
set_option maxRecDepth 100000

set_option maxHeartbeats 400000 in
theorem rwithin_any (x a b : Int) (w : World) : Calls Tryz.prog 84 #[.int .i64 x, .int .i64 a, .int .i64 b] w fun e w' => e = .returned (.bool (inB x a b)) ∧ w' = w := by
  unfold inB
  go_enter Tryz.func84, Tryz.ntmps84
  by_cases h1 : a ≤ x
  · by_cases h2 : x ≤ b
    · go_wp2
      go_ret
      exact ⟨by simp [h1, h2], rfl⟩
    · go_wp2
      go_ret
      exact ⟨by simp [h2], rfl⟩
  · go_wp2
    go_ret
    exact ⟨by simp; omega, rfl⟩
theorem nums_get (s : ByteArray) (k : Nat) (h : k < s.size) : (nums s)[k]? = some (((s[k]'h).toNat : Nat) : Int) := by
  have h2 : k < s.data.toList.length := by simpa using h
  simp only [nums, List.getElem?_map, List.getElem?_eq_getElem h2, Option.map_some]
  rfl
set_option maxHeartbeats 1000000 in
theorem rin_any (s : ByteArray) (c : Int) (w : World) (hs : s.size ≤ 100) : Calls Tryz.prog 68 #[.string s, .int .u8 c] w fun e w' => e = .returned (.bool (decide (c ∈ nums s))) ∧ w' = w := by
  have hsi : (s.size : Int) ≤ 100 := by omega
  go_enter Tryz.func68, Tryz.ntmps68
  go_wp2
  go_loopw [5] (fun i wr => ∃ k : Nat, k ≤ s.size ∧ i = .int .i64 k ∧ wr = w ∧ Hid (c ∉ (nums s).take k)) (fun i _ => s.size - (intOf i).toNat)
  case atStart => exact ⟨0, Nat.zero_le _, rfl, rfl, (by simp : c ∉ (nums s).take 0)⟩
  case round =>
    obtain ⟨k, hk, rfl, hwr, HC⟩ := hrel
    subst wr
    by_cases hlt : k < s.size
    · have hg := nums_get s k hlt
      have hkl : k < (nums s).length := by rw [nums_length]; exact hlt
      have hst : (nums s).take (k + 1) = (nums s).take k ++ [(((s[k]'hlt).toNat : Nat) : Int)] := by
        rw [List.take_succ_eq_append_getElem hkl]
        rw [List.getElem?_eq_getElem hkl] at hg
        rw [Option.some.inj hg]
      have hmem : (((s[k]'hlt).toNat : Nat) : Int) ∈ nums s := List.mem_of_getElem? hg
      by_cases hc : (((s[k]'hlt).toNat : Nat) : Int) = c
      · have hcb : ((((s[k]'hlt).toNat : Nat) : Int) == c) = true := by simpa using hc
        have HM : Hid (c ∈ nums s) := by rw [← hc]; exact hmem
        clear hc hst hg hmem hkl
        go_wp2
        go_ret
        exact ⟨ret_b (decide_eq_true HM.out).symm, rfl⟩
      · have hcb : ((((s[k]'hlt).toNat : Nat) : Int) == c) = false := by simpa using hc
        have HN : Hid (c ∉ (nums s).take (k + 1)) := by
          show c ∉ _
          rw [hst]
          have h1 := HC.out
          simp only [List.mem_append, List.mem_singleton, not_or]
          exact ⟨h1, fun e => hc e.symm⟩
        clear hc hst hg hmem hkl
        go_wp2
        go_roundw
        case rel => exact ⟨k + 1, by omega, by go_num, by trivial, HN⟩
        case measure => simp [intOf]; omega
    · go_wp2
      go_ret
      have h1 := HC.out
      rw [List.take_of_length_le (by rw [nums_length]; omega)] at h1
      exact ⟨ret_b (decide_eq_false h1).symm, rfl⟩
theorem rin_is {s : ByteArray} {c : Int} {b : Bool} (hs : s.size ≤ 100) (h : decide (c ∈ nums s) = b) (w : World) : Calls Tryz.prog 68 #[.string s, .int .u8 c] w fun e w' => e = .returned (.bool b) ∧ w' = w := by
  rw [← h]; exact rin_any s c w hs
set_option maxHeartbeats 400000 in
theorem rhas_two (w : World) : Calls Tryz.prog 67 #[.int .i64 2] w fun e w' => e = .returned (.string ⟨#[105]⟩) ∧ w' = w := by
  go_enter Tryz.func67, Tryz.ntmps67
  go_wp2
  go_ret
  exact ⟨rfl, rfl⟩
set_option maxHeartbeats 400000 in
theorem num_id (x : Int) (w : World) : Calls Tryz.prog 13 #[.int .i64 x] w fun e w' => e = .returned (.int .i64 x) ∧ w' = w := by
  go_enter Tryz.func13, Tryz.ntmps13
  go_wp2
  go_ret
  exact ⟨rfl, rfl⟩
set_option maxHeartbeats 400000 in
theorem rnum_id (x : Int) (w : World) : Calls Tryz.prog 76 #[.int .i64 x] w fun e w' => e = .returned (.int .i64 x) ∧ w' = w := by
  go_enter Tryz.func76, Tryz.ntmps76
  go_wp2
  go_ret
  exact ⟨rfl, rfl⟩

def plR : Req := ⟨1, 5, 4, 2, 2, 256, 0, 0, 0, ⟨#[]⟩, ⟨#[]⟩, ⟨#[]⟩, []⟩
def rfR : Rep := ⟨1, 5, 2, 6, 121, 0, 0, 0, 0, [], [], false⟩
set_option maxHeartbeats 400000 in
theorem plain_any (w : World) : Calls Tryz.prog 36 #[] w fun e w' => e = .returned (rqV plR none 0 0) ∧ Below w.heap.size w w' := by
  go_enter Tryz.func36, Tryz.ntmps36
  go_wp2
  refine bodyPost_ret (results_cell_row rfl _ _ w.heap.size 24 _ (0, 0) _ rfl (heap_alloc_new w _) Tryz.underlying24 rfl (by kernel_rfl)) rfl ?_
  exact ⟨rfl, newBox _ _⟩
set_option maxHeartbeats 400000 in
theorem refusal_any (w : World) : Calls Tryz.prog 37 #[] w fun e w' => e = .returned (rpV rfR none 0 0 none 0 0) ∧ Below w.heap.size w w' := by
  go_enter Tryz.func37, Tryz.ntmps37
  go_wp2
  refine bodyPost_ret (results_cell_row rfl _ _ w.heap.size 30 _ (0, 0) _ rfl (heap_alloc_new w _) Tryz.underlying30 rfl (by kernel_rfl)) rfl ?_
  exact ⟨rfl, newBox _ _⟩
end Go.Proofs.YtdkcplndplhblaaGreatDoor
