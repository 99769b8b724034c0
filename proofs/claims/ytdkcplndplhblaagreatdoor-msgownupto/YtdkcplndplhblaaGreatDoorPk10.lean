/- CheckReply by its contract. -/
import Derived.Test.YtdkcplndplhblaaGreatDoorPk09
import Derived.Test.YtdkcplndplhblaaGreatDoorPk03
import Derived.BigQuiet
import Derived.Deep.QuietTactic
namespace Go.Proofs.YtdkcplndplhblaaGreatDoor
open Go.RowKit
set_option maxRecDepth 100000

set_option maxHeartbeats 4000000 in
theorem judgeReplyBody_bad (cl sq ep op st ai ak az ac : Int) (ao : Option Addr) (n c : Nat) (lo : Option Addr) (ln lc : Nat) (w : World) (hl : ln = 0) :
    Calls Tryz.prog 44 #[.agg #[.int .i64 cl, .int .i64 sq, .int .i64 ep, .int .i64 op, .int .i64 st, .int .i64 ai, .int .i64 ak, .int .i64 az, .int .i64 ac, .slice ao n c, .slice lo ln lc, .bool true]] w fun e w' => e = .returned (.int .i64 46) ∧ Below w.heap.size w w' := by
  subst hl
  go_enter Tryz.func44, Tryz.ntmps44
  go_wp2
  go_ret
  exact ⟨rfl, newBox _ _⟩

set_option maxHeartbeats 4000000 in
theorem judgeReplyBody_less (cl sq ep op st ai ak az ac : Int) (dt : List Int) (ls : List Ent) (ao : Option Addr) (n c : Nat) (lo : Option Addr) (ln lc : Nat) (w : World) (hD : Lies w ao n c dt) (hE : CLies w lo ln lc 3 (entCells ls)) (hel : ls.length = ln)  :
    Calls Tryz.prog 44 #[.agg #[.int .i64 cl, .int .i64 sq, .int .i64 ep, .int .i64 op, .int .i64 st, .int .i64 ai, .int .i64 ak, .int .i64 az, .int .i64 ac, .slice ao n c, .slice lo ln lc, .bool false]] w fun e w' => e = .returned (.int .i64 (judgeE op (hasRp op st) (rpAny (Rep.mk cl sq ep op st ai ak az ac dt ls false)))) ∧ Below w.heap.size w w' := by
  have hB0 := RpBox.new w (Rep.mk cl sq ep op st ai ak az ac dt ls false) ao n c lo ln lc
  have hpath : ∀ g ∈ rpAny (Rep.mk cl sq ep op st ai ak az ac dt ls false), ∀ s, g.2 = .path s → s.size ≤ 281474976710656 := by
    intro g hg s hs
    simp only [rpAny, List.mem_cons, List.not_mem_nil, or_false] at hg
    rcases hg with rfl | rfl | rfl | rfl <;> simp at hs
  have HEL : Hid (ls.length = ln) := hel
  clear hel
  go_enter Tryz.func44, Tryz.ntmps44
  go_wp2_with fail
  replace hB0 : RpBox ((w.alloc (.cells #[.int .i64 cl, .int .i64 sq, .int .i64 ep, .int .i64 op, .int .i64 st, .int .i64 ai, .int .i64 ak, .int .i64 az, .int .i64 ac, .slice ao n c, .slice lo ln lc, .bool false] 30)).drew) w.heap.size (Rep.mk cl sq ep op st ai ak az ac dt ls false) ao n c lo ln lc := hB0
  generalize hw0 : w.alloc (.cells #[.int .i64 cl, .int .i64 sq, .int .i64 ep, .int .i64 op, .int .i64 st, .int .i64 ai, .int .i64 ak, .int .i64 az, .int .i64 ac, .slice ao n c, .slice lo ln lc, .bool false] 30) = w0 at *
  have hb0 : Below w.heap.size w w0.drew := drw (hw0 ▸ newBox w _)
  go_region_held3 (fun w' => w'.cell? ⟨w.heap.size, 0, none⟩ = some (.int .i64 cl) ∧ w'.cell? ⟨w.heap.size, 1, none⟩ = some (.int .i64 sq) ∧ w'.cell? ⟨w.heap.size, 2, none⟩ = some (.int .i64 ep) ∧ w'.cell? ⟨w.heap.size, 3, none⟩ = some (.int .i64 op) ∧ w'.cell? ⟨w.heap.size, 4, none⟩ = some (.int .i64 st) ∧ w'.cell? ⟨w.heap.size, 5, none⟩ = some (.int .i64 ai) ∧ w'.cell? ⟨w.heap.size, 6, none⟩ = some (.int .i64 ak) ∧ w'.cell? ⟨w.heap.size, 7, none⟩ = some (.int .i64 az) ∧ w'.cell? ⟨w.heap.size, 8, none⟩ = some (.int .i64 ac) ∧ w'.cell? ⟨w.heap.size, 9, none⟩ = some (.slice ao n c) ∧ w'.cell? ⟨w.heap.size, 10, none⟩ = some (.slice lo ln lc) ∧ w'.cell? ⟨w.heap.size, 11, none⟩ = some (.bool false))
    (first | exact hB0 | exact hB1 | exact hB2 | exact hB3)
    (first
      | (go_at_call 88; refine (anyReplyBody_any (Rep.mk cl sq ep op st ai ak az ac dt ls false) ao n c lo ln lc _ (hD.below hb0 (Nat.le_refl _)) (hE.below hb0 (Nat.le_refl _)) HEL.out).mono ?_; rintro e w1 ⟨fo1, k1, rfl, hF1, hb1⟩; have hB1 := RpBox.later hB0 hb1 (Nat.le_refl _))
      | (go_at_call 89; refine (replyHas_any op st _).mono ?_; rintro e w2 ⟨ho, hn, hc, rfl, hH2, hb2⟩; have hB2 := RpBox.later hB1 hb2 (Nat.le_refl _))
      | (go_at_call 81; refine (judgeBody_any op (rpAny (Rep.mk cl sq ep op st ai ak az ac dt ls false)) fo1 4 k1 ho hn hc (hasRp op st) _ (hF1.below hb2 (Nat.le_refl _)) (by omega) hH2 (has_small hH2 (hasRp_len _ _)) hpath).mono ?_; rintro e w3 ⟨rfl, hb3⟩; have hB3 := RpBox.later hB2 hb3 (Nat.le_refl _)))
  clear hB0 hB1 hB2 hB3
  have hq1 := hb0.trans (hb1.mono hb0.size)
  have hq2 := hq1.trans (hb2.mono hq1.size)
  have hq3 := hq2.trans (hb3.mono hq2.size)
  go_wp2
  go_ret
  exact ⟨rfl, hq3⟩

set_option maxHeartbeats 4000000 in
theorem judgeReplyBody_more (cl sq ep op st ai ak az ac : Int) (dt : List Int) (ls : List Ent) (ao : Option Addr) (n c : Nat) (lo : Option Addr) (ln lc : Nat) (w : World) (hD : Lies w ao n c dt) (hE : CLies w lo ln lc 3 (entCells ls)) (hel : ls.length = ln) (hl : ¬ ln = 0) :
    Calls Tryz.prog 44 #[.agg #[.int .i64 cl, .int .i64 sq, .int .i64 ep, .int .i64 op, .int .i64 st, .int .i64 ai, .int .i64 ak, .int .i64 az, .int .i64 ac, .slice ao n c, .slice lo ln lc, .bool true]] w fun e w' => e = .returned (.int .i64 (judgeE op (hasRp op st) (rpAny (Rep.mk cl sq ep op st ai ak az ac dt ls true)))) ∧ Below w.heap.size w w' := by
  have hB0 := RpBox.new w (Rep.mk cl sq ep op st ai ak az ac dt ls true) ao n c lo ln lc
  have hpath : ∀ g ∈ rpAny (Rep.mk cl sq ep op st ai ak az ac dt ls true), ∀ s, g.2 = .path s → s.size ≤ 281474976710656 := by
    intro g hg s hs
    simp only [rpAny, List.mem_cons, List.not_mem_nil, or_false] at hg
    rcases hg with rfl | rfl | rfl | rfl <;> simp at hs
  have HEL : Hid (ls.length = ln) := hel
  clear hel
  have hli : ((ln : Int) == 0) = false := by simpa using hl
  go_enter Tryz.func44, Tryz.ntmps44
  go_wp2_with fail
  replace hB0 : RpBox ((w.alloc (.cells #[.int .i64 cl, .int .i64 sq, .int .i64 ep, .int .i64 op, .int .i64 st, .int .i64 ai, .int .i64 ak, .int .i64 az, .int .i64 ac, .slice ao n c, .slice lo ln lc, .bool true] 30)).drew) w.heap.size (Rep.mk cl sq ep op st ai ak az ac dt ls true) ao n c lo ln lc := hB0
  generalize hw0 : w.alloc (.cells #[.int .i64 cl, .int .i64 sq, .int .i64 ep, .int .i64 op, .int .i64 st, .int .i64 ai, .int .i64 ak, .int .i64 az, .int .i64 ac, .slice ao n c, .slice lo ln lc, .bool true] 30) = w0 at *
  have hb0 : Below w.heap.size w w0.drew := drw (hw0 ▸ newBox w _)
  go_region_held3 (fun w' => w'.cell? ⟨w.heap.size, 0, none⟩ = some (.int .i64 cl) ∧ w'.cell? ⟨w.heap.size, 1, none⟩ = some (.int .i64 sq) ∧ w'.cell? ⟨w.heap.size, 2, none⟩ = some (.int .i64 ep) ∧ w'.cell? ⟨w.heap.size, 3, none⟩ = some (.int .i64 op) ∧ w'.cell? ⟨w.heap.size, 4, none⟩ = some (.int .i64 st) ∧ w'.cell? ⟨w.heap.size, 5, none⟩ = some (.int .i64 ai) ∧ w'.cell? ⟨w.heap.size, 6, none⟩ = some (.int .i64 ak) ∧ w'.cell? ⟨w.heap.size, 7, none⟩ = some (.int .i64 az) ∧ w'.cell? ⟨w.heap.size, 8, none⟩ = some (.int .i64 ac) ∧ w'.cell? ⟨w.heap.size, 9, none⟩ = some (.slice ao n c) ∧ w'.cell? ⟨w.heap.size, 10, none⟩ = some (.slice lo ln lc) ∧ w'.cell? ⟨w.heap.size, 11, none⟩ = some (.bool true))
    (first | exact hB0 | exact hB1 | exact hB2 | exact hB3)
    (first
      | (go_at_call 88; refine (anyReplyBody_any (Rep.mk cl sq ep op st ai ak az ac dt ls true) ao n c lo ln lc _ (hD.below hb0 (Nat.le_refl _)) (hE.below hb0 (Nat.le_refl _)) HEL.out).mono ?_; rintro e w1 ⟨fo1, k1, rfl, hF1, hb1⟩; have hB1 := RpBox.later hB0 hb1 (Nat.le_refl _))
      | (go_at_call 89; refine (replyHas_any op st _).mono ?_; rintro e w2 ⟨ho, hn, hc, rfl, hH2, hb2⟩; have hB2 := RpBox.later hB1 hb2 (Nat.le_refl _))
      | (go_at_call 81; refine (judgeBody_any op (rpAny (Rep.mk cl sq ep op st ai ak az ac dt ls true)) fo1 4 k1 ho hn hc (hasRp op st) _ (hF1.below hb2 (Nat.le_refl _)) (by omega) hH2 (has_small hH2 (hasRp_len _ _)) hpath).mono ?_; rintro e w3 ⟨rfl, hb3⟩; have hB3 := RpBox.later hB2 hb3 (Nat.le_refl _)))
  clear hB0 hB1 hB2 hB3
  have hq1 := hb0.trans (hb1.mono hb0.size)
  have hq2 := hq1.trans (hb2.mono hq1.size)
  have hq3 := hq2.trans (hb3.mono hq2.size)
  go_wp2
  go_ret
  exact ⟨rfl, hq3⟩

theorem judgeReplyBody_any (r : Rep) (ao : Option Addr) (n c : Nat) (lo : Option Addr) (ln lc : Nat) (w : World) (hD : Lies w ao n c r.data) (hE : CLies w lo ln lc 3 (entCells r.list)) (hel : r.list.length = ln) :
    Calls Tryz.prog 44 #[rpV r ao n c lo ln lc] w fun e w' => e = .returned (.int .i64 (rpBodyE r)) ∧ Below w.heap.size w w' := by
  obtain ⟨cl, sq, ep, op, st, ai, ak, az, ac, dt, ls, mr⟩ := r
  simp only at hD hE hel
  unfold rpBodyE
  simp only
  cases mr
  · have h := judgeReplyBody_less cl sq ep op st ai ak az ac dt ls ao n c lo ln lc w hD hE hel
    simpa using h
  · by_cases hl : ln = 0
    · have h := judgeReplyBody_bad cl sq ep op st ai ak az ac ao n c lo ln lc w hl
      rw [hel, hl]
      rw [hl] at h
      simpa using h
    · have h := judgeReplyBody_more cl sq ep op st ai ak az ac dt ls ao n c lo ln lc w hD hE hel hl
      rw [hel]
      simpa [hl] using h

set_option maxHeartbeats 1000000 in
theorem checkReply_any (r : Rep) (ao : Option Addr) (n c : Nat) (lo : Option Addr) (ln lc : Nat) (w : World) (hD : Lies w ao n c r.data) (hE : CLies w lo ln lc 3 (entCells r.list)) (hel : r.list.length = ln) :
    Calls Tryz.prog 15 #[rpV r ao n c lo ln lc] w fun e w' => e = .returned (.int .i64 (rpE r)) ∧ Below w.heap.size w w' := by
  unfold rpE
  have HEL : Hid (r.list.length = ln) := hel
  clear hel
  have hB0 := RpBox.new w r ao n c lo ln lc
  by_cases h0 : rpHeadE r = 0
  · rw [if_pos h0]
    go_enter Tryz.func15, Tryz.ntmps15
    go_wp2_with (first
      | (go_at_call 43; refine (judgeReplyHead_any r ao n c lo ln lc _).mono ?_; rintro e w1 ⟨rfl, hb1⟩; rw [h0]; have hB1 := RpBox.later hB0 hb1 (Nat.le_refl _); have hq1 := (newBox w _).trans (hb1.mono (by simp)); obtain ⟨d0, d1, d2, d3, d4, d5, d6, d7, d8, d9, d10, d11⟩ := hB1)
      | (go_at_call 44; refine (judgeReplyBody_any r ao n c lo ln lc _ (hD.below hq1 (Nat.le_refl _)) (hE.below hq1 (Nat.le_refl _)) HEL.out).mono ?_; rintro e w2 ⟨rfl, hb2⟩))
    go_ret
    exact ⟨rfl, hq1.trans (hb2.mono hq1.size)⟩
  · rw [if_neg h0]
    have h1 : (rpHeadE r != 0) = true := by simpa using h0
    go_enter Tryz.func15, Tryz.ntmps15
    go_wp2_with (first
      | (go_at_call 43; refine (judgeReplyHead_any r ao n c lo ln lc _).mono ?_; rintro e w1 ⟨rfl, hb1⟩; have hq1 := (newBox w _).trans (hb1.mono (by simp))))
    go_ret
    exact ⟨rfl, hq1⟩

end Go.Proofs.YtdkcplndplhblaaGreatDoor

/- encode by its contract. -/
namespace Go.Proofs.YtdkcplndplhblaaGreatDoor
open Go.RowKit
set_option maxRecDepth 100000

/-- The sum of bytes. -/
def sumOf (l : List Int) : Int := S2.fwd 14695981039346656037 l
theorem sumOf_bd (l : List Int) : 0 ≤ sumOf l ∧ sumOf l ≤ 18446744073709551615 := S2.U.fwd l (by decide)
abbrev Bys (l : List Int) : Prop := ∀ x ∈ l, 0 ≤ x ∧ x ≤ 255
theorem Bys.app {a b : List Int} (ha : Bys a) (hb : Bys b) : Bys (a ++ b) := fun x hx => by
  rcases List.mem_append.1 hx with h | h
  · exact ha x h
  · exact hb x h
theorem be_bys (X : Int) : ∀ k, Bys (be X k)
  | 0 => fun x hx => by cases hx
  | k + 1 => fun x hx => by
    rcases List.mem_cons.1 hx with rfl | h
    · exact ⟨by omega, by omega⟩
    · exact be_bys X k x h
theorem nums_bys (s : ByteArray) : Bys (nums s) := fun x hx => by
  simp only [nums, List.mem_map] at hx
  obtain ⟨b, _, rfl⟩ := hx
  have := b.toNat_lt
  omega
theorem zeros_bys (k : Nat) : Bys (List.replicate k 0) := fun x hx => by
  rw [List.eq_of_mem_replicate hx]; decide
theorem txB_bys (s : ByteArray) : Bys (txB s) := ((be_bys _ _).app (nums_bys s)).app (zeros_bys _)
theorem dtB_bys {d : List Int} (h : Bys d) : Bys (dtB d) := ((be_bys _ _).app h).app (zeros_bys _)
/-- Bytes stand in a field as bytes. -/
def VBy : Val → Prop
  | .content d => Bys d
  | _ => True
theorem flat_bys {α : Type} (f : α → List Int) : ∀ (l : List α), (∀ x ∈ l, Bys (f x)) → Bys (l.flatMap f)
  | [], _ => fun x hx => by simp at hx
  | a :: l, h => by
    rw [List.flatMap_cons]
    exact (h a (by simp)).app (flat_bys f l (fun x hx => h x (by simp [hx])))
theorem putV_bys {x : Val} (h : VBy x) : Bys (putV x) := by
  cases x with
  | small x => exact be_bys _ _
  | great x => exact be_bys _ _
  | flag b => exact be_bys _ _
  | path s => exact txB_bys s
  | name s => exact txB_bys s
  | content d => exact dtB_bys h
  | attr i k z c => exact (((be_bys _ _).app (be_bys _ _)).app (be_bys _ _)).app (be_bys _ _)
  | entries l => exact (be_bys _ _).app (flat_bys _ _ fun e _ => ((txB_bys _).app (be_bys _ _)).app (be_bys _ _))
theorem putAll_bys {gs : List (Int × Val)} (h : ∀ g ∈ gs, VBy g.2) : Bys (putAll gs) := flat_bys _ _ fun g hg => putV_bys (h g hg)
theorem putV_len {x : Val} (h : Small x) : (putV x).length ≤ 20000 := by
  cases x with
  | small x => simp [putV, be_length]
  | great x => simp [putV, be_length]
  | flag b => simp [putV, be_length]
  | path s => have h1 := txB_length s; have h2 := padN_le s.size; have h3 : s.size ≤ 1000 := h; simp only [putV]; omega
  | name s => have h1 := txB_length s; have h2 := padN_le s.size; have h3 : s.size ≤ 1000 := h; simp only [putV]; omega
  | content d => have h1 := dtB_length d; have h2 := padN_le d.length; have h3 : d.length ≤ 2000 := h; simp only [putV]; omega
  | attr i k z c => simp [putV, be_length]
  | entries l =>
    obtain ⟨h1, h2⟩ : l.length ≤ 16 ∧ ∀ e ∈ l, e.name.size ≤ 1000 := h
    have h3 := flat_len l 1100 (fun e he => by have h5 := txB_length e.name; have h6 := padN_le e.name.size; have h7 := h2 e he; simp [entB, be_length]; omega)
    simp only [putV, List.length_append, be_length]
    omega
theorem putAll_len {gs : List (Int × Val)} (h : ∀ g ∈ gs, Small g.2) : (putAll gs).length ≤ gs.length * 20000 := by
  induction gs with
  | nil => simp [putAll]
  | cons g gs ih =>
    have h1 := putV_len (h g (by simp))
    have h2 := ih (fun x hx => h x (by simp [hx]))
    simp only [putAll, List.flatMap_cons, List.length_append, List.length_cons, Nat.add_mul] at *
    omega

/-- A new list of these bytes, all of it the call's own. -/
def Got (w : World) (e : Ending) (w' : World) (X : List Int) : Prop :=
  ∃ g n cap, e = .returned (.slice (some ⟨g, 0, none⟩) n cap) ∧ w'.ownsRow w.heap.size 5 1 (.slice (some ⟨g, 0, none⟩) n cap) n (X.map (Value.int .u8)) ∧ Below w.heap.size w w'
/-- A datagram of these bytes. -/
def closeB (X : List Int) : List Int := X ++ be (sumOf X) 8

set_option maxHeartbeats 1000000 in
theorem encode_any (s : ByteArray) (hd bd : List (Int × Val)) (h1 : Option Addr) (n1 c1 : Nat) (h2 : Option Addr) (n2 c2 : Nat) (w : World) (hs : s.size ≤ 4) (hl1 : (putAll hd).length ≤ 100)
    (hF1 : FLies w h1 n1 c1 hd) (hF2 : FLies w h2 n2 c2 bd) (hn1 : n1 ≤ 5) (hn2 : n2 ≤ 8) (hS1 : ∀ g ∈ hd, Small g.2) (hS2 : ∀ g ∈ bd, Small g.2) (hB1 : ∀ g ∈ hd, VBy g.2) (hB2 : ∀ g ∈ bd, VBy g.2) :
    Calls Tryz.prog 48 #[.string s, .slice h1 n1 c1, .slice h2 n2 c2] w fun e w' => Got w e w' (closeB (nums s ++ putAll hd ++ putAll bd)) := by
  have hcv := Lib.run_convert_string_bytes (P := Tryz.prog) w 9 22 5 s Tryz.underlying9 Tryz.underlying22 Tryz.underlying5
  have hb0 := bytesWorld_below w s
  go_enter Tryz.func48, Tryz.ntmps48
  go_wp2_with fail
  refine (putAll_any hd h1 n1 c1 _ _ _ (nums s) _ (by omega) (bytesWorld_lies w s) (hF1.below hb0 (Nat.le_refl _)) (by omega) hS1).mono ?_
  rintro e w1 ⟨a1, m1, k1, rfl, hL1, hq1⟩
  have hq1 := hb0.trans (hq1.mono hb0.size)
  have l1 : m1 ≤ 104 := by have h := hL1.hlen; have h4 := nums_length s; have h5 := hF1.hlen; simp at h; omega
  go_wp2_with fail
  refine (putAll_any bd h2 n2 c2 _ _ _ _ _ (by omega) hL1 (hF2.below hq1 (Nat.le_refl _)) (by omega) hS2).mono ?_
  rintro e w2 ⟨a2, m2, k2, rfl, hL2, hq2⟩
  have hq2 := hq1.trans (hq2.mono hq1.size)
  have l2 : m2 ≤ 104 + 8 * 20000 := by have h := hL2.hlen; have h4 := nums_length s; have h5 := hF1.hlen; have h6 := putAll_len hS2; have h7 := hF2.hlen; simp at h; omega
  have hby : Bys (nums s ++ putAll hd ++ putAll bd) := ((nums_bys s).app (putAll_bys hB1)).app (putAll_bys hB2)
  generalize hX : nums s ++ putAll hd ++ putAll bd = X at *
  have HX : Hid (nums s ++ putAll hd ++ putAll bd = X) := hX
  clear hX
  have hsm := sumOf_bd X
  go_wp2_with fail
  refine (S2.sum_any _ _ _ X _ (by omega) hL2 hby).mono ?_
  rintro e w3 ⟨rfl, hw3⟩
  subst w3
  have hP := putSum_any a2 m2 k2 (sumOf X) X w2 hsm.1 hsm.2 (by omega) hL2
  go_wp2_with fail
  refine hP.mono ?_
  rintro e w4 ⟨g4, k4, rfl, ho4, hb4⟩
  have hq4 := hq2.trans (hb4.mono hq2.size)
  have ho5 := ownsRow_mono ho4 hq2.size
  clear hP ho4
  go_wp2
  go_ret
  refine ⟨g4, _, k4, rfl, ?_, hq4⟩
  have := HX.out
  rw [this]
  exact ho5
end Go.Proofs.YtdkcplndplhblaaGreatDoor

/- EncodeRequest and EncodeReply by their contracts. -/
namespace Go.Proofs.YtdkcplndplhblaaGreatDoor
open Go.RowKit
set_option maxRecDepth 100000

theorem pick_mem {l : List Int} {gs : List (Int × Val)} {g : Int × Val} (h : g ∈ pick l gs) : g ∈ gs ∧ g.1 ∈ l := by
  simpa [pick] using h
theorem pick_len (l : List Int) (gs : List (Int × Val)) : (pick l gs).length ≤ gs.length := List.length_filter_le _ _
theorem name_small {s : ByteArray} (h : nameB s = true) : s.size ≤ 23 := by
  have := (N3.okName_len h).2; rw [N3.size_bs]; exact this
theorem may_small {op no : Int} {x : Val} (h : mayB op no x = true) : Small x := by
  cases x with
  | path s =>
    have h1 : N3.splitE (N3.bs s) = 0 := by simpa [mayB] using h
    obtain ⟨h2, h3⟩ := N3.path_split h1
    have h4 := N3.pathT_len h2
    rw [h3] at h4
    show s.size ≤ 1000
    rw [N3.size_bs]; omega
  | name s =>
    show s.size ≤ 1000
    simp only [mayB, Bool.or_eq_true, Bool.and_eq_true, decide_eq_true_eq] at h
    rcases h with h | h
    · omega
    · have := name_small h; omega
  | content d =>
    show d.length ≤ 2000
    simp only [mayB, Bool.and_eq_true, decide_eq_true_eq] at h
    omega
  | entries l =>
    show l.length ≤ 16 ∧ _
    simp only [mayB, listB, Bool.and_eq_true, decide_eq_true_eq] at h
    refine ⟨h.1, fun e he => ?_⟩
    obtain ⟨k, hk, rfl⟩ := List.getElem_of_mem he
    have h2 := h.2 k hk
    have h3 : entOk l[k] = true := by
      cases h4 : entOk l[k]
      · rw [okAt_ent hk h4] at h2; cases h2
      · rfl
    simp only [entOk, Bool.and_eq_true] at h3
    have := name_small h3.1.1
    omega
  | _ => trivial
theorem judge_small {op : Int} {l : List Int} {gs : List (Int × Val)} (h : judgeE op l gs = 0) : ∀ g ∈ pick l gs, Small g.2 := by
  intro g hg
  obtain ⟨h1, h2⟩ := pick_mem hg
  have h3 : gs.all (fieldB op l) = true := by
    unfold judgeE at h
    by_cases hx : gs.all (fieldB op l) = true
    · exact hx
    · rw [if_neg hx] at h; cases h
  have h4 := List.all_eq_true.1 h3 g h1
  unfold fieldB at h4
  rw [if_pos h2] at h4
  exact may_small h4

/-- The bytes of a request's datagram. -/
def rqB (r : Req) : List Int := closeB (nums ⟨#[65, 78, 81, 49]⟩ ++ putAll (rqHead r) ++ putAll (pick (hasRq r.op) (rqAny r)))
def rpB (r : Rep) : List Int := closeB (nums ⟨#[65, 78, 82, 49]⟩ ++ putAll (rpHead r) ++ putAll (pick (hasRp r.op r.status) (rpAny r)))
/-- What an Encode leaves: nothing and the error, or a new datagram. -/
def EncR (w : World) (e : Ending) (w' : World) (E : Int) (X : List Int) : Prop :=
  (E ≠ 0 ∧ e = .returned (.tuple #[.slice none 0 0, .int .i64 E]) ∧ Below w.heap.size w w') ∨
  (E = 0 ∧ ∃ g n cap, e = .returned (.tuple #[.slice (some ⟨g, 0, none⟩) n cap, .int .i64 0]) ∧ w'.ownsRow w.heap.size 5 1 (.slice (some ⟨g, 0, none⟩) n cap) n (X.map (Value.int .u8)) ∧ Below w.heap.size w w')

theorem rqE_zero {r : Req} (h : rqE r = 0) : judgeE r.op (hasRq r.op) (rqAny r) = 0 := by
  unfold rqE at h
  by_cases h1 : rqHeadE r = 0
  · rw [if_pos h1] at h; exact h
  · rw [if_neg h1] at h; exact absurd h h1
theorem requestHead_bys (r : Req) : (∀ g ∈ rqHead r, VBy g.2) ∧ (∀ g ∈ rqHead r, Small g.2) ∧ (putAll (rqHead r)).length ≤ 100 := by
  refine ⟨?_, ?_, ?_⟩
  · intro g hg; simp only [rqHead, List.mem_cons, List.not_mem_nil, or_false] at hg; rcases hg with rfl | rfl | rfl | rfl | rfl <;> trivial
  · intro g hg; simp only [rqHead, List.mem_cons, List.not_mem_nil, or_false] at hg; rcases hg with rfl | rfl | rfl | rfl | rfl <;> trivial
  · simp [rqHead, putAll, putV, be_length]
theorem requestBody_bys (r : Req) (h : Bys r.data) : ∀ g ∈ rqAny r, VBy g.2 := by
  intro g hg
  simp only [rqAny, List.mem_cons, List.not_mem_nil, or_false] at hg
  rcases hg with rfl | rfl | rfl | rfl | rfl | rfl | rfl | rfl <;> first | trivial | exact h

set_option maxHeartbeats 4000000 in
theorem EncodeRequest_any (r : Req) (ao : Option Addr) (n c : Nat) (w : World) (hD : Lies w ao n c r.data) (hp : r.path.size ≤ 281474976710656) (hby : Bys r.data) :
    Calls Tryz.prog 18 #[rqV r ao n c] w fun e w' => EncR w e w' (rqE r) (rqB r) := by
  have hB0 := RqBox.new w r ao n c
  by_cases h0 : rqE r = 0
  · have hj := rqE_zero h0
    have hsm := judge_small hj
    have hvb : ∀ g ∈ pick (hasRq r.op) (rqAny r), VBy g.2 := fun g hg => requestBody_bys r hby g (pick_mem hg).1
    obtain ⟨hh1, hh2, hh3⟩ := requestHead_bys r
    have H0 : Hid (rqE r = 0) := h0
    go_enter Tryz.func18, Tryz.ntmps18
    go_wp2_with fail
    refine (checkRequest_any r ao n c _ (hD.boxed _) hp).mono ?_
    rintro e w1 ⟨rfl, hb1⟩
    rw [h0]
    clear h0 hj
    have hB1 := RqBox.later hB0 hb1 (Nat.le_refl _)
    have hq1 : Below w.heap.size w w1 := (newBox w _).trans (hb1.mono (by simp))
    clear hB0 hb1
    go_wp2_with fail
    replace hB1 : RqBox w1.drew w.heap.size r ao n c := hB1
    replace hq1 : Below w.heap.size w w1.drew := drw hq1
    go_region_held3 (fun w' => w'.cell? ⟨w.heap.size, 0, none⟩ = some (.int .i64 r.client) ∧ w'.cell? ⟨w.heap.size, 1, none⟩ = some (.int .i64 r.seq) ∧ w'.cell? ⟨w.heap.size, 2, none⟩ = some (.int .i64 r.ack) ∧ w'.cell? ⟨w.heap.size, 3, none⟩ = some (.int .i64 r.epoch) ∧ w'.cell? ⟨w.heap.size, 4, none⟩ = some (.int .i64 r.op) ∧ w'.cell? ⟨w.heap.size, 5, none⟩ = some (.int .i64 r.id) ∧ w'.cell? ⟨w.heap.size, 6, none⟩ = some (.int .i64 r.id2) ∧ w'.cell? ⟨w.heap.size, 7, none⟩ = some (.int .i64 r.off) ∧ w'.cell? ⟨w.heap.size, 8, none⟩ = some (.int .i64 r.len) ∧ w'.cell? ⟨w.heap.size, 9, none⟩ = some (.string r.path) ∧ w'.cell? ⟨w.heap.size, 10, none⟩ = some (.string r.name) ∧ w'.cell? ⟨w.heap.size, 11, none⟩ = some (.string r.name2) ∧ w'.cell? ⟨w.heap.size, 12, none⟩ = some (.slice ao n c))
      (first | exact hB1 | exact hB2 | exact hB3 | exact hB4)
      (first
        | (go_at_call 49; refine (requestHead_any r ao n c _).mono ?_; rintro e w2 ⟨fo2, k2, rfl, hF2, hb2⟩; have hB2 := RqBox.later hB1 hb2 (Nat.le_refl _); have hq2 := hq1.trans (hb2.mono hq1.size))
        | (go_at_call 50; refine (requestBody_any r ao n c _ (hD.below hq2 (Nat.le_refl _))).mono ?_; rintro e w3 ⟨fo3, m3, k3, rfl, hF3, hb3⟩; have hB3 := RqBox.later hB2 hb3 (Nat.le_refl _); have hq3 := hq2.trans (hb3.mono hq2.size))
        | (go_at_call 48; refine (encode_any ⟨#[65, 78, 81, 49]⟩ (rqHead r) (pick (hasRq r.op) (rqAny r)) fo2 5 k2 fo3 m3 k3 _ (by decide) hh3 (hF2.below hb3 (Nat.le_refl _)) hF3 (by omega) (by have h1 := hF3.hlen; have h2 := pick_len (hasRq r.op) (rqAny r); have h3 : (rqAny r).length = 8 := rfl; omega) hh2 hsm hh1 hvb).mono ?_; rintro e w4 ⟨g4, m4, k4, rfl, ho4, hb4⟩; have hB4 := RqBox.later hB3 hb4 (Nat.le_refl _)))
    have hq4 := hq3.trans (hb4.mono hq3.size)
    have ho5 := ownsRow_mono ho4 hq3.size
    clear hB1 hB2 hB3 hB4 ho4
    go_wp2
    go_ret2
    exact .inr ⟨H0.out, g4, m4, k4, rfl, ho5, hq4⟩
  · have h1 : (rqE r != 0) = true := by simpa using h0
    have H0 : Hid (rqE r ≠ 0) := h0
    go_enter Tryz.func18, Tryz.ntmps18
    go_wp2_with fail
    refine (checkRequest_any r ao n c _ (hD.boxed _) hp).mono ?_
    rintro e w1 ⟨rfl, hb1⟩
    have hq1 : Below w.heap.size w w1 := (newBox w _).trans (hb1.mono (by simp))
    clear hB0 hb1
    go_wp2
    go_ret2
    exact .inl ⟨H0.out, rfl, hq1⟩

theorem rpE_zero {r : Rep} (h : rpE r = 0) : judgeE r.op (hasRp r.op r.status) (rpAny r) = 0 := by
  unfold rpE at h
  by_cases h1 : rpHeadE r = 0
  · rw [if_pos h1] at h
    unfold rpBodyE at h
    by_cases h2 : (r.more && decide (r.list.length = 0)) = true
    · rw [if_pos h2] at h; cases h
    · rw [if_neg h2] at h; exact h
  · rw [if_neg h1] at h; exact absurd h h1
theorem replyHead_bys (r : Rep) : (∀ g ∈ rpHead r, VBy g.2) ∧ (∀ g ∈ rpHead r, Small g.2) ∧ (putAll (rpHead r)).length ≤ 100 := by
  refine ⟨?_, ?_, ?_⟩
  · intro g hg; simp only [rpHead, List.mem_cons, List.not_mem_nil, or_false] at hg; rcases hg with rfl | rfl | rfl | rfl | rfl <;> trivial
  · intro g hg; simp only [rpHead, List.mem_cons, List.not_mem_nil, or_false] at hg; rcases hg with rfl | rfl | rfl | rfl | rfl <;> trivial
  · simp [rpHead, putAll, putV, be_length]
theorem replyBody_bys (r : Rep) (h : Bys r.data) : ∀ g ∈ rpAny r, VBy g.2 := by
  intro g hg
  simp only [rpAny, List.mem_cons, List.not_mem_nil, or_false] at hg
  rcases hg with rfl | rfl | rfl | rfl <;> first | trivial | exact h

set_option maxHeartbeats 4000000 in
theorem EncodeReply_any (r : Rep) (ao : Option Addr) (n c : Nat) (lo : Option Addr) (ln lc : Nat) (w : World) (hD : Lies w ao n c r.data) (hE : CLies w lo ln lc 3 (entCells r.list)) (hel : r.list.length = ln) (hby : Bys r.data) :
    Calls Tryz.prog 20 #[rpV r ao n c lo ln lc] w fun e w' => EncR w e w' (rpE r) (rpB r) := by
  have hB0 := RpBox.new w r ao n c lo ln lc
  have HEL : Hid (r.list.length = ln) := hel
  clear hel
  by_cases h0 : rpE r = 0
  · have hj := rpE_zero h0
    have hsm := judge_small hj
    have hvb : ∀ g ∈ pick (hasRp r.op r.status) (rpAny r), VBy g.2 := fun g hg => replyBody_bys r hby g (pick_mem hg).1
    obtain ⟨hh1, hh2, hh3⟩ := replyHead_bys r
    have H0 : Hid (rpE r = 0) := h0
    go_enter Tryz.func20, Tryz.ntmps20
    go_wp2_with fail
    refine (checkReply_any r ao n c lo ln lc _ (hD.boxed _) (hE.boxed _) HEL.out).mono ?_
    rintro e w1 ⟨rfl, hb1⟩
    rw [h0]
    clear h0 hj
    have hB1 := RpBox.later hB0 hb1 (Nat.le_refl _)
    have hq1 : Below w.heap.size w w1 := (newBox w _).trans (hb1.mono (by simp))
    clear hB0 hb1
    go_wp2_with fail
    replace hB1 : RpBox w1.drew w.heap.size r ao n c lo ln lc := hB1
    replace hq1 : Below w.heap.size w w1.drew := drw hq1
    go_region_held3 (fun w' => w'.cell? ⟨w.heap.size, 0, none⟩ = some (.int .i64 r.client) ∧ w'.cell? ⟨w.heap.size, 1, none⟩ = some (.int .i64 r.seq) ∧ w'.cell? ⟨w.heap.size, 2, none⟩ = some (.int .i64 r.epoch) ∧ w'.cell? ⟨w.heap.size, 3, none⟩ = some (.int .i64 r.op) ∧ w'.cell? ⟨w.heap.size, 4, none⟩ = some (.int .i64 r.status) ∧ w'.cell? ⟨w.heap.size, 5, none⟩ = some (.int .i64 r.ai) ∧ w'.cell? ⟨w.heap.size, 6, none⟩ = some (.int .i64 r.ak) ∧ w'.cell? ⟨w.heap.size, 7, none⟩ = some (.int .i64 r.az) ∧ w'.cell? ⟨w.heap.size, 8, none⟩ = some (.int .i64 r.ac) ∧ w'.cell? ⟨w.heap.size, 9, none⟩ = some (.slice ao n c) ∧ w'.cell? ⟨w.heap.size, 10, none⟩ = some (.slice lo ln lc) ∧ w'.cell? ⟨w.heap.size, 11, none⟩ = some (.bool r.more))
      (first | exact hB1 | exact hB2 | exact hB3 | exact hB4)
      (first
        | (go_at_call 53; refine (replyHead_any r ao n c lo ln lc _).mono ?_; rintro e w2 ⟨fo2, k2, rfl, hF2, hb2⟩; have hB2 := RpBox.later hB1 hb2 (Nat.le_refl _); have hq2 := hq1.trans (hb2.mono hq1.size))
        | (go_at_call 54; refine (replyBody_any r ao n c lo ln lc _ (hD.below hq2 (Nat.le_refl _)) (hE.below hq2 (Nat.le_refl _)) HEL.out).mono ?_; rintro e w3 ⟨fo3, m3, k3, rfl, hF3, hb3⟩; have hB3 := RpBox.later hB2 hb3 (Nat.le_refl _); have hq3 := hq2.trans (hb3.mono hq2.size))
        | (go_at_call 48; refine (encode_any ⟨#[65, 78, 82, 49]⟩ (rpHead r) (pick (hasRp r.op r.status) (rpAny r)) fo2 5 k2 fo3 m3 k3 _ (by decide) hh3 (hF2.below hb3 (Nat.le_refl _)) hF3 (by omega) (by have h1 := hF3.hlen; have h2 := pick_len (hasRp r.op r.status) (rpAny r); have h3 : (rpAny r).length = 4 := rfl; omega) hh2 hsm hh1 hvb).mono ?_; rintro e w4 ⟨g4, m4, k4, rfl, ho4, hb4⟩; have hB4 := RpBox.later hB3 hb4 (Nat.le_refl _)))
    have hq4 := hq3.trans (hb4.mono hq3.size)
    have ho5 := ownsRow_mono ho4 hq3.size
    clear hB1 hB2 hB3 hB4 ho4
    go_wp2
    go_ret2
    exact .inr ⟨H0.out, g4, m4, k4, rfl, ho5, hq4⟩
  · have h1 : (rpE r != 0) = true := by simpa using h0
    have H0 : Hid (rpE r ≠ 0) := h0
    go_enter Tryz.func20, Tryz.ntmps20
    go_wp2_with fail
    refine (checkReply_any r ao n c lo ln lc _ (hD.boxed _) (hE.boxed _) HEL.out).mono ?_
    rintro e w1 ⟨rfl, hb1⟩
    have hq1 : Below w.heap.size w w1 := (newBox w _).trans (hb1.mono (by simp))
    clear hB0 hb1
    go_wp2
    go_ret2
    exact .inl ⟨H0.out, rfl, hq1⟩

end Go.Proofs.YtdkcplndplhblaaGreatDoor

/- Err by its contract. -/
namespace Go.Proofs.YtdkcplndplhblaaGreatDoor
open Go.RowKit
set_option maxRecDepth 100000

set_option maxHeartbeats 400000 in
theorem err_any (rb g n cap : Nat) (pl code : Int) (bs : List Int) (w : World) (hR : Rdr w rb g n cap pl code bs) :
    Calls Tryz.prog 128 #[.pointer (some ⟨rb, 0, none⟩)] w fun e w' => e = .returned (.tuple #[.int .i64 code, .int .i64 pl]) ∧ ∃ m, w' = w.drewN m := by
  have c1 := hR.c1
  have c2 := hR.c2
  go_enter Tryz.func128, Tryz.ntmps128
  go_wp2
  go_quiet (fail)
  go_wp2
  go_ret2
  exact ⟨rfl, _, rfl⟩
end Go.Proofs.YtdkcplndplhblaaGreatDoor

/- A reader and the memory beside it; what a field's reading gives. -/
namespace Go.Proofs.YtdkcplndplhblaaGreatDoor
open Go.RowKit
set_option maxRecDepth 100000

/-- A reader at a place, its bytes, its errors; no error lies in its block. -/
structure Rd (w : World) (rb g n : Nat) (bs : List Int) (er : Nat → Addr) (st : Nat × Int) : Prop where
  r : Rdr w rb g n n st.1 st.2 bs
  e : Errs w er
  p : st.1 ≤ n
  n0 : n ≤ 100000
  by' : Bys bs
  apart : ∀ i, i < 5 → some (gvar i) ≠ some rb ∧ some (er i).block ≠ some rb

theorem Rd.kept {w w' : World} {rb g n : Nat} {bs : List Int} {er : Nat → Addr} {st : Nat × Int} (h : Rd w rb g n bs er st) (hb : Below w.heap.size w w') : Rd w' rb g n bs er st :=
  ⟨h.r.kept (row := none) ⟨hb.os, hb.tape, hb.output, hb.size, fun i hi _ => hb.block i hi⟩ (by simp) (by simp), h.e.below hb (Nat.le_refl _), h.p, h.n0, h.by', h.apart⟩
theorem Rd.went {w w' : World} {rb g n : Nat} {bs : List Int} {er : Nat → Addr} {st st' : Nat × Int} (h : Rd w rb g n bs er st) (hw : Went w w' rb g n n st'.1 st'.2 bs) (hp : st'.1 ≤ n) : Rd w' rb g n bs er st' ∧ w.grownBy w' (some rb) :=
  ⟨⟨hw.1, h.e.grown hw.2 h.apart, hp, h.n0, h.by', h.apart⟩, hw.2⟩

theorem rdNum_le (k n : Nat) (bs : List Int) (pl : Nat) (code M : Int) (h : pl ≤ n) : (rdNum k n bs pl code M).2.1 ≤ n := by
  unfold rdNum; split
  · exact h
  · split
    · exact h
    · split
      · exact h
      · simp only; omega
theorem rdFlag_le (n : Nat) (bs : List Int) (pl : Nat) (code : Int) (h : pl ≤ n) : (rdFlag n bs pl code).2.1 ≤ n := by
  unfold rdFlag; split
  · exact h
  · split
    · exact h
    · split
      · exact h
      · simp only; omega
theorem rdSum_le (n : Nat) (bs : List Int) (pl : Nat) (code : Int) (h : pl ≤ n) : (rdSum n bs pl code).2.1 ≤ n := by
  unfold rdSum; split
  · exact h
  · split
    · exact h
    · simp only; omega
theorem rdText_le (n : Nat) (bs : List Int) (pl : Nat) (code M : Int) (h : pl ≤ n) : (rdText n bs pl code M).2.1 ≤ n := by
  unfold rdText; split
  · exact h
  · split
    · exact h
    · split
      · exact h
      · split
        · exact h
        · split
          · exact h
          · simp only; omega

theorem rd_u32 {rb g n : Nat} {bs : List Int} {er : Nat → Addr} {st : Nat × Int} (M : Int) (w : World) (h : Rd w rb g n bs er st) (hM : M ≤ 9223372036854775807) :
    Calls Tryz.prog 193 #[.pointer (some ⟨rb, 0, none⟩), .int .i64 M] w fun e w' => e = .returned (.int .i64 (rdNum 4 n bs st.1 st.2 M).1) ∧ Rd w' rb g n bs er (rdNum 4 n bs st.1 st.2 M).2 ∧ w.grownBy w' (some rb) := by
  have h0 := h.n0
  refine (u32_any rb g n n st.1 st.2 M bs er w h.r h.e h.p (by omega) h.by' hM).mono ?_
  rintro e w' ⟨he, hw⟩
  exact ⟨he, h.went hw (rdNum_le _ _ _ _ _ _ h.p)⟩
theorem rd_u64 {rb g n : Nat} {bs : List Int} {er : Nat → Addr} {st : Nat × Int} (M : Int) (w : World) (h : Rd w rb g n bs er st) (hM : M ≤ 9223372036854775807) :
    Calls Tryz.prog 200 #[.pointer (some ⟨rb, 0, none⟩), .int .i64 M] w fun e w' => e = .returned (.int .i64 (rdNum 8 n bs st.1 st.2 M).1) ∧ Rd w' rb g n bs er (rdNum 8 n bs st.1 st.2 M).2 ∧ w.grownBy w' (some rb) := by
  have h0 := h.n0
  refine (u64_any rb g n n st.1 st.2 M bs er w h.r h.e h.p (by omega) h.by' hM).mono ?_
  rintro e w' ⟨he, hw⟩
  exact ⟨he, h.went hw (rdNum_le _ _ _ _ _ _ h.p)⟩
theorem rd_flag {rb g n : Nat} {bs : List Int} {er : Nat → Addr} {st : Nat × Int} (w : World) (h : Rd w rb g n bs er st) :
    Calls Tryz.prog 189 #[.pointer (some ⟨rb, 0, none⟩)] w fun e w' => e = .returned (.bool (rdFlag n bs st.1 st.2).1) ∧ Rd w' rb g n bs er (rdFlag n bs st.1 st.2).2 ∧ w.grownBy w' (some rb) := by
  have h0 := h.n0
  refine (flag_any rb g n n st.1 st.2 bs er w h.r h.e h.p (by omega) h.by').mono ?_
  rintro e w' ⟨he, hw⟩
  exact ⟨he, h.went hw (rdFlag_le _ _ _ _ h.p)⟩
theorem rd_sum {rb g n : Nat} {bs : List Int} {er : Nat → Addr} {st : Nat × Int} (w : World) (h : Rd w rb g n bs er st) :
    Calls Tryz.prog 127 #[.pointer (some ⟨rb, 0, none⟩)] w fun e w' => e = .returned (.int .u64 (rdSum n bs st.1 st.2).1) ∧ Rd w' rb g n bs er (rdSum n bs st.1 st.2).2 ∧ w.grownBy w' (some rb) := by
  have h0 := h.n0
  refine (sum_any rb g n n st.1 st.2 bs er w h.r h.e h.p (by omega) h.by').mono ?_
  rintro e w' ⟨he, hw⟩
  exact ⟨he, h.went hw (rdSum_le _ _ _ _ h.p)⟩
theorem rd_text {rb g n : Nat} {bs : List Int} {er : Nat → Addr} {st : Nat × Int} (M : Int) (w : World) (h : Rd w rb g n bs er st) (hM : M ≤ 9223372036854775807) :
    Calls Tryz.prog 205 #[.pointer (some ⟨rb, 0, none⟩), .int .i64 M] w fun e w' => e = .returned (.string (txt (rdText n bs st.1 st.2 M).1)) ∧ Rd w' rb g n bs er (rdText n bs st.1 st.2 M).2 ∧ w.grownBy w' (some rb) := by
  have h0 := h.n0
  refine (text17_any rb g n n st.1 st.2 M bs er w h.r h.e h.p (by omega) h.by' hM).mono ?_
  rintro e w' ⟨he, hw⟩
  exact ⟨he, h.went hw (rdText_le _ _ _ _ _ h.p)⟩
theorem rd_bytes {rb g n : Nat} {bs : List Int} {er : Nat → Addr} {st : Nat × Int} (M : Int) (w : World) (h : Rd w rb g n bs er st) (hM : M ≤ 9223372036854775807) :
    Calls Tryz.prog 214 #[.pointer (some ⟨rb, 0, none⟩), .int .i64 M] w fun e w' => (∃ ao m c, e = .returned (.slice ao m c) ∧ w'.ownsRow w.heap.size 5 1 (.slice ao m c) m ((rdText n bs st.1 st.2 M).1.map (Value.int .u8))) ∧ Rd w' rb g n bs er (rdText n bs st.1 st.2 M).2 ∧ w.grownBy w' (some rb) := by
  have h0 := h.n0
  refine (bytes_any rb g n n st.1 st.2 M bs er w h.r h.e h.p (by omega) h.by' hM).mono ?_
  rintro e w' ⟨⟨ao, c, he, ho⟩, hw⟩
  exact ⟨⟨ao, _, c, he, ho⟩, h.went hw (rdText_le _ _ _ _ _ h.p)⟩
theorem rd_err {rb g n : Nat} {bs : List Int} {er : Nat → Addr} {st : Nat × Int} (w : World) (h : Rd w rb g n bs er st) :
    Calls Tryz.prog 128 #[.pointer (some ⟨rb, 0, none⟩)] w fun e w' => e = .returned (.tuple #[.int .i64 st.2, .int .i64 st.1]) ∧ ∃ m, w' = w.drewN m := err_any rb g n n st.1 st.2 bs w h.r
theorem rd_close {rb g n : Nat} {bs : List Int} {er : Nat → Addr} {st : Nat × Int} (w : World) (h : Rd w rb g n bs er st) :
    Calls Tryz.prog 131 #[.pointer (some ⟨rb, 0, none⟩)] w fun e w' => e = .returned (.int .i64 (rdClose n st.1 st.2)) ∧ Rd w' rb g n bs er (st.1, rdClose n st.1 st.2) ∧ w.grownBy w' (some rb) := by
  refine (close_any rb g n n st.1 st.2 bs w h.r).mono ?_
  rintro e w' ⟨he, hw⟩
  exact ⟨he, h.went (st' := (st.1, rdClose n st.1 st.2)) hw h.p⟩
end Go.Proofs.YtdkcplndplhblaaGreatDoor

/- Each kind of field is taken from a reader. -/
namespace Go.Proofs.YtdkcplndplhblaaGreatDoor
open Go.RowKit
set_option maxRecDepth 100000

/-- An interface value that holds what was taken: its lists are rows of their own. -/
def TRep (w : World) (base : Nat) (v : Value) : Val → Prop
  | .small x => v = .iface 128 (.int .i64 x)
  | .great x => v = .iface 133 (.int .i64 x)
  | .flag b => v = .iface 163 (.bool b)
  | .path s => v = .iface 155 (.string s)
  | .name s => v = .iface 156 (.string s)
  | .content d => ∃ ao n c, v = .iface 157 (.slice ao n c) ∧ w.ownsRow base 5 1 (.slice ao n c) n (d.map (Value.int .u8))
  | .attr i k z c => v = .iface 161 (.agg #[.int .i64 i, .int .i64 k, .int .i64 z, .int .i64 c])
  | .entries l => ∃ ao n c, v = .iface 162 (.slice ao n c) ∧ w.ownsRow base 86 3 (.slice ao n c) n (entCells l) ∧ l.length = n
theorem own_grown {w w' : World} {base rb : Nat} {e : TypeId} {k : Nat} {v : Value} {n : Nat} {xs : List Value} (h : w.ownsRow base e k v n xs) (hg : w.grownBy w' (some rb)) (hb : rb < base) : w'.ownsRow base e k v n xs := by
  refine h.kept hg ?_
  cases hv : v.ownBlock with
  | none => exact .inl rfl
  | some q => exact .inr (fun e => by cases e; have := (h.lt _ hv).1; omega)
theorem TRep.grown {w w' : World} {base rb : Nat} {v : Value} {x : Val} (h : TRep w base v x) (hg : w.grownBy w' (some rb)) (hb : rb < base) : TRep w' base v x := by
  cases x with
  | content d => obtain ⟨ao, n, c, rfl, hL⟩ := h; exact ⟨ao, n, c, rfl, own_grown hL hg hb⟩
  | entries l => obtain ⟨ao, n, c, rfl, hL, hl⟩ := h; exact ⟨ao, n, c, rfl, own_grown hL hg hb, hl⟩
  | _ => exact h
theorem TRep.iface {w : World} {base : Nat} {v : Value} {x : Val} (h : TRep w base v x) : ∃ t u, v = .iface t u := by
  cases x with
  | content d => obtain ⟨ao, n, c, rfl, hL⟩ := h; exact ⟨_, _, rfl⟩
  | entries l => obtain ⟨ao, n, c, rfl, hL, hl⟩ := h; exact ⟨_, _, rfl⟩
  | _ => exact ⟨_, _, h⟩

/-- An entry read at a place. -/
def rdEnt (n : Nat) (bs : List Int) (st : Nat × Int) : Ent × (Nat × Int) :=
  let a := rdText n bs st.1 st.2 23
  let b := rdNum 8 n bs a.2.1 a.2.2 9223372036854775807
  let c := rdNum 4 n bs b.2.1 b.2.2 4294967295
  (⟨txt a.1, b.1, c.1⟩, c.2)
def rdEnts (n : Nat) (bs : List Int) : Nat → Nat × Int → List Ent × (Nat × Int)
  | 0, st => ([], st)
  | k + 1, st => ((rdEnts n bs k st).1 ++ [(rdEnt n bs (rdEnts n bs k st).2).1], (rdEnt n bs (rdEnts n bs k st).2).2)
/-- What is taken for a field of that kind, and where it leaves the reader. -/
def takeV (n : Nat) (bs : List Int) (st : Nat × Int) : Val → Val × (Nat × Int)
  | .small _ => (.small (rdNum 4 n bs st.1 st.2 4294967295).1, (rdNum 4 n bs st.1 st.2 4294967295).2)
  | .great _ => (.great (rdNum 8 n bs st.1 st.2 9223372036854775807).1, (rdNum 8 n bs st.1 st.2 9223372036854775807).2)
  | .flag _ => (.flag (rdFlag n bs st.1 st.2).1, (rdFlag n bs st.1 st.2).2)
  | .path _ => (.path (txt (rdText n bs st.1 st.2 384).1), (rdText n bs st.1 st.2 384).2)
  | .name _ => (.name (txt (rdText n bs st.1 st.2 23).1), (rdText n bs st.1 st.2 23).2)
  | .content _ => (.content (rdText n bs st.1 st.2 1024).1, (rdText n bs st.1 st.2 1024).2)
  | .attr _ _ _ _ =>
    let a := rdNum 8 n bs st.1 st.2 9223372036854775807
    let b := rdNum 4 n bs a.2.1 a.2.2 4294967295
    let c := rdNum 4 n bs b.2.1 b.2.2 4294967295
    let d := rdNum 8 n bs c.2.1 c.2.2 9223372036854775807
    (.attr a.1 b.1 c.1 d.1, d.2)
  | .entries _ => (.entries (rdEnts n bs (rdNum 4 n bs st.1 st.2 4294967295).1.toNat (rdNum 4 n bs st.1 st.2 4294967295).2).1, (rdEnts n bs (rdNum 4 n bs st.1 st.2 4294967295).1.toNat (rdNum 4 n bs st.1 st.2 4294967295).2).2)
/-- The package's own error in taking it. -/
def takeE (n : Nat) (bs : List Int) (st : Nat × Int) : Val → Int
  | .entries _ => if 16 < (rdNum 4 n bs st.1 st.2 4294967295).1 then 46 else 0
  | _ => 0
/-- What take leaves where it has no error of its own. -/
def Took (w : World) (base rb g n : Nat) (bs : List Int) (er : Nat → Addr) (st : Nat × Int) (k : Val) (e : Ending) (w' : World) : Prop :=
  ∃ v, e = .returned (.tuple #[v, .int .i64 0]) ∧ TRep w' base v (takeV n bs st k).1 ∧ Rd w' rb g n bs er (takeV n bs st k).2 ∧ w.grownBy w' (some rb)

set_option maxHeartbeats 1000000 in
theorem small_take (x : Int) {rb g n : Nat} {bs : List Int} {er : Nat → Addr} {st : Nat × Int} (base : Nat) (w : World) (h : Rd w rb g n bs er st) (_hbase : base ≤ w.heap.size) :
    Calls Tryz.prog 191 #[.int .i64 x, .pointer (some ⟨rb, 0, none⟩)] w fun e w' => Took w base rb g n bs er st (.small x) e w' := by
  go_enter Tryz.func191, Tryz.ntmps191
  go_wp2_with fail
  refine (rd_u32 4294967295 _ h (by omega)).mono ?_
  rintro e w1 ⟨rfl, hR1, hg1⟩
  generalize hV : rdNum 4 n bs st.1 st.2 4294967295 = V at *
  have HV : Hid (rdNum 4 n bs st.1 st.2 4294967295 = V) := hV
  clear hV
  go_wp2
  go_ret2
  exact ⟨_, rfl, by rw [takeV, HV.out]; rfl, by rw [takeV, HV.out]; exact hR1, hg1⟩

set_option maxHeartbeats 1000000 in
theorem great_take (x : Int) {rb g n : Nat} {bs : List Int} {er : Nat → Addr} {st : Nat × Int} (base : Nat) (w : World) (h : Rd w rb g n bs er st) (_hbase : base ≤ w.heap.size) :
    Calls Tryz.prog 198 #[.int .i64 x, .pointer (some ⟨rb, 0, none⟩)] w fun e w' => Took w base rb g n bs er st (.great x) e w' := by
  go_enter Tryz.func198, Tryz.ntmps198
  go_wp2_with fail
  refine (rd_u64 9223372036854775807 _ h (by omega)).mono ?_
  rintro e w1 ⟨rfl, hR1, hg1⟩
  generalize hV : rdNum 8 n bs st.1 st.2 9223372036854775807 = V at *
  have HV : Hid (rdNum 8 n bs st.1 st.2 9223372036854775807 = V) := hV
  clear hV
  go_wp2
  go_ret2
  exact ⟨_, rfl, by rw [takeV, HV.out]; rfl, by rw [takeV, HV.out]; exact hR1, hg1⟩

set_option maxHeartbeats 1000000 in
theorem flag_take (b : Bool) {rb g n : Nat} {bs : List Int} {er : Nat → Addr} {st : Nat × Int} (base : Nat) (w : World) (h : Rd w rb g n bs er st) (_hbase : base ≤ w.heap.size) :
    Calls Tryz.prog 221 #[.bool b, .pointer (some ⟨rb, 0, none⟩)] w fun e w' => Took w base rb g n bs er st (.flag b) e w' := by
  go_enter Tryz.func221, Tryz.ntmps221
  go_wp2_with fail
  refine (rd_flag _ h).mono ?_
  rintro e w1 ⟨rfl, hR1, hg1⟩
  generalize hV : rdFlag n bs st.1 st.2 = V at *
  have HV : Hid (rdFlag n bs st.1 st.2 = V) := hV
  clear hV
  go_wp2
  go_ret2
  exact ⟨_, rfl, by rw [takeV, HV.out]; rfl, by rw [takeV, HV.out]; exact hR1, hg1⟩

set_option maxHeartbeats 1000000 in
theorem path_take (s : ByteArray) {rb g n : Nat} {bs : List Int} {er : Nat → Addr} {st : Nat × Int} (base : Nat) (w : World) (h : Rd w rb g n bs er st) (_hbase : base ≤ w.heap.size) :
    Calls Tryz.prog 203 #[.string s, .pointer (some ⟨rb, 0, none⟩)] w fun e w' => Took w base rb g n bs er st (.path s) e w' := by
  go_enter Tryz.func203, Tryz.ntmps203
  go_wp2_with fail
  refine (rd_text 384 _ h (by omega)).mono ?_
  rintro e w1 ⟨rfl, hR1, hg1⟩
  generalize hV : rdText n bs st.1 st.2 384 = V at *
  have HV : Hid (rdText n bs st.1 st.2 384 = V) := hV
  clear hV
  go_wp2
  go_ret2
  exact ⟨_, rfl, by rw [takeV, HV.out]; rfl, by rw [takeV, HV.out]; exact hR1, hg1⟩

set_option maxHeartbeats 1000000 in
theorem name_take (s : ByteArray) {rb g n : Nat} {bs : List Int} {er : Nat → Addr} {st : Nat × Int} (base : Nat) (w : World) (h : Rd w rb g n bs er st) (_hbase : base ≤ w.heap.size) :
    Calls Tryz.prog 211 #[.string s, .pointer (some ⟨rb, 0, none⟩)] w fun e w' => Took w base rb g n bs er st (.name s) e w' := by
  go_enter Tryz.func211, Tryz.ntmps211
  go_wp2_with fail
  refine (rd_text 23 _ h (by omega)).mono ?_
  rintro e w1 ⟨rfl, hR1, hg1⟩
  generalize hV : rdText n bs st.1 st.2 23 = V at *
  have HV : Hid (rdText n bs st.1 st.2 23 = V) := hV
  clear hV
  go_wp2
  go_ret2
  exact ⟨_, rfl, by rw [takeV, HV.out]; rfl, by rw [takeV, HV.out]; exact hR1, hg1⟩

set_option maxHeartbeats 1000000 in
theorem content_take (ao : Option Addr) (an ac : Nat) (d : List Int) {rb g n : Nat} {bs : List Int} {er : Nat → Addr} {st : Nat × Int} (base : Nat) (w : World) (h : Rd w rb g n bs er st) (hbase : base ≤ w.heap.size) :
    Calls Tryz.prog 213 #[.slice ao an ac, .pointer (some ⟨rb, 0, none⟩)] w fun e w' => Took w base rb g n bs er st (.content d) e w' := by
  go_enter Tryz.func213, Tryz.ntmps213
  go_wp2_with fail
  refine (rd_bytes 1024 _ h (by omega)).mono ?_
  rintro e w1 ⟨⟨a1, m1, c1, rfl, ho1⟩, hR1, hg1⟩
  generalize hV : rdText n bs st.1 st.2 1024 = V at *
  have HV : Hid (rdText n bs st.1 st.2 1024 = V) := hV
  clear hV
  go_wp2
  go_ret2
  exact ⟨_, rfl, by rw [takeV, HV.out]; exact ⟨a1, m1, c1, rfl, ownsRow_mono ho1 hbase⟩, by rw [takeV, HV.out]; exact hR1, hg1⟩

end Go.Proofs.YtdkcplndplhblaaGreatDoor

/- An Attr is taken from a reader. -/
namespace Go.Proofs.YtdkcplndplhblaaGreatDoor
open Go.RowKit
set_option maxRecDepth 100000

/-- All that a reader stands on lies below. -/
def Lim (lim rb g : Nat) (er : Nat → Addr) : Prop := rb < lim ∧ g < lim ∧ ∀ i, i < 5 → gvar i < lim ∧ (er i).block < lim
theorem Rd.lim {w : World} {rb g n : Nat} {bs : List Int} {er : Nat → Addr} {st : Nat × Int} (h : Rd w rb g n bs er st) : Lim w.heap.size rb g er := by
  refine ⟨h.r.lt, h.r.glt, fun i hi => ⟨World.block_lt_of_cell? w _ (h.e.cell i hi), ?_⟩⟩
  obtain ⟨c, t, hr⟩ := h.e.row i hi
  exact lt_of_block hr
theorem Rd.beside {w w' : World} {rb g n lim B : Nat} {bs : List Int} {er : Nat → Addr} {st : Nat × Int} (h : Rd w rb g n bs er st) (hL : Lim lim rb g er) (hg : w.grownBy w' (some B)) (hB : lim ≤ B) : Rd w' rb g n bs er st := by
  obtain ⟨h1, h2, h3⟩ := hL
  refine ⟨h.r.kept hg (by simp; omega) (by simp; omega), h.e.grown hg (fun i hi => ?_), h.p, h.n0, h.by', h.apart⟩
  have := h3 i hi
  exact ⟨by simp; omega, by simp; omega⟩
theorem grown_above {a b c : World} {rb B : Nat} (h : a.grownBy b (some rb)) (k : b.grownBy c (some B)) (hB : a.heap.size ≤ B) : a.grownBy c (some rb) :=
  ⟨k.os.trans h.os, k.tape.trans h.tape, k.output.trans h.output, Nat.le_trans h.size k.size, fun i hi hr => (k.block i (Nat.lt_of_lt_of_le hi h.size) (by simp; omega)).trans (h.block i hi hr)⟩

/-- A box of four numbers. -/
abbrev Box4 (w : World) (B : Nat) (a b c d : Int) : Prop := w.heap[B]? = some (.cells #[.int .i64 a, .int .i64 b, .int .i64 c, .int .i64 d] 161 (0, 0))
theorem Box4.c {w : World} {B : Nat} {a b c d : Int} (h : Box4 w B a b c d) : w.cell? ⟨B, 0, none⟩ = some (.int .i64 a) ∧ w.cell? ⟨B, 1, none⟩ = some (.int .i64 b) ∧ w.cell? ⟨B, 2, none⟩ = some (.int .i64 c) ∧ w.cell? ⟨B, 3, none⟩ = some (.int .i64 d) ∧ ∀ o, w.frozen? ⟨B, o, none⟩ = false := by
  refine ⟨?_, ?_, ?_, ?_, fun o => ?_⟩ <;> simp [World.cell?, World.frozen?, h]

set_option maxHeartbeats 2000000 in
theorem attr_take (i k z c : Int) {rb g n : Nat} {bs : List Int} {er : Nat → Addr} {st : Nat × Int} (base : Nat) (w : World) (h : Rd w rb g n bs er st) :
    Calls Tryz.prog 217 #[.agg #[.int .i64 i, .int .i64 k, .int .i64 z, .int .i64 c], .pointer (some ⟨rb, 0, none⟩)] w fun e w' => Took w base rb g n bs er st (.attr i k z c) e w' := by
  have hlim := h.lim
  have hrb := hlim.1
  go_enter Tryz.func217, Tryz.ntmps217
  go_wp2_with fail
  generalize hw0 : (w.alloc (.cells #[.int .i64 i, .int .i64 k, .int .i64 z, .int .i64 c] 161)).alloc (.cells #[.int .i64 0, .int .i64 0, .int .i64 0, .int .i64 0] 161) = w0
  have hb0 : Below w.heap.size w w0 := hw0 ▸ box2 w _ _
  have hx0 : Box4 w0 (w.heap.size + 1) 0 0 0 0 := by
    have q := heap_alloc_new (w.alloc (.cells #[.int .i64 i, .int .i64 k, .int .i64 z, .int .i64 c] 161)) (.cells #[.int .i64 0, .int .i64 0, .int .i64 0, .int .i64 0] 161)
    rw [show (w.alloc (.cells #[.int .i64 i, .int .i64 k, .int .i64 z, .int .i64 c] 161)).heap.size = w.heap.size + 1 by simp, hw0] at q
    exact q
  have hG0 : w.grownBy w0 (some rb) := ⟨hb0.os, hb0.tape, hb0.output, hb0.size, fun i hi _ => hb0.block i hi⟩
  have hR0 := h.kept hb0
  clear hw0 hb0 h
  refine (rd_u64 9223372036854775807 _ hR0 (by omega)).mono ?_
  rintro e w1 ⟨rfl, hR1, hg1⟩
  generalize hA : rdNum 8 n bs st.1 st.2 9223372036854775807 = A at *
  have HA : Hid (rdNum 8 n bs st.1 st.2 9223372036854775807 = A) := hA
  have hx1 : Box4 w1 (w.heap.size + 1) 0 0 0 0 := (hg1.block _ (lt_of_block hx0) (by simp; omega)).trans hx0
  have hG1 := grown_trans hG0 hg1
  obtain ⟨p0, p1, p2, p3, pf⟩ := hx1.c
  clear hA hG0 hg1 hR0 hx0
  go_wp2_with fail
  have hs1 := grown_setCell w1 (w.heap.size + 1) 0 (.int .i64 A.1)
  have hx1' : Box4 (w1.setCell ⟨w.heap.size + 1, 0, none⟩ (.int .i64 A.1)) (w.heap.size + 1) A.1 0 0 0 := by rw [Box4, heap_setCell_same _ _ _ _ _ _ hx1]; rfl
  have hR1' := hR1.beside hlim hs1 (by omega)
  have hG1' := grown_above hG1 hs1 (by omega)
  clear hR1 hG1 hs1 hx1 p0 p1 p2 p3 pf
  refine (rd_u32 4294967295 _ hR1' (by omega)).mono ?_
  rintro e w2 ⟨rfl, hR2, hg2⟩
  generalize hB : rdNum 4 n bs A.2.1 A.2.2 4294967295 = B at *
  have HB : Hid (rdNum 4 n bs A.2.1 A.2.2 4294967295 = B) := hB
  have hx2 : Box4 w2 (w.heap.size + 1) A.1 0 0 0 := (hg2.block _ (lt_of_block hx1') (by simp; omega)).trans hx1'
  have hG2 := grown_trans hG1' hg2
  obtain ⟨p0, p1, p2, p3, pf⟩ := hx2.c
  clear hB hG1' hg2 hR1' hx1'
  go_wp2_with fail
  have hs2 := grown_setCell w2 (w.heap.size + 1) 1 (.int .i64 B.1)
  have hx2' : Box4 (w2.setCell ⟨w.heap.size + 1, 1, none⟩ (.int .i64 B.1)) (w.heap.size + 1) A.1 B.1 0 0 := by rw [Box4, heap_setCell_same _ _ _ _ _ _ hx2]; rfl
  have hR2' := hR2.beside hlim hs2 (by omega)
  have hG2' := grown_above hG2 hs2 (by omega)
  clear hR2 hG2 hs2 hx2 p0 p1 p2 p3 pf
  refine (rd_u32 4294967295 _ hR2' (by omega)).mono ?_
  rintro e w3 ⟨rfl, hR3, hg3⟩
  generalize hC : rdNum 4 n bs B.2.1 B.2.2 4294967295 = C at *
  have HC : Hid (rdNum 4 n bs B.2.1 B.2.2 4294967295 = C) := hC
  have hx3 : Box4 w3 (w.heap.size + 1) A.1 B.1 0 0 := (hg3.block _ (lt_of_block hx2') (by simp; omega)).trans hx2'
  have hG3 := grown_trans hG2' hg3
  obtain ⟨p0, p1, p2, p3, pf⟩ := hx3.c
  clear hC hG2' hg3 hR2' hx2'
  go_wp2_with fail
  have hs3 := grown_setCell w3 (w.heap.size + 1) 2 (.int .i64 C.1)
  have hx3' : Box4 (w3.setCell ⟨w.heap.size + 1, 2, none⟩ (.int .i64 C.1)) (w.heap.size + 1) A.1 B.1 C.1 0 := by rw [Box4, heap_setCell_same _ _ _ _ _ _ hx3]; rfl
  have hR3' := hR3.beside hlim hs3 (by omega)
  have hG3' := grown_above hG3 hs3 (by omega)
  clear hR3 hG3 hs3 hx3 p0 p1 p2 p3 pf
  refine (rd_u64 9223372036854775807 _ hR3' (by omega)).mono ?_
  rintro e w4 ⟨rfl, hR4, hg4⟩
  generalize hD : rdNum 8 n bs C.2.1 C.2.2 9223372036854775807 = D at *
  have HD : Hid (rdNum 8 n bs C.2.1 C.2.2 9223372036854775807 = D) := hD
  have hx4 : Box4 w4 (w.heap.size + 1) A.1 B.1 C.1 0 := (hg4.block _ (lt_of_block hx3') (by simp; omega)).trans hx3'
  have hG4 := grown_trans hG3' hg4
  obtain ⟨p0, p1, p2, p3, pf⟩ := hx4.c
  have hs4 := grown_setCell w4 (w.heap.size + 1) 3 (.int .i64 D.1)
  have hx4' : Box4 (w4.setCell ⟨w.heap.size + 1, 3, none⟩ (.int .i64 D.1)) (w.heap.size + 1) A.1 B.1 C.1 D.1 := by rw [Box4, heap_setCell_same _ _ _ _ _ _ hx4]; rfl
  have hR4' := hR4.beside hlim hs4 (by omega)
  have hG4' := grown_above hG4 hs4 (by omega)
  obtain ⟨q0, q1, q2, q3, qf⟩ := hx4'.c
  clear hD hG3' hg4 hR3' hx3' hR4 hG4 hs4 hx4 hx4'
  go_wp2
  go_ret2
  have e : takeV n bs st (.attr i k z c) = (.attr A.1 B.1 C.1 D.1, D.2) := by
    simp only [takeV, HA.out, HB.out, HC.out, HD.out]
  refine ⟨_, rfl, ?_, ?_, hG4'⟩
  · rw [e]; rfl
  · rw [e]; exact hR4'
end Go.Proofs.YtdkcplndplhblaaGreatDoor
