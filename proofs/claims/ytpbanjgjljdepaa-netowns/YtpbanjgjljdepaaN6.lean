/- A list of flights sorted by their numbers: slices.SortFunc by the library's own contract. -/
import Derived.Test.YtpbanjgjljdepaaN5
import Derived.Test.YtpbanjgjljdepaaShelf
namespace Go.Proofs.Ytpbanjgjljdepaa
open Go.RowKit Go.Maps Go.Sort
set_option maxRecDepth 100000

/-- How two numbers compare. -/
def cmpI (x y : Int) : Int := if x < y then -1 else if y < x then 1 else 0
theorem compare_any (x y : Int) (w : World) : Calls Try.prog 34 #[.int .i64 x, .int .i64 y] w fun e w' => e = .returned (.int .i64 (cmpI x y)) ∧ w' = w := by
  have hN : ∀ z : Int, Calls Try.prog 44 #[.int .i64 z] w fun e w' => e = .returned (.bool false) ∧ w' = w := fun z => by
    go_enter Try.func44, Try.ntmps44
    go_wp2
    go_ret
    simp
  unfold cmpI
  by_cases h1 : x < y
  · rw [if_pos h1]
    go_enter Try.func34, Try.ntmps34
    go_wp2_with (go_at_call 44; refine (hN _).mono ?_; rintro e wn ⟨rfl, hwn⟩; subst wn)
    go_ret
    exact ⟨rfl, rfl⟩
  · rw [if_neg h1]
    by_cases h2 : y < x
    · rw [if_pos h2]
      go_enter Try.func34, Try.ntmps34
      go_wp2_with (go_at_call 44; refine (hN _).mono ?_; rintro e wn ⟨rfl, hwn⟩; subst wn)
      go_ret
      exact ⟨rfl, rfl⟩
    · rw [if_neg h2]
      go_enter Try.func34, Try.ntmps34
      go_wp2_with (go_at_call 44; refine (hN _).mono ?_; rintro e wn ⟨rfl, hwn⟩; subst wn)
      go_ret
      exact ⟨rfl, rfl⟩
/-- A flight whose bytes are a slice. -/
structure Sf where
  no : Int
  to : Int
  d : List Int
  a : Option Addr
  n : Nat
  c : Nat
instance : Inhabited Sf := ⟨⟨0, 0, [], none, 0, 0⟩⟩
def sfC (x : Sf) : List Value := [.int .i64 x.no, .int .i64 x.to, .slice x.a x.n x.c]
abbrev Sf.en (x : Sf) : En := ⟨x.no, x.to, x.d, .slice x.a x.n x.c⟩
theorem sfC_en (x : Sf) : flC x.en = sfC x := rfl
abbrev cfS (x y : Sf) : Int := cmpI x.no y.no
theorem ltS (x y : Sf) : ltOf cfS x y = decide (x.no < y.no) := by
  unfold ltOf cfS cmpI
  by_cases h1 : x.no < y.no
  · simp [h1]
  · by_cases h2 : y.no < x.no <;> simp [h1, h2]
theorem swoS : SWO (ltOf cfS) := ⟨fun x => by rw [ltS]; simp, fun x y z h1 h2 => by rw [ltS] at *; simp at *; omega, fun x y z h1 h2 => by rw [ltS] at *; simp at *; omega⟩
set_option maxHeartbeats 1000000 in
theorem closure_any (x y : Sf) (W : World) : Calls Try.prog 33 #[.agg #[.int .i64 x.no, .int .i64 x.to, .slice x.a x.n x.c], .agg #[.int .i64 y.no, .int .i64 y.to, .slice y.a y.n y.c]] W fun e w' => e = .returned (.int .i64 (cfS x y)) ∧ ∃ q os', w' = grow (W.drewN q) os' := by
  have hcon := fun W' => compare_any x.no y.no W'
  unfold cfS
  generalize cmpI x.no y.no = r at hcon ⊢
  go_enter Try.func33, Try.ntmps33
  go_wp2_with (go_at_call 34; refine (hcon _).mono ?_; rintro e w' ⟨rfl, rfl⟩)
  go_ret
  exact ⟨rfl, 0, _, by rw [alloc_eq_grow, alloc_eq_grow, grow_grow]; rfl⟩
theorem cmpLays_any (blk off size : Nat) (w : World) : CmpLays Try.prog 33 #[] sfC 3 cfS blk off size w :=
  fun _ _ _ _ x y => closure_any x y _
theorem flat_get : ∀ (ss : List Sf) (t : Nat), (ss.flatMap sfC)[t]? = (ss[t / 3]?).bind fun x => (sfC x)[t % 3]?
  | [], t => by simp
  | x :: ss, t => by
    rw [List.flatMap_cons]
    by_cases h : t < 3
    · rw [List.getElem?_append_left (by simp [sfC]; exact h), Nat.div_eq_of_lt h, Nat.mod_eq_of_lt h]; rfl
    · rw [List.getElem?_append_right (by simp [sfC]; omega), show (sfC x).length = 3 from rfl, flat_get ss (t - 3)]
      have e1 : t / 3 = (t - 3) / 3 + 1 := by omega
      have e2 : t % 3 = (t - 3) % 3 := by omega
      rw [e1, e2]; rfl
theorem flat_len (ss : List Sf) : (ss.flatMap sfC).length = ss.length * 3 := by
  induction ss with
  | nil => rfl
  | cons x ss ih => rw [List.flatMap_cons, List.length_append, ih, List.length_cons, show (sfC x).length = 3 from rfl]; omega
theorem flatK_list (ss : List Sf) : (flatK sfC 3 ss.toArray).toList = ss.flatMap sfC := by
  apply List.ext_getElem?
  intro t
  by_cases h : t < ss.length * 3
  · have h3 : t / 3 < ss.length := by omega
    have hm : t % 3 < (sfC (ss[t / 3]'h3)).length := by show t % 3 < 3; omega
    have e2 : (ss.flatMap sfC)[t]? = some ((sfC (ss[t / 3]'h3))[t % 3]'hm) := by
      rw [flat_get, List.getElem?_eq_getElem h3]
      exact List.getElem?_eq_getElem hm
    have hs : t < (flatK sfC 3 ss.toArray).size := by simpa using h
    have e3 := get_flatK sfC 3 ss.toArray t (by simpa using h)
    rw [getElem!_pos _ t hs] at e3
    rw [e2, Array.getElem?_toList, Array.getElem?_eq_getElem hs, e3]
    rw [getElem!_pos ss.toArray (t / 3) (by simpa using h3)]
    have e4 : ss.toArray[t / 3]'(by simpa using h3) = ss[t / 3]'h3 := by simp
    rw [e4, getElem!_pos _ (t % 3) hm]
  · rw [List.getElem?_eq_none (by simp; omega), List.getElem?_eq_none (by rw [flat_len]; omega)]
theorem take_putK (cur : Array Value) (F : Array Value) (h : F.size ≤ cur.size) : (putCells id 0 F cur).toList.take F.size = F.toList := by
  apply List.ext_getElem?
  intro j
  by_cases hj : j < F.size
  · rw [List.getElem?_take_of_lt hj, Array.getElem?_toList, Array.getElem?_toList]
    simp [putCells, hj, show j < cur.size by omega]
  · rw [List.getElem?_take_eq_none (by omega), List.getElem?_eq_none (by simp; omega)]
theorem heap_sortedK {w : World} {g n : Nat} {os : Array Obj} {cur : Array Value} {e : TypeId} {fr : Nat × Nat} (d : Array Sf) (hb : w.heap[g]? = some (.cells cur e fr)) :
    (sortWorldK sfC 3 w g 0 n d os).heap[g]? = some (.cells (putCells id 0 (flatK sfC 3 d) cur) e fr) := by
  have hg : g < w.heap.size := (Array.getElem?_eq_some_iff.1 hb).1
  unfold sortWorldK putRowK
  rw [heap_grow_old _ _ (by simpa using hg)]
  simp [putRow, mapBlock, Sort.ahead, Array.getElem?_modify, hb, onCells]
theorem grownBy_sortedK {w : World} {g n : Nat} {os : Array Obj} (d : Array Sf) : w.grownBy (sortWorldK sfC 3 w g 0 n d os) (some g) := by
  unfold sortWorldK putRowK
  refine ⟨rfl, rfl, rfl, by simp, fun k hk hne => ?_⟩
  rw [heap_grow_old _ _ (by simpa using hk)]
  have : g ≠ k := fun e => hne (by rw [e])
  simp [putRow, mapBlock, Sort.ahead, Array.getElem?_modify, this]
theorem aggF (w : World) : (isAgg (Try.sfl_ren.t 24)).run Try.prog w = .ok true w := Try.isAgg42 w
theorem sizF (w : World) : (Go.sizeOf (Try.sfl_ren.t 24)).run Try.prog w = .ok 3 w := Try.sizeOf42 w
theorem sorted_of {d : Array Sf} (h : SortedIn (ltOf cfS) 0 d.size d) : d.toList.Pairwise (fun a b => a.no ≤ b.no) := by
  rw [List.pairwise_iff_getElem]
  intro i j hi hj hij
  have hi' : i < d.size := by simpa using hi
  have hj' : j < d.size := by simpa using hj
  have := h i j (Nat.zero_le _) hij hj'
  rw [ltS, getElem!_pos d i hi', getElem!_pos d j hj'] at this
  simp only [decide_eq_false_iff_not] at this
  simp only [Array.getElem_toList]
  omega
theorem perm_of {d d' : Array Sf} (h : PermIn 0 d.size d d') : d'.toList.Perm d.toList ∧ d'.size = d.size := by
  have h3 := h.2.2
  have e1 : d.extract 0 d.size = d := by simp
  have e2 : d'.extract 0 d.size = d' := by rw [← h.1]; simp
  rw [e1, e2] at h3
  exact ⟨h3, h.1⟩
set_option maxHeartbeats 1000000 in
theorem sort_any {w : World} {base g n cap : Nat} {ss : List Sf} (hr : w.ownsRow base 42 3 (.slice (some ⟨g, 0, none⟩) n cap) n (ss.flatMap sfC)) (hn : ss.length = n) (hl : n ≤ 100000) :
    Calls Try.prog 32 #[.slice (some ⟨g, 0, none⟩) n cap, .func (.func 33) #[] #[]] w fun e w' => e = .returned (.tuple #[]) ∧ ∃ ts : List Sf, ts.Perm ss ∧ ts.Pairwise (fun a b => a.no ≤ b.no) ∧ w'.ownsRow base 42 3 (.slice (some ⟨g, 0, none⟩) n cap) n (ts.flatMap sfC) ∧ w.grownBy w' (some g) := by
  rcases hr.2 with ⟨q, _⟩ | ⟨g', cap', cur, q, hbase, hb, h1, h2, h3, h4⟩
  · cases q
  cases q
  have hH : HoldsK sfC 3 w g 0 ss.toArray := by
    intro j hj
    rw [size_flatK] at hj
    have hj' : j < (ss.flatMap sfC).length := by rw [flat_len]; simpa using hj
    refine ⟨?_, by simp [World.frozen?, hb]⟩
    have e1 : (cur.toList.take (n * 3))[j]? = (ss.flatMap sfC)[j]? := by rw [h4]
    rw [List.getElem?_take_of_lt (by rw [flat_len] at hj'; omega)] at e1
    simp only [World.cell?, hb, Nat.zero_add]
    simp only [Option.isSome_none, Bool.false_eq_true, if_false]
    rw [← Array.getElem?_toList, e1]
    have hs : j < (flatK sfC 3 ss.toArray).size := by rw [size_flatK]; exact hj
    rw [getElem!_pos _ j hs]
    show _ = some ((flatK sfC 3 ss.toArray)[j])
    rw [← flatK_list, Array.getElem?_toList, Array.getElem?_eq_getElem hs]
  have eg : ∀ args w, (callFunc 33 args).run Try.prog w = .ok (.enter 33 args) w := Go.Proofs.enters_of Try.func33 (by kernel_rfl) rfl
  have hcon := AnyQ.slices_SortFunc Try.sfl 3 aggF sizF sfC (fun _ => rfl) (fun x v hv => by simp [sfC] at hv; rcases hv with rfl | rfl | rfl <;> rfl) cfS swoS 33 #[] g 0 cap ss.toArray w eg (cmpLays_any g 0 _ w) hH (heap_lt hb) (by simp; omega)
  have e0 : ss.toArray.size = n := by simpa using hn
  rw [e0] at hcon
  refine Calls.mono hcon ?_
  rintro e w' ⟨rfl, d', m, os, hp, hs, rfl⟩
  rw [← e0] at hp hs
  obtain ⟨p1, p2⟩ := perm_of hp
  rw [← p2] at hs
  refine ⟨rfl, d'.toList, by simpa using p1, sorted_of hs, ?_, grownBy_sortedK d'⟩
  have hsz : d'.size = n := p2.trans e0
  refine ⟨by rw [flat_len]; simp [hsz], Or.inr ⟨g, cap, _, rfl, hbase, heap_sortedK d' hb, h1, h2, by simp [putCells, h3], ?_⟩⟩
  have := take_putK cur (flatK sfC 3 d') (by rw [size_flatK, h3, hsz]; omega)
  rw [size_flatK, hsz] at this
  rw [this]
  have e5 := flatK_list d'.toList
  rw [Array.toArray_toList] at e5
  exact e5
end Go.Proofs.Ytpbanjgjljdepaa
