/- A list of entries that may be. -/
import Derived.Test.YtdkcplndplhblaaGreatDoorPk08
import Derived.Test.YtdkcplndplhblaaGreatDoorPk06
import Derived.Test.YtdkcplndplhblaaGreatDoorPk05
namespace Go.Proofs.YtdkcplndplhblaaGreatDoor
open Go.RowKit
set_option maxRecDepth 100000

/-- An entry that may be. -/
def entOk (e : Ent) : Bool := nameB e.name && inB e.id 1 562949953421311 && kindB e.kind
/-- The name a is not above b. -/
def notAbove (a b : ByteArray) : Bool := Op.bytesLess a.toList b.toList || a.toList == b.toList
/-- The entry number k may be where it is. -/
def okAt (l : List Ent) : Nat → Bool
  | 0 => match l[0]? with | none => true | some e => entOk e
  | k + 1 => match l[k + 1]?, l[k]? with | some e, some p => entOk e && !notAbove e.name p.name | _, _ => true
def listB (l : List Ent) : Bool := decide (l.length ≤ 16) && decide (∀ k, k < l.length → okAt l k = true)
theorem okAt_zero {l : List Ent} (h : 0 < l.length) : okAt l 0 = entOk l[0] := by simp [okAt, h]
theorem okAt_succ {l : List Ent} {k : Nat} (h : k + 1 < l.length) : okAt l (k + 1) = (entOk l[k + 1] && !notAbove l[k + 1].name (l[k]'(by omega)).name) := by
  have h2 : k < l.length := by omega
  simp [okAt, h, h2]
theorem listB_bad {l : List Ent} {k : Nat} (h : k < l.length) (hk : okAt l k = false) : listB l = false := by
  unfold listB
  have : ¬ ∀ k, k < l.length → okAt l k = true := fun q => by rw [q k h] at hk; cases hk
  simp [this]
theorem okAt_ent {l : List Ent} {k : Nat} (h : k < l.length) (hk : entOk l[k] = false) : okAt l k = false := by
  cases k with
  | zero => rw [okAt_zero h, hk]
  | succ k => rw [okAt_succ h, hk]; rfl

set_option maxHeartbeats 2000000 in
theorem isList_few (l : List Ent) (lo : Option Addr) (n lc : Nat) (w : World) (hE : CLies w lo n lc 3 (entCells l)) (hl : l.length = n) (hn : n ≤ 16) :
    Calls Tryz.prog 140 #[.slice lo n lc] w fun e w' => e = .returned (.bool (listB l)) ∧ Below w.heap.size w w' := by
  have hni : (n : Int) ≤ 16 := by omega
  go_enter Tryz.func140, Tryz.ntmps140
  go_wp2
  go_loopw [10] (fun i wr => ∃ k : Nat, k ≤ n ∧ i = .int .i64 k ∧ Hid (∀ j, j < k → okAt l j = true) ∧ Below w.heap.size w wr) (fun i _ => n - (intOf i).toNat)
  case atStart => exact ⟨0, Nat.zero_le _, rfl, (fun j h => by omega : ∀ j, j < 0 → okAt l j = true), Below.refl _ _⟩
  case round =>
    obtain ⟨k, hk, rfl, HO, hb⟩ := hrel
    have hbs := hb.size
    by_cases hlt : k < n
    · have hki : decide ((k : Int) < (n : Int)) = true := by simpa using hlt
      have hkl : k < l.length := by omega
      obtain ⟨b', o', rfl, hbw, q0, q1, q2⟩ := ents_at hE hkl
      have q0 := cell_later hb q0 (Nat.le_refl _)
      have q1 := cell_later hb q1 (Nat.le_refl _)
      have q2 := cell_later hb q2 (Nat.le_refl _)
      have hbad : entOk l[k] = false → listB l = false := fun h => listB_bad hkl (okAt_ent hkl h)
      have HB : Hid (entOk l[k] = false → listB l = false) := hbad
      have hprev : 0 < k → ∃ p : ByteArray, w.cell? ⟨b', o' + (k - 1) * 3, none⟩ = some (.string p) ∧ okAt l k = (entOk l[k] && !notAbove l[k].name p) := by
        intro h0
        obtain ⟨j, rfl⟩ : ∃ j, k = j + 1 := ⟨k - 1, by omega⟩
        obtain ⟨b2, o2, e2, _, p0, _, _⟩ := ents_at hE (show j < l.length by omega)
        cases e2
        exact ⟨(l[j]'(by omega)).name, p0, okAt_succ hkl⟩
      have hzero : k = 0 → okAt l k = entOk l[k] := by
        intro h0
        subst h0
        exact okAt_zero hkl
      have HZ : Hid (k = 0 → okAt l k = entOk l[k]) := hzero
      have hone : okAt l k = false → listB l = false := listB_bad hkl
      have H1 : Hid (okAt l k = false → listB l = false) := hone
      have hnext : okAt l k = true → ∀ j, j < k + 1 → okAt l j = true := fun h j hj => by
        by_cases hjk : j < k
        · exact HO.out j hjk
        · obtain rfl : j = k := by omega
          exact h
      have HN : Hid (okAt l k = true → ∀ j, j < k + 1 → okAt l j = true) := hnext
      clear hbad hzero hone hnext hE
      have hent : entOk l[k] = (nameB l[k].name && inB l[k].id 1 562949953421311 && kindB l[k].kind) := rfl
      generalize okAt l k = OK at *
      generalize l[k] = x at *
      obtain ⟨nm, id, kd⟩ := x
      simp only at q0 q1 q2 hent hprev
      have HE : Hid (entOk ⟨nm, id, kd⟩ = (nameB nm && inB id 1 562949953421311 && kindB kd)) := hent
      clear hent
      have HP : Hid (0 < k → ∃ p : ByteArray, w.cell? ⟨b', o' + (k - 1) * 3, none⟩ = some (.string p) ∧ OK = (entOk ⟨nm, id, kd⟩ && !notAbove nm p)) := hprev
      clear hprev
      cases h1 : nameB nm
      · go_wp2_with (first
          | (go_at_call 138; refine (isName_any nm _).mono ?_; rintro e w1 ⟨rfl, hb1⟩; rw [h1]))
        go_ret
        have := HE.out; rw [h1] at this
        rw [HB.out this]
        exact ⟨rfl, (hb.alloc hb.size _).trans (hb1.mono (by simp; omega))⟩
      cases h2 : inB id 1 562949953421311
      · go_wp2_with (first
          | (go_at_call 138; refine (isName_any nm _).mono ?_; rintro e w1 ⟨rfl, hb1⟩; rw [h1]; have d1 := cell_later hb1 (show (wr.alloc (.cells #[.string nm, .int .i64 id, .int .i64 kd] 86)).cell? ⟨wr.heap.size, 1, none⟩ = some (.int .i64 id) by simp [go_sem]) (Nat.le_refl _))
          | (go_at_call 136; refine (isId_any id _).mono ?_; rintro e w2 ⟨rfl, hw2⟩; subst w2; rw [h2]))
        go_ret
        have := HE.out; rw [h1, h2] at this
        rw [HB.out this]
        exact ⟨rfl, (hb.alloc hb.size _).trans (hb1.mono (by simp; omega))⟩
      cases h3 : kindB kd
      · go_wp2_with (first
          | (go_at_call 138; refine (isName_any nm _).mono ?_; rintro e w1 ⟨rfl, hb1⟩; rw [h1]; have d1 := cell_later hb1 (show (wr.alloc (.cells #[.string nm, .int .i64 id, .int .i64 kd] 86)).cell? ⟨wr.heap.size, 1, none⟩ = some (.int .i64 id) by simp [go_sem]) (Nat.le_refl _); have d2 := cell_later hb1 (show (wr.alloc (.cells #[.string nm, .int .i64 id, .int .i64 kd] 86)).cell? ⟨wr.heap.size, 2, none⟩ = some (.int .i64 kd) by simp [go_sem]) (Nat.le_refl _))
          | (go_at_call 136; refine (isId_any id _).mono ?_; rintro e w2 ⟨rfl, hw2⟩; subst w2; rw [h2])
          | (go_at_call 154; refine (isKind_any kd _).mono ?_; rintro e w2 ⟨rfl, hw2⟩; subst w2; rw [h3]))
        go_ret
        have := HE.out; rw [h1, h2, h3] at this
        rw [HB.out this]
        exact ⟨rfl, (hb.alloc hb.size _).trans (hb1.mono (by simp; omega))⟩
      have hall := HE.out
      rw [h1, h2, h3] at hall
      have hall : entOk ⟨nm, id, kd⟩ = true := hall
      have HA : Hid (entOk ⟨nm, id, kd⟩ = true) := hall
      clear hall
      go_wp2_with (first
          | (go_at_call 138; refine (isName_any nm _).mono ?_; rintro e w1 ⟨rfl, hb1⟩; rw [h1]; have d0 := cell_later hb1 (show (wr.alloc (.cells #[.string nm, .int .i64 id, .int .i64 kd] 86)).cell? ⟨wr.heap.size, 0, none⟩ = some (.string nm) by simp [go_sem]) (Nat.le_refl _); have d1 := cell_later hb1 (show (wr.alloc (.cells #[.string nm, .int .i64 id, .int .i64 kd] 86)).cell? ⟨wr.heap.size, 1, none⟩ = some (.int .i64 id) by simp [go_sem]) (Nat.le_refl _); have d2 := cell_later hb1 (show (wr.alloc (.cells #[.string nm, .int .i64 id, .int .i64 kd] 86)).cell? ⟨wr.heap.size, 2, none⟩ = some (.int .i64 kd) by simp [go_sem]) (Nat.le_refl _))
          | (go_at_call 136; refine (isId_any id _).mono ?_; rintro e w2 ⟨rfl, hw2⟩; subst w2; rw [h2])
          | (go_at_call 154; refine (isKind_any kd _).mono ?_; rintro e w2 ⟨rfl, hw2⟩; subst w2; rw [h3]))
      have hq1 : Below w.heap.size w w1 := (hb.alloc hb.size _).trans (hb1.mono (by simp; omega))
      by_cases h0 : 0 < k
      · obtain ⟨p, hp, hok⟩ := HP.out h0
        have hp1 := cell_later hq1 hp (Nat.le_refl _)
        have h0i : decide ((0 : Int) < (k : Int)) = true := by simpa using h0
        clear hp q0 q1 q2 d1 d2 hb1
        go_quiet (fail)
        have hA0 : (Op.bytesLess nm.toList p.toList || nm.toList == p.toList) = notAbove nm p := rfl
        generalize (Op.bytesLess nm.toList p.toList || nm.toList == p.toList) = A at *
        have HA0 : Hid (A = notAbove nm p) := hA0
        have HK : Hid (OK = (entOk ⟨nm, id, kd⟩ && !notAbove nm p)) := hok
        clear hA0 hok
        cases A
        · have hok : OK = true := by rw [HK.out, HA.out, ← HA0.out]; rfl
          have HX : Hid (∀ j, j < k + 1 → okAt l j = true) := HN.out hok
          clear hok
          go_wp2
          go_roundw
          case rel => exact ⟨k + 1, by omega, by go_num, HX, below_drewN hq1 _⟩
          case measure => simp [intOf]; omega
        · have hok : OK = false := by rw [HK.out, HA.out, ← HA0.out]; rfl
          have hX := H1.out hok
          clear hok
          go_wp2
          go_ret
          exact ⟨by rw [hX]; rfl, below_drewN hq1 _⟩
      · have h0i : decide ((0 : Int) < (k : Int)) = false := by simp; omega
        clear q0 q1 q2 d1 d2 hb1
        go_quiet (fail)
        have hok : OK = true := by rw [HZ.out (by omega)]; exact HA.out
        have HX : Hid (∀ j, j < k + 1 → okAt l j = true) := HN.out hok
        clear hok
        go_wp2
        go_roundw
        case rel => exact ⟨k + 1, by omega, by go_num, HX, below_drewN hq1 _⟩
        case measure => simp [intOf]; omega
    · clear hE
      have hki : decide ((k : Int) < (n : Int)) = false := by simp; omega
      go_wp2
      go_ret
      have hX : listB l = true := by
        have h2 := HO.out
        obtain rfl : k = n := by omega
        simp [listB]
        exact ⟨by omega, fun j hj => h2 j (by omega)⟩
      exact ⟨by rw [hX]; rfl, hb⟩

set_option maxHeartbeats 1000000 in
theorem isList_many (lo : Option Addr) (n lc : Nat) (w : World) (hn : 16 < n) :
    Calls Tryz.prog 140 #[.slice lo n lc] w fun e w' => e = .returned (.bool false) ∧ w' = w := by
  have hni : decide (16 < (n : Int)) = true := by simp; omega
  go_enter Tryz.func140, Tryz.ntmps140
  go_wp2
  go_ret
  exact ⟨rfl, rfl⟩

theorem isList_any (l : List Ent) (lo : Option Addr) (n lc : Nat) (w : World) (hE : CLies w lo n lc 3 (entCells l)) (hl : l.length = n) :
    Calls Tryz.prog 140 #[.slice lo n lc] w fun e w' => e = .returned (.bool (listB l)) ∧ Below w.heap.size w w' := by
  by_cases hn : n ≤ 16
  · exact isList_few l lo n lc w hE hl hn
  · refine (isList_many lo n lc w (by omega)).mono ?_
    rintro e w' ⟨rfl, rfl⟩
    have : listB l = false := by
      have : ¬ l.length ≤ 16 := by omega
      simp [listB, this]
    exact ⟨by rw [this], Below.refl _ _⟩
end Go.Proofs.YtdkcplndplhblaaGreatDoor

/- Which type an interface value bears. -/
namespace Go.Proofs.YtdkcplndplhblaaGreatDoor
open Go.RowKit
set_option maxRecDepth 100000

theorem ta_small_small (v : Value) (w : World) : (Instr.typeAssert (.iface 128 v) 130 128 true).run Tryz.prog w = .ok (.tuple #[v, .bool true]) w := by kernel_rfl
theorem ta_small_great (v : Value) (w : World) : (Instr.typeAssert (.iface 128 v) 130 133 true).run Tryz.prog w = .ok (.tuple #[.int .i64 0, .bool false]) w := by kernel_rfl
theorem ta_small_flag (v : Value) (w : World) : (Instr.typeAssert (.iface 128 v) 130 163 true).run Tryz.prog w = .ok (.tuple #[.bool false, .bool false]) w := by kernel_rfl
theorem ta_small_path (v : Value) (w : World) : (Instr.typeAssert (.iface 128 v) 130 155 true).run Tryz.prog w = .ok (.tuple #[.string ⟨#[]⟩, .bool false]) w := by kernel_rfl
theorem ta_small_name (v : Value) (w : World) : (Instr.typeAssert (.iface 128 v) 130 156 true).run Tryz.prog w = .ok (.tuple #[.string ⟨#[]⟩, .bool false]) w := by kernel_rfl
theorem ta_small_content (v : Value) (w : World) : (Instr.typeAssert (.iface 128 v) 130 157 true).run Tryz.prog w = .ok (.tuple #[.slice none 0 0, .bool false]) w := by kernel_rfl
theorem ta_small_attr (v : Value) (w : World) : (Instr.typeAssert (.iface 128 v) 130 161 true).run Tryz.prog w = .ok (.tuple #[.agg #[.int .i64 0, .int .i64 0, .int .i64 0, .int .i64 0], .bool false]) w := by kernel_rfl
theorem ta_small_entries (v : Value) (w : World) : (Instr.typeAssert (.iface 128 v) 130 162 true).run Tryz.prog w = .ok (.tuple #[.slice none 0 0, .bool false]) w := by kernel_rfl
theorem ta_great_small (v : Value) (w : World) : (Instr.typeAssert (.iface 133 v) 130 128 true).run Tryz.prog w = .ok (.tuple #[.int .i64 0, .bool false]) w := by kernel_rfl
theorem ta_great_great (v : Value) (w : World) : (Instr.typeAssert (.iface 133 v) 130 133 true).run Tryz.prog w = .ok (.tuple #[v, .bool true]) w := by kernel_rfl
theorem ta_great_flag (v : Value) (w : World) : (Instr.typeAssert (.iface 133 v) 130 163 true).run Tryz.prog w = .ok (.tuple #[.bool false, .bool false]) w := by kernel_rfl
theorem ta_great_path (v : Value) (w : World) : (Instr.typeAssert (.iface 133 v) 130 155 true).run Tryz.prog w = .ok (.tuple #[.string ⟨#[]⟩, .bool false]) w := by kernel_rfl
theorem ta_great_name (v : Value) (w : World) : (Instr.typeAssert (.iface 133 v) 130 156 true).run Tryz.prog w = .ok (.tuple #[.string ⟨#[]⟩, .bool false]) w := by kernel_rfl
theorem ta_great_content (v : Value) (w : World) : (Instr.typeAssert (.iface 133 v) 130 157 true).run Tryz.prog w = .ok (.tuple #[.slice none 0 0, .bool false]) w := by kernel_rfl
theorem ta_great_attr (v : Value) (w : World) : (Instr.typeAssert (.iface 133 v) 130 161 true).run Tryz.prog w = .ok (.tuple #[.agg #[.int .i64 0, .int .i64 0, .int .i64 0, .int .i64 0], .bool false]) w := by kernel_rfl
theorem ta_great_entries (v : Value) (w : World) : (Instr.typeAssert (.iface 133 v) 130 162 true).run Tryz.prog w = .ok (.tuple #[.slice none 0 0, .bool false]) w := by kernel_rfl
theorem ta_flag_small (v : Value) (w : World) : (Instr.typeAssert (.iface 163 v) 130 128 true).run Tryz.prog w = .ok (.tuple #[.int .i64 0, .bool false]) w := by kernel_rfl
theorem ta_flag_great (v : Value) (w : World) : (Instr.typeAssert (.iface 163 v) 130 133 true).run Tryz.prog w = .ok (.tuple #[.int .i64 0, .bool false]) w := by kernel_rfl
theorem ta_flag_flag (v : Value) (w : World) : (Instr.typeAssert (.iface 163 v) 130 163 true).run Tryz.prog w = .ok (.tuple #[v, .bool true]) w := by kernel_rfl
theorem ta_flag_path (v : Value) (w : World) : (Instr.typeAssert (.iface 163 v) 130 155 true).run Tryz.prog w = .ok (.tuple #[.string ⟨#[]⟩, .bool false]) w := by kernel_rfl
theorem ta_flag_name (v : Value) (w : World) : (Instr.typeAssert (.iface 163 v) 130 156 true).run Tryz.prog w = .ok (.tuple #[.string ⟨#[]⟩, .bool false]) w := by kernel_rfl
theorem ta_flag_content (v : Value) (w : World) : (Instr.typeAssert (.iface 163 v) 130 157 true).run Tryz.prog w = .ok (.tuple #[.slice none 0 0, .bool false]) w := by kernel_rfl
theorem ta_flag_attr (v : Value) (w : World) : (Instr.typeAssert (.iface 163 v) 130 161 true).run Tryz.prog w = .ok (.tuple #[.agg #[.int .i64 0, .int .i64 0, .int .i64 0, .int .i64 0], .bool false]) w := by kernel_rfl
theorem ta_flag_entries (v : Value) (w : World) : (Instr.typeAssert (.iface 163 v) 130 162 true).run Tryz.prog w = .ok (.tuple #[.slice none 0 0, .bool false]) w := by kernel_rfl
theorem ta_path_small (v : Value) (w : World) : (Instr.typeAssert (.iface 155 v) 130 128 true).run Tryz.prog w = .ok (.tuple #[.int .i64 0, .bool false]) w := by kernel_rfl
theorem ta_path_great (v : Value) (w : World) : (Instr.typeAssert (.iface 155 v) 130 133 true).run Tryz.prog w = .ok (.tuple #[.int .i64 0, .bool false]) w := by kernel_rfl
theorem ta_path_flag (v : Value) (w : World) : (Instr.typeAssert (.iface 155 v) 130 163 true).run Tryz.prog w = .ok (.tuple #[.bool false, .bool false]) w := by kernel_rfl
theorem ta_path_path (v : Value) (w : World) : (Instr.typeAssert (.iface 155 v) 130 155 true).run Tryz.prog w = .ok (.tuple #[v, .bool true]) w := by kernel_rfl
theorem ta_path_name (v : Value) (w : World) : (Instr.typeAssert (.iface 155 v) 130 156 true).run Tryz.prog w = .ok (.tuple #[.string ⟨#[]⟩, .bool false]) w := by kernel_rfl
theorem ta_path_content (v : Value) (w : World) : (Instr.typeAssert (.iface 155 v) 130 157 true).run Tryz.prog w = .ok (.tuple #[.slice none 0 0, .bool false]) w := by kernel_rfl
theorem ta_path_attr (v : Value) (w : World) : (Instr.typeAssert (.iface 155 v) 130 161 true).run Tryz.prog w = .ok (.tuple #[.agg #[.int .i64 0, .int .i64 0, .int .i64 0, .int .i64 0], .bool false]) w := by kernel_rfl
theorem ta_path_entries (v : Value) (w : World) : (Instr.typeAssert (.iface 155 v) 130 162 true).run Tryz.prog w = .ok (.tuple #[.slice none 0 0, .bool false]) w := by kernel_rfl
theorem ta_name_small (v : Value) (w : World) : (Instr.typeAssert (.iface 156 v) 130 128 true).run Tryz.prog w = .ok (.tuple #[.int .i64 0, .bool false]) w := by kernel_rfl
theorem ta_name_great (v : Value) (w : World) : (Instr.typeAssert (.iface 156 v) 130 133 true).run Tryz.prog w = .ok (.tuple #[.int .i64 0, .bool false]) w := by kernel_rfl
theorem ta_name_flag (v : Value) (w : World) : (Instr.typeAssert (.iface 156 v) 130 163 true).run Tryz.prog w = .ok (.tuple #[.bool false, .bool false]) w := by kernel_rfl
theorem ta_name_path (v : Value) (w : World) : (Instr.typeAssert (.iface 156 v) 130 155 true).run Tryz.prog w = .ok (.tuple #[.string ⟨#[]⟩, .bool false]) w := by kernel_rfl
theorem ta_name_name (v : Value) (w : World) : (Instr.typeAssert (.iface 156 v) 130 156 true).run Tryz.prog w = .ok (.tuple #[v, .bool true]) w := by kernel_rfl
theorem ta_name_content (v : Value) (w : World) : (Instr.typeAssert (.iface 156 v) 130 157 true).run Tryz.prog w = .ok (.tuple #[.slice none 0 0, .bool false]) w := by kernel_rfl
theorem ta_name_attr (v : Value) (w : World) : (Instr.typeAssert (.iface 156 v) 130 161 true).run Tryz.prog w = .ok (.tuple #[.agg #[.int .i64 0, .int .i64 0, .int .i64 0, .int .i64 0], .bool false]) w := by kernel_rfl
theorem ta_name_entries (v : Value) (w : World) : (Instr.typeAssert (.iface 156 v) 130 162 true).run Tryz.prog w = .ok (.tuple #[.slice none 0 0, .bool false]) w := by kernel_rfl
theorem ta_content_small (v : Value) (w : World) : (Instr.typeAssert (.iface 157 v) 130 128 true).run Tryz.prog w = .ok (.tuple #[.int .i64 0, .bool false]) w := by kernel_rfl
theorem ta_content_great (v : Value) (w : World) : (Instr.typeAssert (.iface 157 v) 130 133 true).run Tryz.prog w = .ok (.tuple #[.int .i64 0, .bool false]) w := by kernel_rfl
theorem ta_content_flag (v : Value) (w : World) : (Instr.typeAssert (.iface 157 v) 130 163 true).run Tryz.prog w = .ok (.tuple #[.bool false, .bool false]) w := by kernel_rfl
theorem ta_content_path (v : Value) (w : World) : (Instr.typeAssert (.iface 157 v) 130 155 true).run Tryz.prog w = .ok (.tuple #[.string ⟨#[]⟩, .bool false]) w := by kernel_rfl
theorem ta_content_name (v : Value) (w : World) : (Instr.typeAssert (.iface 157 v) 130 156 true).run Tryz.prog w = .ok (.tuple #[.string ⟨#[]⟩, .bool false]) w := by kernel_rfl
theorem ta_content_content (v : Value) (w : World) : (Instr.typeAssert (.iface 157 v) 130 157 true).run Tryz.prog w = .ok (.tuple #[v, .bool true]) w := by kernel_rfl
theorem ta_content_attr (v : Value) (w : World) : (Instr.typeAssert (.iface 157 v) 130 161 true).run Tryz.prog w = .ok (.tuple #[.agg #[.int .i64 0, .int .i64 0, .int .i64 0, .int .i64 0], .bool false]) w := by kernel_rfl
theorem ta_content_entries (v : Value) (w : World) : (Instr.typeAssert (.iface 157 v) 130 162 true).run Tryz.prog w = .ok (.tuple #[.slice none 0 0, .bool false]) w := by kernel_rfl
theorem ta_attr_small (v : Value) (w : World) : (Instr.typeAssert (.iface 161 v) 130 128 true).run Tryz.prog w = .ok (.tuple #[.int .i64 0, .bool false]) w := by kernel_rfl
theorem ta_attr_great (v : Value) (w : World) : (Instr.typeAssert (.iface 161 v) 130 133 true).run Tryz.prog w = .ok (.tuple #[.int .i64 0, .bool false]) w := by kernel_rfl
theorem ta_attr_flag (v : Value) (w : World) : (Instr.typeAssert (.iface 161 v) 130 163 true).run Tryz.prog w = .ok (.tuple #[.bool false, .bool false]) w := by kernel_rfl
theorem ta_attr_path (v : Value) (w : World) : (Instr.typeAssert (.iface 161 v) 130 155 true).run Tryz.prog w = .ok (.tuple #[.string ⟨#[]⟩, .bool false]) w := by kernel_rfl
theorem ta_attr_name (v : Value) (w : World) : (Instr.typeAssert (.iface 161 v) 130 156 true).run Tryz.prog w = .ok (.tuple #[.string ⟨#[]⟩, .bool false]) w := by kernel_rfl
theorem ta_attr_content (v : Value) (w : World) : (Instr.typeAssert (.iface 161 v) 130 157 true).run Tryz.prog w = .ok (.tuple #[.slice none 0 0, .bool false]) w := by kernel_rfl
theorem ta_attr_attr (v : Value) (w : World) : (Instr.typeAssert (.iface 161 v) 130 161 true).run Tryz.prog w = .ok (.tuple #[v, .bool true]) w := by kernel_rfl
theorem ta_attr_entries (v : Value) (w : World) : (Instr.typeAssert (.iface 161 v) 130 162 true).run Tryz.prog w = .ok (.tuple #[.slice none 0 0, .bool false]) w := by kernel_rfl
theorem ta_entries_small (v : Value) (w : World) : (Instr.typeAssert (.iface 162 v) 130 128 true).run Tryz.prog w = .ok (.tuple #[.int .i64 0, .bool false]) w := by kernel_rfl
theorem ta_entries_great (v : Value) (w : World) : (Instr.typeAssert (.iface 162 v) 130 133 true).run Tryz.prog w = .ok (.tuple #[.int .i64 0, .bool false]) w := by kernel_rfl
theorem ta_entries_flag (v : Value) (w : World) : (Instr.typeAssert (.iface 162 v) 130 163 true).run Tryz.prog w = .ok (.tuple #[.bool false, .bool false]) w := by kernel_rfl
theorem ta_entries_path (v : Value) (w : World) : (Instr.typeAssert (.iface 162 v) 130 155 true).run Tryz.prog w = .ok (.tuple #[.string ⟨#[]⟩, .bool false]) w := by kernel_rfl
theorem ta_entries_name (v : Value) (w : World) : (Instr.typeAssert (.iface 162 v) 130 156 true).run Tryz.prog w = .ok (.tuple #[.string ⟨#[]⟩, .bool false]) w := by kernel_rfl
theorem ta_entries_content (v : Value) (w : World) : (Instr.typeAssert (.iface 162 v) 130 157 true).run Tryz.prog w = .ok (.tuple #[.slice none 0 0, .bool false]) w := by kernel_rfl
theorem ta_entries_attr (v : Value) (w : World) : (Instr.typeAssert (.iface 162 v) 130 161 true).run Tryz.prog w = .ok (.tuple #[.agg #[.int .i64 0, .int .i64 0, .int .i64 0, .int .i64 0], .bool false]) w := by kernel_rfl
theorem ta_entries_entries (v : Value) (w : World) : (Instr.typeAssert (.iface 162 v) 130 162 true).run Tryz.prog w = .ok (.tuple #[v, .bool true]) w := by kernel_rfl
end Go.Proofs.YtdkcplndplhblaaGreatDoor

/- What may stand in a field, and what is zero. -/
namespace Go.Proofs.YtdkcplndplhblaaGreatDoor
open Go.RowKit
set_option maxRecDepth 100000

/-- May that stand in the field of that number, in a message of the operation? -/
def mayB (op no : Int) : Val → Bool
  | .small x => if no = 7 then inB x 0 69632 else inB x 1 (mostLen op)
  | .great x => inB x 1 562949953421311
  | .flag _ => true
  | .path s => decide (N3.splitE (N3.bs s) = 0)
  | .name s => (decide (op = 10) && decide (s.size = 0)) || nameB s
  | .content d => decide (d.length ≤ 1024) && (decide (op = 3) || decide (0 < d.length))
  | .attr i k z c => attrB op i k z c
  | .entries l => listB l
def zeroB : Val → Bool
  | .small x => decide (x = 0)
  | .great x => decide (x = 0)
  | .flag b => !b
  | .path s => decide (s.size = 0)
  | .name s => decide (s.size = 0)
  | .content d => decide (d.length = 0)
  | .attr i k z c => decide (i = 0) && decide (k = 0) && decide (z = 0) && decide (c = 0)
  | .entries l => decide (l.length = 0)

theorem empty_list {s : ByteArray} : s.toList = [] ↔ s.size = 0 := by
  rw [ByteArray.toList_eq]; exact ⟨fun h => by rw [N3.size_bs]; simp [h], fun h => by rw [N3.size_bs] at h; exact List.eq_nil_of_length_eq_zero h⟩
theorem empty_dec (s : ByteArray) : (s.toList == []) = decide (s.size = 0) := by
  by_cases h : s.size = 0
  · have := empty_list.2 h
    rw [this, h]; rfl
  · have h2 : ¬ s.toList = [] := fun e => h (empty_list.1 e)
    have h3 : (s.toList == []) = false := by simpa using h2
    rw [h3]; exact (decide_eq_false h).symm
theorem len_dec {n l : Nat} (h : l = n) : ((n : Int) == 0) = decide (l = 0) := by
  subst h
  by_cases h : l = 0
  · subst h; rfl
  · have : ((l : Int) == 0) = false := by simpa using h
    rw [this]; exact (decide_eq_false h).symm
theorem isEmpty_dec (s : ByteArray) : s.toList.isEmpty = decide (s.size = 0) := by
  rw [← empty_dec]; cases s.toList <;> rfl
theorem ret_b {a b : Bool} (h : a = b) : Ending.returned (.bool a) = Ending.returned (.bool b) := by rw [h]

set_option maxHeartbeats 1000000 in
theorem isZero_small (x : Int) (w : World) : Calls Tryz.prog 116 #[.iface 128 (.int .i64 x)] w fun e w' => e = .returned (.bool (zeroB (.small x))) ∧ Below w.heap.size w w' := by
  have t0 := ta_small_small
  go_enter Tryz.func116, Tryz.ntmps116
  go_wp2
  go_ret
  exact ⟨rfl, Below.refl _ _⟩

set_option maxHeartbeats 1000000 in
theorem isZero_great (x : Int) (w : World) : Calls Tryz.prog 116 #[.iface 133 (.int .i64 x)] w fun e w' => e = .returned (.bool (zeroB (.great x))) ∧ Below w.heap.size w w' := by
  have t0 := ta_great_small
  have t1 := ta_great_great
  go_enter Tryz.func116, Tryz.ntmps116
  go_wp2
  go_ret
  exact ⟨rfl, Below.refl _ _⟩

set_option maxHeartbeats 1000000 in
theorem isZero_flag (b : Bool) (w : World) : Calls Tryz.prog 116 #[.iface 163 (.bool b)] w fun e w' => e = .returned (.bool (zeroB (.flag b))) ∧ Below w.heap.size w w' := by
  have t0 := ta_flag_small
  have t1 := ta_flag_great
  have t2 := ta_flag_flag
  go_enter Tryz.func116, Tryz.ntmps116
  go_wp2
  go_ret
  exact ⟨rfl, Below.refl _ _⟩

set_option maxHeartbeats 1000000 in
theorem isZero_path (s : ByteArray) (w : World) : Calls Tryz.prog 116 #[.iface 155 (.string s)] w fun e w' => e = .returned (.bool (zeroB (.path s))) ∧ Below w.heap.size w w' := by
  have t0 := ta_path_small
  have t1 := ta_path_great
  have t2 := ta_path_flag
  have t3 := ta_path_path
  go_enter Tryz.func116, Tryz.ntmps116
  go_wp2
  go_ret
  exact ⟨ret_b (isEmpty_dec s), Below.refl _ _⟩

set_option maxHeartbeats 1000000 in
theorem isZero_name (s : ByteArray) (w : World) : Calls Tryz.prog 116 #[.iface 156 (.string s)] w fun e w' => e = .returned (.bool (zeroB (.name s))) ∧ Below w.heap.size w w' := by
  have t0 := ta_name_small
  have t1 := ta_name_great
  have t2 := ta_name_flag
  have t3 := ta_name_path
  have t4 := ta_name_name
  go_enter Tryz.func116, Tryz.ntmps116
  go_wp2
  go_ret
  exact ⟨ret_b (isEmpty_dec s), Below.refl _ _⟩

set_option maxHeartbeats 1000000 in
theorem isZero_content (ao : Option Addr) (n c : Nat) (d : List Int) (w : World) (hd : d.length = n) : Calls Tryz.prog 116 #[.iface 157 (.slice ao n c)] w fun e w' => e = .returned (.bool (zeroB (.content d))) ∧ Below w.heap.size w w' := by
  have t0 := ta_content_small
  have t1 := ta_content_great
  have t2 := ta_content_flag
  have t3 := ta_content_path
  have t4 := ta_content_name
  have t5 := ta_content_content
  have HD : Hid (d.length = n) := hd
  clear hd
  go_enter Tryz.func116, Tryz.ntmps116
  go_wp2
  go_ret
  have hd := HD.out
  exact ⟨ret_b (len_dec hd), Below.refl _ _⟩

set_option maxHeartbeats 1000000 in
theorem isZero_attr (i k z c : Int) (w : World) : Calls Tryz.prog 116 #[.iface 161 (.agg #[.int .i64 i, .int .i64 k, .int .i64 z, .int .i64 c])] w fun e w' => e = .returned (.bool (zeroB (.attr i k z c))) ∧ Below w.heap.size w w' := by
  have t0 := ta_attr_small
  have t1 := ta_attr_great
  have t2 := ta_attr_flag
  have t3 := ta_attr_path
  have t4 := ta_attr_name
  have t5 := ta_attr_content
  have t6 := ta_attr_attr
  go_enter Tryz.func116, Tryz.ntmps116
  go_wp2
  all_goals go_ret
  all_goals exact ⟨by simp_all [zeroB], newBox _ _⟩

set_option maxHeartbeats 1000000 in
theorem isZero_entries (ao : Option Addr) (n c : Nat) (l : List Ent) (w : World) (hd : l.length = n) : Calls Tryz.prog 116 #[.iface 162 (.slice ao n c)] w fun e w' => e = .returned (.bool (zeroB (.entries l))) ∧ Below w.heap.size w w' := by
  have t0 := ta_entries_small
  have t1 := ta_entries_great
  have t2 := ta_entries_flag
  have t3 := ta_entries_path
  have t4 := ta_entries_name
  have t5 := ta_entries_content
  have t6 := ta_entries_attr
  have t7 := ta_entries_entries
  have HD : Hid (l.length = n) := hd
  clear hd
  go_enter Tryz.func116, Tryz.ntmps116
  go_wp2
  go_ret
  have hd := HD.out
  exact ⟨ret_b (len_dec hd), Below.refl _ _⟩

theorem isZero_any (x : Val) (v : Value) (w : World) (h : VRep w v x) : Calls Tryz.prog 116 #[v] w fun e w' => e = .returned (.bool (zeroB x)) ∧ Below w.heap.size w w' := by
  cases x with
  | small x => cases h; exact isZero_small x w
  | great x => cases h; exact isZero_great x w
  | flag b => cases h; exact isZero_flag b w
  | path s => cases h; exact isZero_path s w
  | name s => cases h; exact isZero_name s w
  | content d => obtain ⟨ao, n, c, rfl, hL⟩ := h; exact isZero_content ao n c d w hL.hlen
  | attr i k z c => cases h; exact isZero_attr i k z c w
  | entries l => obtain ⟨ao, n, c, rfl, hL, hl⟩ := h; exact isZero_entries ao n c l w hl

end Go.Proofs.YtdkcplndplhblaaGreatDoor

/- What may stand in a field of a message that has it. -/
namespace Go.Proofs.YtdkcplndplhblaaGreatDoor
open Go.RowKit
set_option maxRecDepth 100000

set_option maxHeartbeats 1000000 in
theorem mayStand_small (op no : Int) (x : Int) (w : World) : Calls Tryz.prog 115 #[.int .i64 op, .agg #[.int .i64 no, .iface 128 (.int .i64 x)]] w fun e w' => e = .returned (.bool (mayB op no (.small x))) ∧ Below w.heap.size w w' := by
  have t0 := ta_small_small
  simp only [mayB]
  by_cases hno : no = 7
  · subst hno
    go_enter Tryz.func115, Tryz.ntmps115
    go_wp2_with (go_at_call 79; refine (within_any _ _ _ _).mono ?_; rintro e w1 ⟨rfl, hw1⟩; subst w1)
    go_ret
    exact ⟨rfl, newBox _ _⟩
  · rw [if_neg hno]
    go_enter Tryz.func115, Tryz.ntmps115
    go_wp2_with (first | (go_at_call 79; refine (within_any _ _ _ _).mono ?_; rintro e w1 ⟨rfl, hw1⟩; subst w1) | (go_at_call 135; refine (mostLen_any _ _).mono ?_; rintro e w1 ⟨rfl, hw1⟩; subst w1))
    go_ret
    exact ⟨rfl, newBox _ _⟩

set_option maxHeartbeats 1000000 in
theorem mayStand_great (op no : Int) (x : Int) (w : World) : Calls Tryz.prog 115 #[.int .i64 op, .agg #[.int .i64 no, .iface 133 (.int .i64 x)]] w fun e w' => e = .returned (.bool (mayB op no (.great x))) ∧ Below w.heap.size w w' := by
  have t0 := ta_great_small
  have t1 := ta_great_great
  simp only [mayB]
  go_enter Tryz.func115, Tryz.ntmps115
  go_wp2_with (go_at_call 136; refine (isId_any _ _).mono ?_; rintro e w1 ⟨rfl, hw1⟩; subst w1)
  go_ret
  exact ⟨rfl, newBox _ _⟩

set_option maxHeartbeats 1000000 in
theorem mayStand_flag (op no : Int) (b : Bool) (w : World) : Calls Tryz.prog 115 #[.int .i64 op, .agg #[.int .i64 no, .iface 163 (.bool b)]] w fun e w' => e = .returned (.bool (mayB op no (.flag b))) ∧ Below w.heap.size w w' := by
  have t0 := ta_flag_small
  have t1 := ta_flag_great
  have t2 := ta_flag_flag
  simp only [mayB]
  go_enter Tryz.func115, Tryz.ntmps115
  go_wp2
  go_ret
  exact ⟨rfl, newBox _ _⟩

set_option maxHeartbeats 1000000 in
theorem mayStand_path (op no : Int) (s : ByteArray) (w : World) (hs : s.size ≤ 281474976710656) : Calls Tryz.prog 115 #[.int .i64 op, .agg #[.int .i64 no, .iface 155 (.string s)]] w fun e w' => e = .returned (.bool (mayB op no (.path s))) ∧ Below w.heap.size w w' := by
  have t0 := ta_path_small
  have t1 := ta_path_great
  have t2 := ta_path_flag
  have t3 := ta_path_path
  simp only [mayB]
  go_enter Tryz.func115, Tryz.ntmps115
  go_wp2_with fail
  refine (N3.split_any s _ hs).mono ?_
  rintro e w1 ⟨ao, n, c, rfl, _, hb1⟩
  go_wp2
  go_ret
  exact ⟨rfl, (newBox w _).trans (hb1.mono (by simp))⟩

set_option maxHeartbeats 1000000 in
theorem mayStand_name (op no : Int) (s : ByteArray) (w : World) : Calls Tryz.prog 115 #[.int .i64 op, .agg #[.int .i64 no, .iface 156 (.string s)]] w fun e w' => e = .returned (.bool (mayB op no (.name s))) ∧ Below w.heap.size w w' := by
  have t0 := ta_name_small
  have t1 := ta_name_great
  have t2 := ta_name_flag
  have t3 := ta_name_path
  have t4 := ta_name_name
  simp only [mayB]
  have he := isEmpty_dec s
  by_cases hop : op = 10
  · subst hop
    by_cases hs : s.size = 0
    · have hl : s.toList = [] := empty_list.2 hs
      rw [decide_eq_true hs]
      go_enter Tryz.func115, Tryz.ntmps115
      go_wp2
      go_ret
      exact ⟨rfl, newBox _ _⟩
    · have hl : ¬ s.toList = [] := fun e => hs (empty_list.1 e)
      rw [decide_eq_false hs]
      clear he
      go_enter Tryz.func115, Tryz.ntmps115
      go_wp2_with (go_at_call 138; refine (isName_any s _).mono ?_; rintro e w1 ⟨rfl, hb1⟩)
      go_ret
      exact ⟨by simp_all, (newBox w _).trans (hb1.mono (by simp))⟩
  · clear he
    go_enter Tryz.func115, Tryz.ntmps115
    go_wp2_with (go_at_call 138; refine (isName_any s _).mono ?_; rintro e w1 ⟨rfl, hb1⟩)
    go_ret
    exact ⟨by simp [hop], (newBox w _).trans (hb1.mono (by simp))⟩

set_option maxHeartbeats 1000000 in
theorem mayStand_content (op no : Int) (ao : Option Addr) (n c : Nat) (d : List Int) (w : World) (hd : d.length = n) : Calls Tryz.prog 115 #[.int .i64 op, .agg #[.int .i64 no, .iface 157 (.slice ao n c)]] w fun e w' => e = .returned (.bool (mayB op no (.content d))) ∧ Below w.heap.size w w' := by
  have t0 := ta_content_small
  have t1 := ta_content_great
  have t2 := ta_content_flag
  have t3 := ta_content_path
  have t4 := ta_content_name
  have t5 := ta_content_content
  simp only [mayB]
  subst hd
  generalize d.length = n
  by_cases h1 : n ≤ 1024
  · have h1i : decide ((n : Int) ≤ 1024) = true := by simp; omega
    by_cases h2 : op = 3
    · subst h2
      go_enter Tryz.func115, Tryz.ntmps115
      go_wp2
      go_ret
      exact ⟨by simp [h1], newBox _ _⟩
    · by_cases h3 : 0 < n
      · have h3i : decide (0 < (n : Int)) = true := by simp; omega
        go_enter Tryz.func115, Tryz.ntmps115
        go_wp2
        go_ret
        exact ⟨by simp [h1, h3], newBox _ _⟩
      · have h3i : decide (0 < (n : Int)) = false := by simp; omega
        go_enter Tryz.func115, Tryz.ntmps115
        go_wp2
        go_ret
        exact ⟨by simp [h2, h3], newBox _ _⟩
  · have h1i : decide ((n : Int) ≤ 1024) = false := by simp; omega
    go_enter Tryz.func115, Tryz.ntmps115
    go_wp2
    go_ret
    exact ⟨by simp [h1], newBox _ _⟩

set_option maxHeartbeats 1000000 in
theorem mayStand_attr (op no : Int) (i k z c : Int) (w : World) : Calls Tryz.prog 115 #[.int .i64 op, .agg #[.int .i64 no, .iface 161 (.agg #[.int .i64 i, .int .i64 k, .int .i64 z, .int .i64 c])]] w fun e w' => e = .returned (.bool (mayB op no (.attr i k z c))) ∧ Below w.heap.size w w' := by
  have t0 := ta_attr_small
  have t1 := ta_attr_great
  have t2 := ta_attr_flag
  have t3 := ta_attr_path
  have t4 := ta_attr_name
  have t5 := ta_attr_content
  have t6 := ta_attr_attr
  simp only [mayB]
  go_enter Tryz.func115, Tryz.ntmps115
  go_wp2_with fail
  refine (isAttr_any op i k z c _).mono ?_
  rintro e w1 ⟨rfl, hb1⟩
  go_wp2
  go_ret
  exact ⟨rfl, (box2 w _ _).trans (hb1.mono (by simp; omega))⟩

set_option maxHeartbeats 1000000 in
theorem mayStand_entries (op no : Int) (ao : Option Addr) (n c : Nat) (l : List Ent) (w : World) (hE : CLies w ao n c 3 (entCells l)) (hl : l.length = n) : Calls Tryz.prog 115 #[.int .i64 op, .agg #[.int .i64 no, .iface 162 (.slice ao n c)]] w fun e w' => e = .returned (.bool (mayB op no (.entries l))) ∧ Below w.heap.size w w' := by
  have t0 := ta_entries_small
  have t1 := ta_entries_great
  have t2 := ta_entries_flag
  have t3 := ta_entries_path
  have t4 := ta_entries_name
  have t5 := ta_entries_content
  have t6 := ta_entries_attr
  have t7 := ta_entries_entries
  simp only [mayB]
  go_enter Tryz.func115, Tryz.ntmps115
  go_wp2_with fail
  refine (isList_any l ao n c _ (hE.boxed _) hl).mono ?_
  rintro e w1 ⟨rfl, hb1⟩
  go_wp2
  go_ret
  exact ⟨rfl, (newBox w _).trans (hb1.mono (by simp))⟩

theorem mayStand_any (op no : Int) (x : Val) (v : Value) (w : World) (h : VRep w v x) (hs : ∀ s, x = .path s → s.size ≤ 281474976710656) : Calls Tryz.prog 115 #[.int .i64 op, .agg #[.int .i64 no, v]] w fun e w' => e = .returned (.bool (mayB op no x)) ∧ Below w.heap.size w w' := by
  cases x with
  | small x => cases h; exact mayStand_small op no x w
  | great x => cases h; exact mayStand_great op no x w
  | flag b => cases h; exact mayStand_flag op no b w
  | path s => cases h; exact mayStand_path op no s w (hs s rfl)
  | name s => cases h; exact mayStand_name op no s w
  | content d => obtain ⟨ao, n, c, rfl, hL⟩ := h; exact mayStand_content op no ao n c d w hL.hlen
  | attr i k z c => cases h; exact mayStand_attr op no i k z c w
  | entries l => obtain ⟨ao, n, c, rfl, hL, hl⟩ := h; exact mayStand_entries op no ao n c l w hL hl

end Go.Proofs.YtdkcplndplhblaaGreatDoor

/- A message's fields are judged. -/
namespace Go.Proofs.YtdkcplndplhblaaGreatDoor
open Go.RowKit
set_option maxRecDepth 100000

/-- Is a field in order? -/
def fieldB (op : Int) (l : List Int) (g : Int × Val) : Bool := if g.1 ∈ l then mayB op g.1 g.2 else zeroB g.2
/-- The judgement of all fields. -/
def judgeE (op : Int) (l : List Int) (gs : List (Int × Val)) : Int := if gs.all (fieldB op l) = true then 0 else 46
theorem judgeE_bad {op : Int} {l : List Int} {gs : List (Int × Val)} {g : Int × Val} (hg : g ∈ gs) (h : fieldB op l g = false) : judgeE op l gs = 46 := by
  unfold judgeE
  rw [if_neg]
  intro ha
  rw [List.all_eq_true] at ha
  have := ha g hg
  rw [h] at this
  cases this

set_option maxHeartbeats 2000000 in
theorem judgeBody_any (op : Int) (gs : List (Int × Val)) (fo : Option Addr) (n fc : Nat) (ho : Option Addr) (hn hc : Nat) (l : List Int) (w : World) (hF : FLies w fo n fc gs) (hbd : n ≤ 100) (hL : ILies w ho hn hc l) (hbd2 : hn ≤ 1000) (hs : ∀ g ∈ gs, ∀ s, g.2 = .path s → s.size ≤ 281474976710656) :
    Calls Tryz.prog 81 #[.int .i64 op, .slice fo n fc, .slice ho hn hc] w fun e w' => e = .returned (.int .i64 (judgeE op l gs)) ∧ Below w.heap.size w w' := by
  have hni : (n : Int) ≤ 100 := by omega
  have hgl := hF.hlen
  go_enter Tryz.func81, Tryz.ntmps81
  go_wp2
  go_loopw [11] (fun i wr => ∃ k : Nat, k ≤ n ∧ i = .int .i64 k ∧ Hid ((gs.take k).all (fieldB op l) = true) ∧ Below w.heap.size w wr) (fun i _ => n - (intOf i).toNat)
  case atStart => exact ⟨0, Nat.zero_le _, rfl, (by simp : (gs.take 0).all (fieldB op l) = true), Below.refl _ _⟩
  case round =>
    obtain ⟨k, hk, rfl, HO, hb⟩ := hrel
    have hbs := hb.size
    by_cases hlt : k < n
    · have hki : decide ((k : Int) < (n : Int)) = true := by simpa using hlt
      have hkl : k < gs.length := by omega
      obtain ⟨b', o', v, rfl, _, q0, q1, hv⟩ := hF.at hkl
      have q0 := cell_later hb q0 (Nat.le_refl _)
      have q1 := cell_later hb q1 (Nat.le_refl _)
      have hst : gs.take (k + 1) = gs.take k ++ [gs[k]] := List.take_succ_eq_append_getElem hkl
      have hmem : gs[k] ∈ gs := List.getElem_mem hkl
      have hsk := hs _ hmem
      have hbad : fieldB op l gs[k] = false → judgeE op l gs = 46 := fun h => judgeE_bad hmem h
      have hnext : fieldB op l gs[k] = true → (gs.take (k + 1)).all (fieldB op l) = true := fun h => by
        rw [hst, List.all_append, HO.out]; simp [h]
      have HB : Hid (fieldB op l gs[k] = false → judgeE op l gs = 46) := hbad
      have HN : Hid (fieldB op l gs[k] = true → (gs.take (k + 1)).all (fieldB op l) = true) := hnext
      have hvw := hv.below hb (Nat.le_refl _)
      have HL := hL.below hb (Nat.le_refl _)
      have hfd : fieldB op l gs[k] = if gs[k].1 ∈ l then mayB op gs[k].1 gs[k].2 else zeroB gs[k].2 := rfl
      clear hst hmem hbad hnext hv hF hL hs
      generalize gs[k] = g at *
      obtain ⟨no, x⟩ := g
      simp only at q0 q1 hsk hvw hfd
      obtain ⟨t, u, rfl⟩ := hvw.iface
      have HF : Hid (fieldB op l (no, x) = if no ∈ l then mayB op no x else zeroB x) := hfd
      clear hfd
      have hbn := (hb.alloc hb.size (.cells #[.int .i64 no, .iface t u] 132))
      have HLb := HL.boxed (.cells #[.int .i64 no, .iface t u] 132)
      have HV : VRep (wr.alloc (.cells #[.int .i64 no, .iface t u] 132)) (.iface t u) x := hvw.below (newBox wr _) (Nat.le_refl _)
      clear hvw HL
      by_cases hin : no ∈ l
      · have hdec : decide (no ∈ l) = true := by simpa using hin
        have hff := HF.out
        rw [if_pos hin] at hff
        have HFF : Hid (fieldB op l (no, x) = mayB op no x) := hff
        clear hff hin HF
        cases hm : mayB op no x
        · go_wp2_with (first
            | (go_at_call 114; refine (contains_any ho hn hc l no _ hbd2 HLb).mono ?_; rintro e w1 ⟨rfl, hw1⟩; subst w1; rw [hdec])
            | (go_at_call 115; refine (mayStand_any op no x _ _ HV hsk).mono ?_; rintro e w1 ⟨rfl, hb1⟩; rw [hm]))
          go_ret
          have h1 := HFF.out
          rw [hm] at h1
          exact ⟨by rw [HB.out h1]; rfl, hbn.trans (hb1.mono hbn.size)⟩
        · go_wp2_with (first
            | (go_at_call 114; refine (contains_any ho hn hc l no _ hbd2 HLb).mono ?_; rintro e w1 ⟨rfl, hw1⟩; subst w1; rw [hdec])
            | (go_at_call 115; refine (mayStand_any op no x _ _ HV hsk).mono ?_; rintro e w1 ⟨rfl, hb1⟩; rw [hm]))
          have h1 := HFF.out
          rw [hm] at h1
          have HX : Hid ((gs.take (k + 1)).all (fieldB op l) = true) := HN.out h1
          clear h1
          have hq1 := hbn.trans (hb1.mono hbn.size)
          go_roundw
          case rel => exact ⟨k + 1, by omega, by go_num, HX, hq1⟩
          case measure => simp [intOf]; omega
      · have hdec : decide (no ∈ l) = false := by simpa using hin
        have hff := HF.out
        rw [if_neg hin] at hff
        have HFF : Hid (fieldB op l (no, x) = zeroB x) := hff
        clear hff hin HF
        cases hm : zeroB x
        · go_wp2_with (first
            | (go_at_call 114; refine (contains_any ho hn hc l no _ hbd2 HLb).mono ?_; rintro e w1 ⟨rfl, hw1⟩; subst w1; rw [hdec])
            | (go_at_call 116; refine (isZero_any x _ _ HV).mono ?_; rintro e w1 ⟨rfl, hb1⟩; rw [hm]))
          go_ret
          have h1 := HFF.out
          rw [hm] at h1
          exact ⟨by rw [HB.out h1]; rfl, hbn.trans (hb1.mono hbn.size)⟩
        · go_wp2_with (first
            | (go_at_call 114; refine (contains_any ho hn hc l no _ hbd2 HLb).mono ?_; rintro e w1 ⟨rfl, hw1⟩; subst w1; rw [hdec])
            | (go_at_call 116; refine (isZero_any x _ _ HV).mono ?_; rintro e w1 ⟨rfl, hb1⟩; rw [hm]))
          have h1 := HFF.out
          rw [hm] at h1
          have HX : Hid ((gs.take (k + 1)).all (fieldB op l) = true) := HN.out h1
          clear h1
          have hq1 := hbn.trans (hb1.mono hbn.size)
          go_roundw
          case rel => exact ⟨k + 1, by omega, by go_num, HX, hq1⟩
          case measure => simp [intOf]; omega
    · clear hF hL hs
      have hki : decide ((k : Int) < (n : Int)) = false := by simp; omega
      go_wp2
      go_ret
      have h2 := HO.out
      rw [List.take_of_length_le (by omega)] at h2
      exact ⟨by simp [judgeE, h2], hb⟩
end Go.Proofs.YtdkcplndplhblaaGreatDoor

/- Check and Encode by their contracts. -/
namespace Go.Proofs.YtdkcplndplhblaaGreatDoor
open Go.RowKit
set_option maxRecDepth 100000

/-- CheckRequest's answer. -/
def rqE (r : Req) : Int := if rqHeadE r = 0 then judgeE r.op (hasRq r.op) (rqAny r) else rqHeadE r
/-- Of a reply, error 6. -/
def rpBodyE (r : Rep) : Int := if (r.more && decide (r.list.length = 0)) = true then 46 else judgeE r.op (hasRp r.op r.status) (rpAny r)
def rpE (r : Rep) : Int := if rpHeadE r = 0 then rpBodyE r else rpHeadE r

set_option maxHeartbeats 4000000 in
theorem judgeRequestBody_any (r : Req) (ao : Option Addr) (n c : Nat) (w : World) (hD : Lies w ao n c r.data) (hp : r.path.size ≤ 281474976710656) :
    Calls Tryz.prog 39 #[rqV r ao n c] w fun e w' => e = .returned (.int .i64 (judgeE r.op (hasRq r.op) (rqAny r))) ∧ Below w.heap.size w w' := by
  have hB0 := RqBox.new w r ao n c
  have hpath : ∀ g ∈ rqAny r, ∀ s, g.2 = .path s → s.size ≤ 281474976710656 := by
    intro g hg s hs
    simp only [rqAny, List.mem_cons, List.not_mem_nil, or_false] at hg
    rcases hg with rfl | rfl | rfl | rfl | rfl | rfl | rfl | rfl <;> simp at hs
    subst hs; exact hp
  go_enter Tryz.func39, Tryz.ntmps39
  go_wp2_with fail
  generalize hw0 : w.alloc (.cells #[.int .i64 r.client, .int .i64 r.seq, .int .i64 r.ack, .int .i64 r.epoch, .int .i64 r.op, .int .i64 r.id, .int .i64 r.id2, .int .i64 r.off, .int .i64 r.len, .string r.path, .string r.name, .string r.name2, .slice ao n c] 24) = w0 at *
  have hb0 : Below w.heap.size w w0.drew := drw (hw0 ▸ newBox w _)
  replace hB0 : RqBox w0.drew w.heap.size r ao n c := hB0
  go_region_held3 (fun w' => w'.cell? ⟨w.heap.size, 0, none⟩ = some (.int .i64 r.client) ∧ w'.cell? ⟨w.heap.size, 1, none⟩ = some (.int .i64 r.seq) ∧ w'.cell? ⟨w.heap.size, 2, none⟩ = some (.int .i64 r.ack) ∧ w'.cell? ⟨w.heap.size, 3, none⟩ = some (.int .i64 r.epoch) ∧ w'.cell? ⟨w.heap.size, 4, none⟩ = some (.int .i64 r.op) ∧ w'.cell? ⟨w.heap.size, 5, none⟩ = some (.int .i64 r.id) ∧ w'.cell? ⟨w.heap.size, 6, none⟩ = some (.int .i64 r.id2) ∧ w'.cell? ⟨w.heap.size, 7, none⟩ = some (.int .i64 r.off) ∧ w'.cell? ⟨w.heap.size, 8, none⟩ = some (.int .i64 r.len) ∧ w'.cell? ⟨w.heap.size, 9, none⟩ = some (.string r.path) ∧ w'.cell? ⟨w.heap.size, 10, none⟩ = some (.string r.name) ∧ w'.cell? ⟨w.heap.size, 11, none⟩ = some (.string r.name2) ∧ w'.cell? ⟨w.heap.size, 12, none⟩ = some (.slice ao n c))
    (first | exact hB0 | exact hB1 | exact hB2 | exact hB3)
    (first
      | (go_at_call 82; refine (anyRequestBody_any r ao n c _ (hD.below hb0 (Nat.le_refl _))).mono ?_; rintro e w1 ⟨fo1, k1, rfl, hF1, hb1⟩; have hB1 := RqBox.later hB0 hb1 (Nat.le_refl _))
      | (go_at_call 83; refine (requestHas_any r.op _).mono ?_; rintro e w2 ⟨ho, hn, hc, rfl, hH2, hb2⟩; have hB2 := RqBox.later hB1 hb2 (Nat.le_refl _))
      | (go_at_call 81; refine (judgeBody_any r.op (rqAny r) fo1 8 k1 ho hn hc (hasRq r.op) _ (hF1.below hb2 (Nat.le_refl _)) (by omega) hH2 (has_small hH2 (hasRq_len _)) hpath).mono ?_; rintro e w3 ⟨rfl, hb3⟩; have hB3 := RqBox.later hB2 hb3 (Nat.le_refl _)))
  clear hB0 hB1 hB2 hB3
  have hq1 := hb0.trans (hb1.mono hb0.size)
  have hq2 := hq1.trans (hb2.mono hq1.size)
  have hq3 := hq2.trans (hb3.mono hq2.size)
  go_wp2
  go_ret
  exact ⟨rfl, hq3⟩

set_option maxHeartbeats 1000000 in
theorem checkRequest_any (r : Req) (ao : Option Addr) (n c : Nat) (w : World) (hD : Lies w ao n c r.data) (hp : r.path.size ≤ 281474976710656) :
    Calls Tryz.prog 9 #[rqV r ao n c] w fun e w' => e = .returned (.int .i64 (rqE r)) ∧ Below w.heap.size w w' := by
  unfold rqE
  have hB0 := RqBox.new w r ao n c
  by_cases h0 : rqHeadE r = 0
  · rw [if_pos h0]
    go_enter Tryz.func9, Tryz.ntmps9
    go_wp2_with (first
      | (go_at_call 38; refine (judgeRequestHead_any r ao n c _).mono ?_; rintro e w1 ⟨rfl, hb1⟩; rw [h0]; have hB1 := RqBox.later hB0 hb1 (Nat.le_refl _); have hq1 := (newBox w _).trans (hb1.mono (by simp)); obtain ⟨d0, d1, d2, d3, d4, d5, d6, d7, d8, d9, d10, d11, d12⟩ := hB1)
      | (go_at_call 39; refine (judgeRequestBody_any r ao n c _ (hD.below hq1 (Nat.le_refl _)) hp).mono ?_; rintro e w2 ⟨rfl, hb2⟩))
    go_ret
    exact ⟨rfl, hq1.trans (hb2.mono hq1.size)⟩
  · rw [if_neg h0]
    have h1 : (rqHeadE r != 0) = true := by simpa using h0
    go_enter Tryz.func9, Tryz.ntmps9
    go_wp2_with (first
      | (go_at_call 38; refine (judgeRequestHead_any r ao n c _).mono ?_; rintro e w1 ⟨rfl, hb1⟩; have hq1 := (newBox w _).trans (hb1.mono (by simp))))
    go_ret
    exact ⟨rfl, hq1⟩

end Go.Proofs.YtdkcplndplhblaaGreatDoor
