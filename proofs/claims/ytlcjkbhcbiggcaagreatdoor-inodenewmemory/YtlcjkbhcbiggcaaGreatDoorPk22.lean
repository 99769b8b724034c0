/- New. -/
import Derived.Test.YtlcjkbhcbiggcaaGreatDoorPk21
import Derived.Test.YtlcjkbhcbiggcaaGreatDoorPk01
import Derived.Laws.CopyOwn
namespace Go.Proofs.YtlcjkbhcbiggcaaGreatDoor
open Go.RowKit Go.Maps
set_option maxRecDepth 100000

/-- May a slot be taken? -/
def canT (r : Rec) : Bool := r.kind == 0 && decide (r.gen < 1099511627776)
/-- What New answers. -/
def NwR (w w' : World) (c : Kc) (i : Nat) (F : Nat → Prop) (v : Nat → List Int) (ks : List Nat) (m ta N : Nat) (T : Nat → Rec) (k : Int) (e : Ending) : Prop :=
  (∃ q, ((q = 1 ∧ kindB k = false) ∨ (q = 92 ∧ kindB k = true ∧ ∀ n, n < N → canT (T n) = false)) ∧ e = .returned (.tuple #[inV ino0, .int .i64 q]) ∧ Tv w' c i F v ks m ∧ Turns F w w') ∨ ∃ n, kindB k = true ∧ n < N ∧ canT (T n) = true ∧ (∀ j, j < n → canT (T j) = false) ∧ e = .returned (.tuple #[inV (inoN ((T n).gen + 1) n k c.seq), .int .i64 0]) ∧ WrR w w' c i F v ks m ta n (recOf ((T n).gen + 1) (inoN ((T n).gen + 1) n k c.seq))
attribute [local go_sem ↓ 100000] sl_store sl_load ly_store ly_load in_store in_load
attribute [local go_sem] SlStore.newS InStore.newI LyStore.new LyStore.drew LyLoad.new LyLoad.drew
set_option maxHeartbeats 4000000 in
theorem new_any {w : World} {c : Kc} {i m ta N : Nat} {F : Nat → Prop} {v : Nat → List Int} {ks : List Nat} {l : Lay} {T : Nat → Rec} (h : Tv w c i F v ks m) (hl : Geo l c ta N) (ht : Tab l ta N v T) (k : Int) (hsq : (c.seq : Int) ≤ 4611686018427387904) (hroom : ∀ n, n < N → canT (T n) = true → (∀ j, j < n → canT (T j) = false) → ta + n / 4 ∈ ks ∨ ks.length < 24) (hm : m ≤ 1000000) :
    Calls Tryz.prog 48 #[.pointer (some ⟨c.tb, 0, none⟩), lyV l, .int .i64 k] w fun e w' => NwR w w' c i F v ks m ta N T k e := by
  have A := LI.new w l
  obtain ⟨W2, hW2⟩ : ∃ W, (w.alloc (.cells #[.int .i64 l.bo, .int .i64 l.jr, .int .i64 l.jl, .int .i64 l.le, .int .i64 l.ll, .int .i64 l.bi, .int .i64 l.bl, .int .i64 l.ta, .int .i64 l.tl, .int .i64 l.dt, .int .i64 l.dl, .int .i64 l.to, .int .i64 l.sh.cl, .int .i64 l.sh.wi, .int .i64 l.sh.pl, .int .i64 l.sh.ca, .int .i64 l.sh.ino, .int .i64 l.sh.qu, .int .i64 l.sh.da, .int .i64 l.sh.jo] 60)).alloc (.cells #[.int .i64 0, .int .i64 0, .int .i64 0, .int .i64 0, .int .i64 0, .int .i64 0, .int .i64 0, .int .i64 0, .int .i64 0, .int .i64 0, .int .i64 0, .int .i64 0, .int .i64 0] 38) = W := ⟨_, rfl⟩
  rw [hW2] at A
  have c16 : W2.cell? ⟨w.heap.size, 16, none⟩ = some (.int .i64 (N : Nat)) := by rw [← hl.ino]; exact A.L.ino
  have z2 := A.z
  have hN := hl.n
  have nF : ∀ j, w.heap.size ≤ j → ¬ F j := fun j hj q => by have := h.lt j q; omega
  by_cases hk : kindB k = true
  case neg =>
    have hk : kindB k = false := by simpa using hk
    have HK : Hid (kindB k = false) := hk
    have e1 := InStore.row (cs := #[.int .i64 0, .int .i64 0, .int .i64 0, .int .i64 0, .int .i64 0, .int .i64 0, .int .i64 0, .int .i64 0, .int .i64 0, .int .i64 0, .int .i64 0, .int .i64 0, .int .i64 0]) A.S rfl rfl (by simp [Value.oneCell'])
    have tb := Turns.row1 W2 (w.heap.size + 1) #[.int .i64 0, .int .i64 0, .int .i64 0, .int .i64 0, .int .i64 0, .int .i64 0, .int .i64 0, .int .i64 0, .int .i64 0, .int .i64 0, .int .i64 0, .int .i64 0, .int .i64 0]
    have T2 := h.below A.B
    go_enter Tryz.func48, Tryz.ntmps48
    go_wp2_with fail
    try rw [hW2]
    go_wp2_with fail
    refine (isKind_any k _).mono ?_
    rintro e wq ⟨rfl, hq⟩
    subst wq
    rw [hk]
    clear hk
    go_wp2_with fail
    refine bodyPost_ret (res2 rfl _ _ (w.heap.size + 1) 38 _ (0, 0) _ rfl (setRow_heap _ _ _ _ _ _ A.S) Tryz.underlying38 rfl in_size) rfl ?_
    exact Or.inl ⟨1, Or.inl ⟨rfl, HK.out⟩, rfl, T2.keep tb (fun j hj e => nF j (by omega) hj), (Below.turns A.B F).trans tb (fun j hj e => by omega)⟩
  have HK : Hid (kindB k = true) := hk
  have hkk : k = 1 ∨ k = 2 := of_decide_eq_true hk
  go_enter Tryz.func48, Tryz.ntmps48
  go_wp2_with fail
  try rw [hW2]
  go_wp2_with fail
  refine (isKind_any k _).mono ?_
  rintro e wq ⟨rfl, hq⟩
  subst wq
  rw [hk]
  clear hk
  go_wp2_with fail
  have T2 := h.below A.B
  have t02 : Turns F w W2 := Below.turns A.B F
  have L2 := A.L
  have I2 := A.S
  clear A hW2 c16
  go_loopw [18] (fun x wr => ∃ n : Nat, n ≤ N ∧ x = .int .i64 n ∧ LyB wr w.heap.size l ∧ InBox wr (w.heap.size + 1) ino0 ∧ Tv wr c i F v ks m ∧ Turns F w wr ∧ ∀ j, j < n → canT (T j) = false) (fun x _ => N - (intOf x).toNat)
  case atStart => exact ⟨0, by omega, rfl, L2, I2, T2, t02, fun j hj => by omega⟩
  case round =>
    obtain ⟨n, hn, rfl, L3, I3, T3, t03, hall⟩ := hrel
    have HA : Hid (∀ j, j < n → canT (T j) = false) := hall
    clear hall L2 I2 T2 t02
    have zi := heap_lt I3
    by_cases hnN : n = N
    · subst hnN
      have e1 := InStore.row (cs := #[.int .i64 0, .int .i64 0, .int .i64 0, .int .i64 0, .int .i64 0, .int .i64 0, .int .i64 0, .int .i64 0, .int .i64 0, .int .i64 0, .int .i64 0, .int .i64 0, .int .i64 0]) I3 rfl rfl (by simp [Value.oneCell'])
      have tb := Turns.row1 wr (w.heap.size + 1) #[.int .i64 0, .int .i64 0, .int .i64 0, .int .i64 0, .int .i64 0, .int .i64 0, .int .i64 0, .int .i64 0, .int .i64 0, .int .i64 0, .int .i64 0, .int .i64 0, .int .i64 0]
      go_wp2_with fail
      refine bodyPost_ret (res2 rfl _ _ (w.heap.size + 1) 38 _ (0, 0) _ rfl (setRow_heap _ _ _ _ _ _ I3) Tryz.underlying38 rfl in_size) rfl ?_
      exact Or.inl ⟨92, Or.inr ⟨rfl, HK.out, HA.out⟩, rfl, T3.keep tb (fun j hj e => nF j (by omega) hj), t03.trans tb (fun j hj e => by omega)⟩
    · have hlt : n < N := by omega
      have hlti : (n : Int) < (N : Int) := by omega
      have e1 := L3.ld
      go_wp2_with fail
      refine (slotAt_ok T3 hl hlt (ht.rc n hlt) (ht.ok n hlt)).mono ?_
      rintro e w4 ⟨g, rfl, hgw, hg, T4, t4⟩
      have L4 : LyB w4 w.heap.size l := (t4.block _ (heap_lt L3) (nF _ (by omega))).trans L3
      have I4 : InBox w4 (w.heap.size + 1) ino0 := (t4.block _ (heap_lt I3) (nF _ (by omega))).trans I3
      have t04 : Turns F w w4 := t03.trans t4 (fun _ _ h => h)
      have z3 := t03.size
      have z4 := t4.size
      have hgl := heap_lt hg
      clear e1 t4 T3 L3 I3 t03
      obtain ⟨s, hs⟩ : ∃ s, sltOf c.tb n ((ta : Int) + (n : Int) / 4) g (T n) = s := ⟨_, rfl⟩
      have HSF : Hid (s.tx = some ⟨c.tb, 0, none⟩ ∧ s.n = (n : Nat) ∧ s.at_ = (ta : Int) + (n : Int) / 4 ∧ s.bk = some ⟨g, 0, none⟩ ∧ s.len = 512 ∧ s.cap = 512) := by rw [← hs]; exact ⟨rfl, rfl, rfl, rfl, rfl, rfl⟩
      have HSG : Hid (s.gen = (T n).gen) := by show s.gen = _; rw [← hs]; rfl
      have HSC : Hid ((s.x.kind == 0 && decide (s.gen < 1099511627776)) = canT (T n)) := by show _ = _; rw [← hs]; rfl
      rw [hs]
      clear hs
      obtain ⟨W5, hW5⟩ : ∃ W, w4.alloc (.cells (slA s) 142) = W := ⟨_, rfl⟩
      have b5 : Below w4.heap.size w4 W5 := by rw [← hW5]; exact (Below.refl _ w4).alloc (Nat.le_refl _) _
      have S5 : SlBox W5 w4.heap.size s := by rw [← hW5]; exact heap_alloc_last w4 _
      have L5 := L4.below b5
      have I5 := I4.below b5
      have g5 := (b5.block g hgl).trans hg
      have T5 := T4.below b5
      have t05 : Turns F w W5 := t04.trans (Below.turns b5 F) (fun _ _ h => h)
      have e2 := SlLoad.row S5 (slA_size _)
      clear T4 L4 I4 t04 hg
      go_wp2_with fail
      try rw [hW5]
      go_wp2_with fail
      refine (mayBeTaken_any s _).mono ?_
      rintro e w6 ⟨rfl, b6⟩
      have S6 := S5.below b6
      have L6 := L5.below b6
      have I6 := I5.below b6
      have g6 := (b6.block g (heap_lt g5)).trans g5
      have T6 := T5.below b6
      have t06 : Turns F w w6 := t05.trans (Below.turns b6 F) (fun _ _ h => h)
      clear e2 T5 L5 I5 t05 g5 S5 b5 b6
      by_cases hc : canT (T n) = true
      · rw [HSC.out, hc]
        have HC : Hid (canT (T n) = true) := hc
        have hg01 : 0 ≤ s.gen ∧ s.gen < 1099511627776 := by
          rw [HSG.out]
          refine ⟨(ht.ok n hlt).ok.g0, ?_⟩
          unfold canT at hc
          simp only [Bool.and_eq_true, decide_eq_true_eq] at hc
          exact hc.2
        have hrm := hroom n hlt hc HA.out
        have e3 := SlLoad.row S6 (slA_size _)
        clear hc
        go_wp2_with fail
        refine (take_ok T6 t06 h.lt hl hlt s HSF.out (by omega) g6 hg01.1 hg01.2 k hkk hsq hrm hm).mono ?_
        rintro e w7 ⟨rfl, R7, u7⟩
        have I7 : InBox w7 (w.heap.size + 1) ino0 := (u7.block _ (heap_lt I6) (fun q => q.elim (nF _ (by omega)) (fun q => by omega))).trans I6
        have e4 := InStore.row (cs := inA (inoN (s.gen + 1) n k c.seq)) I7 rfl (inA_size _) (inA_one _)
        have tb := Turns.row1 w7 (w.heap.size + 1) (inA (inoN (s.gen + 1) n k c.seq))
        have z6 := heap_lt I6
        go_wp2_with fail
        refine bodyPost_ret (res2 rfl _ _ (w.heap.size + 1) 38 _ (0, 0) _ rfl (setRow_heap _ _ _ _ _ _ I7) Tryz.underlying38 rfl in_size) rfl ?_
        refine Or.inr ⟨n, HK.out, hlt, HC.out, HA.out, ?_, ?_⟩
        · rw [← HSG.out]; rfl
        · rw [← HSG.out]
          exact (R7.row tb h.lt (by omega) z6).mono t06.size
      · have hc : canT (T n) = false := by simpa using hc
        rw [HSC.out, hc]
        go_wp2_with fail
        exact ⟨⟨n + 1, by omega, rfl, L6, I6, T6, t06, fun j hj => by
          by_cases e : j = n
          · rw [e]; exact hc
          · exact HA.out j (by omega)⟩, by simp [intOf]; omega⟩
end Go.Proofs.YtlcjkbhcbiggcaaGreatDoor

/- All. -/
namespace Go.Proofs.YtlcjkbhcbiggcaaGreatDoor
open Go.RowKit Go.Maps
set_option maxRecDepth 100000

/-- A list of inodes, cell by cell. -/
def inLs (ls : List Ino) : List Value := ls.flatMap fun x => (inA x).toList
theorem inLs_len (ls : List Ino) : (inLs ls).length = ls.length * 13 := by
  induction ls with
  | nil => rfl
  | cons x ls ih =>
    unfold inLs at ih ⊢
    rw [List.flatMap_cons, List.length_append, ih]
    show 13 + _ = (ls.length + 1) * 13
    omega
theorem inLs_snoc (ls : List Ino) (x : Ino) : inLs (ls ++ [x]) = inLs ls ++ (inA x).toList := by simp [inLs]
/-- All that is in use, by slots. -/
def used (T : Nat → Rec) : Nat → List Ino
  | 0 => []
  | n + 1 => used T n ++ (if (T n).kind = 0 then [] else [(T n).ino ((T n).gen * 256 + n)])
theorem used_len (T : Nat → Rec) : ∀ n, (used T n).length ≤ n
  | 0 => Nat.le_refl _
  | n + 1 => by
    unfold used
    rw [List.length_append]
    have := used_len T n
    split <;> simp <;> omega
theorem Tryz.infoI : (Tryz.prog.info? 38).map (fun i => (i.zero, i.size, i.bytes)) = some (some (.agg #[.int .i64 0, .int .i64 0, .int .i64 0, .int .i64 0, .int .i64 0, .int .i64 0, .int .i64 0, .int .i64 0, .int .i64 0, .int .i64 0, .int .i64 0, .int .i64 0, .int .i64 0]), 13, 104) := by kernel_rfl
theorem infoI_parts : ∃ i, Tryz.prog.info? 38 = some i ∧ i.zero = some (.agg #[.int .i64 0, .int .i64 0, .int .i64 0, .int .i64 0, .int .i64 0, .int .i64 0, .int .i64 0, .int .i64 0, .int .i64 0, .int .i64 0, .int .i64 0, .int .i64 0, .int .i64 0]) ∧ i.size = 13 ∧ i.bytes = 104 := by
  have := Tryz.infoI
  cases h : Tryz.prog.info? 38 with
  | none => rw [h] at this; cases this
  | some i =>
    rw [h] at this
    simp only [Option.map_some, Option.some.injEq, Prod.mk.injEq] at this
    exact ⟨i, rfl, this.1, this.2.1, this.2.2⟩
theorem own_base {w : World} {base e size n : Nat} {v : Value} {xs : List Value} (h : w.ownsRow base e size v n xs) {b : Nat} (hb : v.ownBlock = some b) : base ≤ b := by
  rcases h.2 with ⟨h1, _⟩ | ⟨g, cap, cur, h1, h2, _⟩
  · rw [h1] at hb; cases hb
  · rw [h1] at hb
    cases hb
    exact h2
theorem build_in (x : Ino) : Array.foldl (fun cs (p : Value × Nat) => cs.setIfInBounds p.snd p.fst) #[.int .i64 0, .int .i64 0, .int .i64 0, .int .i64 0, .int .i64 0, .int .i64 0, .int .i64 0, .int .i64 0, .int .i64 0, .int .i64 0, .int .i64 0, .int .i64 0, .int .i64 0] (inA x).zipIdx 0 (inA x).size = inA x := by simp [inA]
theorem build_in2 (x : Ino) : Array.foldl (fun cs (p : Value × Nat) => cs.setIfInBounds p.snd p.fst) #[.int .i64 0, .int .i64 0, .int .i64 0, .int .i64 0, .int .i64 0, .int .i64 0, .int .i64 0, .int .i64 0, .int .i64 0, .int .i64 0, .int .i64 0, .int .i64 0, .int .i64 0] (inA x).zipIdx 0 13 = inA x := by simp [inA]
/-- What All answers. -/
def AlR (w w' : World) (c : Kc) (i : Nat) (F : Nat → Prop) (v : Nat → List Int) (ks : List Nat) (m N : Nat) (T : Nat → Rec) (e : Ending) : Prop :=
  ∃ lv, e = .returned (.tuple #[lv, .int .i64 0]) ∧ w'.ownsRow w.heap.size 38 13 lv (used T N).length (inLs (used T N)) ∧ Tv w' c i F v ks m ∧ Turns F w w'
attribute [local go_sem ↓ 100000] sl_store sl_load ly_store ly_load in_store in_load
attribute [local go_sem] build_in build_in2 SlStore.newS InStore.newI LyStore.new LyStore.drew LyLoad.new LyLoad.drew
set_option maxHeartbeats 4000000 in
theorem all_any {w : World} {c : Kc} {i m ta N : Nat} {F : Nat → Prop} {v : Nat → List Int} {ks : List Nat} {l : Lay} {T : Nat → Rec} (h : Tv w c i F v ks m) (hl : Geo l c ta N) (ht : Tab l ta N v T) :
    Calls Tryz.prog 40 #[.pointer (some ⟨c.tb, 0, none⟩), lyV l] w fun e w' => AlR w w' c i F v ks m N T e := by
  obtain ⟨W2, hW2⟩ : ∃ W, w.alloc (.cells #[.int .i64 l.bo, .int .i64 l.jr, .int .i64 l.jl, .int .i64 l.le, .int .i64 l.ll, .int .i64 l.bi, .int .i64 l.bl, .int .i64 l.ta, .int .i64 l.tl, .int .i64 l.dt, .int .i64 l.dl, .int .i64 l.to, .int .i64 l.sh.cl, .int .i64 l.sh.wi, .int .i64 l.sh.pl, .int .i64 l.sh.ca, .int .i64 l.sh.ino, .int .i64 l.sh.qu, .int .i64 l.sh.da, .int .i64 l.sh.jo] 60) = W := ⟨_, rfl⟩
  have b2 : Below w.heap.size w W2 := by rw [← hW2]; exact (Below.refl _ w).alloc (Nat.le_refl _) _
  have L2 : LyB W2 w.heap.size l := by rw [← hW2]; exact LyB.new w l
  have c16 : W2.cell? ⟨w.heap.size, 16, none⟩ = some (.int .i64 (N : Nat)) := by rw [← hl.ino]; exact L2.ino
  have hN := hl.n
  have nF : ∀ j, w.heap.size ≤ j → ¬ F j := fun j hj q => by have := h.lt j q; omega
  obtain ⟨i0, hi, hz0, hz1, hz2⟩ := infoI_parts
  have T2 := h.below b2
  have t02 : Turns F w W2 := Below.turns b2 F
  go_enter Tryz.func40, Tryz.ntmps40
  go_wp2_with fail
  try rw [hW2]
  go_wp2_with fail
  clear c16 hW2
  go_loopw [6, 13] (fun lv x wr => ∃ n : Nat, n ≤ N ∧ x = .int .i64 n ∧ LyB wr w.heap.size l ∧ wr.ownsRow w.heap.size 38 13 lv (used T n).length (inLs (used T n)) ∧ Tv wr c i F v ks m ∧ Turns F w wr) (fun _ x _ => N - (intOf x).toNat)
  case atStart => exact ⟨0, by omega, rfl, L2, World.ownsRow_nil _ _ _ _, T2, t02⟩
  case round =>
    obtain ⟨n, hn, rfl, L3, o3, T3, t03⟩ := hrel
    clear L2 T2 t02
    by_cases hnN : n = N
    · subst hnN
      go_wp2_with fail
      refine bodyPost_ret (results_tmp2 rfl _ _ _) rfl ?_
      exact ⟨_, rfl, o3, T3, t03⟩
    · have hlt : n < N := by omega
      have hlti : (n : Int) < (N : Int) := by omega
      have e1 := L3.ld
      go_wp2_with fail
      refine (slotAt_ok T3 hl hlt (ht.rc n hlt) (ht.ok n hlt)).mono ?_
      rintro e w4 ⟨g, rfl, hgw, hg, T4, t4⟩
      have zl := heap_lt L3
      have L4 : LyB w4 w.heap.size l := (t4.block _ (heap_lt L3) (nF _ (by omega))).trans L3
      have nO : ∀ b, u6.ownBlock = some b → ¬ F b := fun b hb => nF b (own_base o3 hb)
      have o4 := own_turns o3 t4 nO
      have t04 : Turns F w w4 := t03.trans t4 (fun _ _ h => h)
      have z3 := t03.size
      have z4 := t4.size
      clear e1 t4 T3 L3 t03 o3 hg
      obtain ⟨s, hs⟩ : ∃ s, sltOf c.tb n ((ta : Int) + (n : Int) / 4) g (T n) = s := ⟨_, rfl⟩
      have HSK : Hid ((s.x.kind == 0) = ((T n).kind == 0)) := by show _ = _; rw [← hs]; rfl
      have HSX : Hid (s.x = (T n).ino ((T n).id n)) := by show s.x = _; rw [← hs]; rfl
      rw [hs]
      clear hs
      obtain ⟨W5, hW5⟩ : ∃ W, w4.alloc (.cells (slA s) 142) = W := ⟨_, rfl⟩
      have b5 : Below w4.heap.size w4 W5 := by rw [← hW5]; exact (Below.refl _ w4).alloc (Nat.le_refl _) _
      have S5 : SlBox W5 w4.heap.size s := by rw [← hW5]; exact heap_alloc_last w4 _
      have L5 := L4.below b5
      have T5 := T4.below b5
      have o5 := own_on o4 b5
      have t05 : Turns F w W5 := t04.trans (Below.turns b5 F) (fun _ _ h => h)
      have e2 := SlLoad.row S5 (slA_size _)
      clear T4 L4 t04 o4
      go_wp2_with fail
      try rw [hW5]
      go_wp2_with fail
      refine (isFree_any s _).mono ?_
      rintro e w6 ⟨rfl, b6⟩
      have S6 := S5.below b6
      have L6 := L5.below b6
      have T6 := T5.below b6
      have o6 := own_on o5 b6
      have t06 : Turns F w w6 := t05.trans (Below.turns b6 F) (fun _ _ h => h)
      have z6 := t06.size
      clear e2 T5 L5 t05 o5 S5 b5 b6
      by_cases hc : (T n).kind = 0
      · have hc' : ((T n).kind == 0) = true := by simpa using hc
        rw [HSK.out, hc']
        have hu : used T (n + 1) = used T n := by simp [used, hc]
        have HU : Hid (used T (n + 1) = used T n) := hu
        clear hc hu
        go_wp2_with fail
        exact ⟨⟨n + 1, by omega, rfl, L6, by rw [HU.out]; exact o6, T6, t06⟩, by simp [intOf]; omega⟩
      · have hc' : ((T n).kind == 0) = false := by simpa using hc
        rw [HSK.out, hc']
        have HU : Hid (used T (n + 1) = used T n ++ [s.x]) := by
          show _ = _
          rw [HSX.out]
          unfold Rec.id
          rw [if_neg hc]
          simp [used, hc]
        have hul := used_len T n
        have r6 := S6.cells.inr
        have e3 := InLoad.mid r6 rfl
        clear hc
        have bq : Below w6.heap.size w6 (w6.alloc (.cells (inA s.x) 38)) := (Below.refl _ w6).alloc (Nat.le_refl _) _
        have oq := own_on o6 bq
        have hs13 := inA_size s.x
        go_wp2_with (at_builtin; refine wpList_append_own _ rfl _ _ 27 rfl w.heap.size 38 i0 (.agg #[.int .i64 0, .int .i64 0, .int .i64 0, .int .i64 0, .int .i64 0, .int .i64 0, .int .i64 0, .int .i64 0, .int .i64 0, .int .i64 0, .int .i64 0, .int .i64 0, .int .i64 0]) 13 104 Tryz.underlying27 hi hz0 hz1 hz2 rfl (by decide) u6 _ _ rfl oq ⟨w6.heap.size, 0, none⟩ 1 1 (inA s.x).toList rfl rfl (World.news_of_block (heap_alloc_last w6 _)) (by intro u hu; exact (Array.all_eq_true_iff_forall_mem.1 (inA_one s.x)) u (by simpa using hu)) (by unfold maxLen; omega) (by omega) (by simp; omega) ?_; intro lv7 w7 o7 gr7 _)
        have t7 : Turns (fun b => u6.ownBlock = some b) w6 w7 := (Below.turns bq _).trans (Turns.grown gr7 (fun b hb => hb)) (fun _ _ q => q)
        have zl := heap_lt L6
        have L7 : LyB w7 w.heap.size l := (t7.block _ zl (fun q => own_typeJ o6 L6 (by decide) q)).trans L6
        have nO : ∀ b, u6.ownBlock = some b → ¬ F b := fun b hb => nF b (own_base o6 hb)
        refine ⟨⟨n + 1, by omega, rfl, L7, ?_, T6.keep t7 (fun j hj q => nO j q hj), t06.trans t7 (fun j hj q => by have := own_base o6 q; omega)⟩, by simp [intOf]; omega⟩
        rw [HU.out, List.length_append, inLs_snoc]
        exact o7
end Go.Proofs.YtlcjkbhcbiggcaaGreatDoor

/- layOut by its contract. -/
namespace Go.Proofs.YtlcjkbhcbiggcaaGreatDoor
open Go.RowKit
set_option maxRecDepth 100000
attribute [local go_sem ↓ 100000] ly_store ly_load
attribute [local go_sem] LyStore.new LyStore.drew LyLoad.new LyLoad.drew

theorem parts_four (n : Int) (w : World) (hn : 0 ≤ n) (hn1 : n ≤ 1000000) :
    Calls Tryz.prog 114 #[.int .i64 n, .int .i64 4] w fun e w' => e = .returned (.int .i64 ((n + 3) / 4)) ∧ w' = w := by
  have h := parts_any n 4 w hn (by omega) hn1 (by omega)
  rwa [show n + 4 - 1 = n + 3 by omega] at h

set_option maxHeartbeats 2000000 in
theorem layOut_any (s : Shp) (h : InB s) (w : World) :
    Calls Tryz.prog 63 #[shV s] w fun e w' => e = .returned (lyV (layOf s)) ∧ Below w.heap.size w w' := by
  have j0 := h.jo0
  have j1 := h.jo1
  have c0 := h.ca0
  have c1 := h.ca1
  have i0 := h.ino0
  have i1 := h.ino1
  have da0 := h.da0
  have da1 := h.da1
  have d0 : 0 ≤ (s.ino + 3) / 4 := by omega
  have d1 : (s.ino + 3) / 4 ≤ 100 := by omega
  clear h
  go_enter Tryz.func63, Tryz.ntmps63
  go_wp2
  have hB0 : ShBox ((w.alloc (.cells #[.int .i64 s.cl, .int .i64 s.wi, .int .i64 s.pl, .int .i64 s.ca, .int .i64 s.ino, .int .i64 s.qu, .int .i64 s.da, .int .i64 s.jo] 58)).alloc (.cells #[.int .i64 0, .int .i64 0, .int .i64 0, .int .i64 0, .int .i64 0, .int .i64 0, .int .i64 0, .int .i64 0, .int .i64 0, .int .i64 0, .int .i64 0, .int .i64 0, .int .i64 0, .int .i64 0, .int .i64 0, .int .i64 0, .int .i64 0, .int .i64 0, .int .i64 0, .int .i64 0] 60)) w.heap.size s := (ShBox.new w s).later (newBox _ _) (by simp)
  have hZ0 : ((w.alloc (.cells #[.int .i64 s.cl, .int .i64 s.wi, .int .i64 s.pl, .int .i64 s.ca, .int .i64 s.ino, .int .i64 s.qu, .int .i64 s.da, .int .i64 s.jo] 58)).alloc (.cells #[.int .i64 0, .int .i64 0, .int .i64 0, .int .i64 0, .int .i64 0, .int .i64 0, .int .i64 0, .int .i64 0, .int .i64 0, .int .i64 0, .int .i64 0, .int .i64 0, .int .i64 0, .int .i64 0, .int .i64 0, .int .i64 0, .int .i64 0, .int .i64 0, .int .i64 0, .int .i64 0] 60)).heap[w.heap.size + 1]? = some (.cells #[.int .i64 0, .int .i64 0, .int .i64 0, .int .i64 0, .int .i64 0, .int .i64 0, .int .i64 0, .int .i64 0, .int .i64 0, .int .i64 0, .int .i64 0, .int .i64 0, .int .i64 0, .int .i64 0, .int .i64 0, .int .i64 0, .int .i64 0, .int .i64 0, .int .i64 0, .int .i64 0] 60 (0, 0)) := heap_new2 w _ _
  have hb0 : Below w.heap.size w ((w.alloc (.cells #[.int .i64 s.cl, .int .i64 s.wi, .int .i64 s.pl, .int .i64 s.ca, .int .i64 s.ino, .int .i64 s.qu, .int .i64 s.da, .int .i64 s.jo] 58)).alloc (.cells #[.int .i64 0, .int .i64 0, .int .i64 0, .int .i64 0, .int .i64 0, .int .i64 0, .int .i64 0, .int .i64 0, .int .i64 0, .int .i64 0, .int .i64 0, .int .i64 0, .int .i64 0, .int .i64 0, .int .i64 0, .int .i64 0, .int .i64 0, .int .i64 0, .int .i64 0, .int .i64 0] 60)) := (newBox w _).trans ((newBox _ _).mono (by simp))
  have hs0 : w.heap.size < ((w.alloc (.cells #[.int .i64 s.cl, .int .i64 s.wi, .int .i64 s.pl, .int .i64 s.ca, .int .i64 s.ino, .int .i64 s.qu, .int .i64 s.da, .int .i64 s.jo] 58)).alloc (.cells #[.int .i64 0, .int .i64 0, .int .i64 0, .int .i64 0, .int .i64 0, .int .i64 0, .int .i64 0, .int .i64 0, .int .i64 0, .int .i64 0, .int .i64 0, .int .i64 0, .int .i64 0, .int .i64 0, .int .i64 0, .int .i64 0, .int .i64 0, .int .i64 0, .int .i64 0, .int .i64 0] 60)).heap.size := by simp; omega
  generalize ((w.alloc (.cells #[.int .i64 s.cl, .int .i64 s.wi, .int .i64 s.pl, .int .i64 s.ca, .int .i64 s.ino, .int .i64 s.qu, .int .i64 s.da, .int .i64 s.jo] 58)).alloc (.cells #[.int .i64 0, .int .i64 0, .int .i64 0, .int .i64 0, .int .i64 0, .int .i64 0, .int .i64 0, .int .i64 0, .int .i64 0, .int .i64 0, .int .i64 0, .int .i64 0, .int .i64 0, .int .i64 0, .int .i64 0, .int .i64 0, .int .i64 0, .int .i64 0, .int .i64 0, .int .i64 0] 60)) = w0 at *
  have hB1 : ShBox w0.drew w.heap.size s := hB0.later (Below.refl w0.heap.size w0).drew hs0
  go_region_held3 (fun w' => w'.cell? ⟨w.heap.size, 0, none⟩ = some (.int .i64 s.cl) ∧ w'.cell? ⟨w.heap.size, 1, none⟩ = some (.int .i64 s.wi) ∧ w'.cell? ⟨w.heap.size, 2, none⟩ = some (.int .i64 s.pl) ∧ w'.cell? ⟨w.heap.size, 3, none⟩ = some (.int .i64 s.ca) ∧ w'.cell? ⟨w.heap.size, 4, none⟩ = some (.int .i64 s.ino) ∧ w'.cell? ⟨w.heap.size, 5, none⟩ = some (.int .i64 s.qu) ∧ w'.cell? ⟨w.heap.size, 6, none⟩ = some (.int .i64 s.da) ∧ w'.cell? ⟨w.heap.size, 7, none⟩ = some (.int .i64 s.jo))
    (first | with_reducible exact hB1.all | with_reducible exact hB0.all | with_reducible exact (hB0.later (newBox _ _).drew hs0).all | with_reducible exact (hB0.later (newBox _ _) hs0).all)
    (first
      | (go_at_call 114; refine (parts_four s.ino _ (by omega) (by omega)).mono ?_; rintro e wq ⟨rfl, hq⟩; subst wq))
  all_goals
    have hst : ∀ (u : Obj) (x0 x1 x2 x3 x4 x5 x6 x7 x8 x9 x10 x11 x12 x13 x14 x15 x16 x17 x18 x19 : Int) (o : Oper) (a : Act) (next : Act → World → Prop) (Q : Exit → Act → World → Prop), LyStore (.pointer (some ⟨w.heap.size + 1, 0, none⟩)) (.agg #[.int .i64 x0, .int .i64 x1, .int .i64 x2, .int .i64 x3, .int .i64 x4, .int .i64 x5, .int .i64 x6, .int .i64 x7, .int .i64 x8, .int .i64 x9, .int .i64 x10, .int .i64 x11, .int .i64 x12, .int .i64 x13, .int .i64 x14, .int .i64 x15, .int .i64 x16, .int .i64 x17, .int .i64 x18, .int .i64 x19]) o a (w0.alloc u).drew next Q = next (a.put o.dst undef) ((w0.alloc u).drew.setRow (w.heap.size + 1) #[.int .i64 x0, .int .i64 x1, .int .i64 x2, .int .i64 x3, .int .i64 x4, .int .i64 x5, .int .i64 x6, .int .i64 x7, .int .i64 x8, .int .i64 x9, .int .i64 x10, .int .i64 x11, .int .i64 x12, .int .i64 x13, .int .i64 x14, .int .i64 x15, .int .i64 x16, .int .i64 x17, .int .i64 x18, .int .i64 x19]) := fun u => LyStore.row (((newBox w0 u).block _ (lt_of_block hZ0)).trans hZ0) rfl
    go_wp2
    refine bodyPost_ret (results_cell_row rfl _ _ (w.heap.size + 1) 60 _ (0, 0) _ rfl (setRow_heap _ _ _ _ _ _ (((newBox w0 _).block _ (lt_of_block hZ0)).trans hZ0)) Tryz.underlying60 rfl ly_size) rfl ?_
    exact ⟨rfl, below_setRow (hb0.trans ((newBox w0 _).mono hb0.size)).drew (by omega) _⟩
end Go.Proofs.YtlcjkbhcbiggcaaGreatDoor

/- An element of the table of bounds; of eight numbers. -/
namespace Go.Proofs.YtlcjkbhcbiggcaaGreatDoor
open Go.RowKit
set_option maxRecDepth 100000

theorem ix_bd0 (w : World) : (Instr.index 177 (.agg #[.int .i64 1, .int .i64 8, .int .i64 1, .int .i64 8, .int .i64 1, .int .i64 8, .int .i64 1, .int .i64 64, .int .i64 2, .int .i64 256, .int .i64 0, .int .i64 524288, .int .i64 1, .int .i64 4096, .int .i64 27, .int .i64 512]) (.int .i64 0)).run Tryz.prog w = .ok (.agg #[.int .i64 1, .int .i64 8]) w := by
  simp [Instr.index, asIntOf, run_underlying Tryz.underlying177, go_sem, part]
theorem ix_bd1 (w : World) : (Instr.index 177 (.agg #[.int .i64 1, .int .i64 8, .int .i64 1, .int .i64 8, .int .i64 1, .int .i64 8, .int .i64 1, .int .i64 64, .int .i64 2, .int .i64 256, .int .i64 0, .int .i64 524288, .int .i64 1, .int .i64 4096, .int .i64 27, .int .i64 512]) (.int .i64 1)).run Tryz.prog w = .ok (.agg #[.int .i64 1, .int .i64 8]) w := by
  simp [Instr.index, asIntOf, run_underlying Tryz.underlying177, go_sem, part]
theorem ix_bd2 (w : World) : (Instr.index 177 (.agg #[.int .i64 1, .int .i64 8, .int .i64 1, .int .i64 8, .int .i64 1, .int .i64 8, .int .i64 1, .int .i64 64, .int .i64 2, .int .i64 256, .int .i64 0, .int .i64 524288, .int .i64 1, .int .i64 4096, .int .i64 27, .int .i64 512]) (.int .i64 2)).run Tryz.prog w = .ok (.agg #[.int .i64 1, .int .i64 8]) w := by
  simp [Instr.index, asIntOf, run_underlying Tryz.underlying177, go_sem, part]
theorem ix_bd3 (w : World) : (Instr.index 177 (.agg #[.int .i64 1, .int .i64 8, .int .i64 1, .int .i64 8, .int .i64 1, .int .i64 8, .int .i64 1, .int .i64 64, .int .i64 2, .int .i64 256, .int .i64 0, .int .i64 524288, .int .i64 1, .int .i64 4096, .int .i64 27, .int .i64 512]) (.int .i64 3)).run Tryz.prog w = .ok (.agg #[.int .i64 1, .int .i64 64]) w := by
  simp [Instr.index, asIntOf, run_underlying Tryz.underlying177, go_sem, part]
theorem ix_bd4 (w : World) : (Instr.index 177 (.agg #[.int .i64 1, .int .i64 8, .int .i64 1, .int .i64 8, .int .i64 1, .int .i64 8, .int .i64 1, .int .i64 64, .int .i64 2, .int .i64 256, .int .i64 0, .int .i64 524288, .int .i64 1, .int .i64 4096, .int .i64 27, .int .i64 512]) (.int .i64 4)).run Tryz.prog w = .ok (.agg #[.int .i64 2, .int .i64 256]) w := by
  simp [Instr.index, asIntOf, run_underlying Tryz.underlying177, go_sem, part]
theorem ix_bd5 (w : World) : (Instr.index 177 (.agg #[.int .i64 1, .int .i64 8, .int .i64 1, .int .i64 8, .int .i64 1, .int .i64 8, .int .i64 1, .int .i64 64, .int .i64 2, .int .i64 256, .int .i64 0, .int .i64 524288, .int .i64 1, .int .i64 4096, .int .i64 27, .int .i64 512]) (.int .i64 5)).run Tryz.prog w = .ok (.agg #[.int .i64 0, .int .i64 524288]) w := by
  simp [Instr.index, asIntOf, run_underlying Tryz.underlying177, go_sem, part]
theorem ix_bd6 (w : World) : (Instr.index 177 (.agg #[.int .i64 1, .int .i64 8, .int .i64 1, .int .i64 8, .int .i64 1, .int .i64 8, .int .i64 1, .int .i64 64, .int .i64 2, .int .i64 256, .int .i64 0, .int .i64 524288, .int .i64 1, .int .i64 4096, .int .i64 27, .int .i64 512]) (.int .i64 6)).run Tryz.prog w = .ok (.agg #[.int .i64 1, .int .i64 4096]) w := by
  simp [Instr.index, asIntOf, run_underlying Tryz.underlying177, go_sem, part]
theorem ix_bd7 (w : World) : (Instr.index 177 (.agg #[.int .i64 1, .int .i64 8, .int .i64 1, .int .i64 8, .int .i64 1, .int .i64 8, .int .i64 1, .int .i64 64, .int .i64 2, .int .i64 256, .int .i64 0, .int .i64 524288, .int .i64 1, .int .i64 4096, .int .i64 27, .int .i64 512]) (.int .i64 7)).run Tryz.prog w = .ok (.agg #[.int .i64 27, .int .i64 512]) w := by
  simp [Instr.index, asIntOf, run_underlying Tryz.underlying177, go_sem, part]
theorem ix_nu0 (x0 x1 x2 x3 x4 x5 x6 x7 : Int) (w : World) : (Instr.index 36 (.agg #[.int .i64 x0, .int .i64 x1, .int .i64 x2, .int .i64 x3, .int .i64 x4, .int .i64 x5, .int .i64 x6, .int .i64 x7]) (.int .i64 0)).run Tryz.prog w = .ok (.int .i64 x0) w := by
  simp [Instr.index, asIntOf, run_underlying Tryz.underlying36, go_sem, part]
theorem ix_nu1 (x0 x1 x2 x3 x4 x5 x6 x7 : Int) (w : World) : (Instr.index 36 (.agg #[.int .i64 x0, .int .i64 x1, .int .i64 x2, .int .i64 x3, .int .i64 x4, .int .i64 x5, .int .i64 x6, .int .i64 x7]) (.int .i64 1)).run Tryz.prog w = .ok (.int .i64 x1) w := by
  simp [Instr.index, asIntOf, run_underlying Tryz.underlying36, go_sem, part]
theorem ix_nu2 (x0 x1 x2 x3 x4 x5 x6 x7 : Int) (w : World) : (Instr.index 36 (.agg #[.int .i64 x0, .int .i64 x1, .int .i64 x2, .int .i64 x3, .int .i64 x4, .int .i64 x5, .int .i64 x6, .int .i64 x7]) (.int .i64 2)).run Tryz.prog w = .ok (.int .i64 x2) w := by
  simp [Instr.index, asIntOf, run_underlying Tryz.underlying36, go_sem, part]
theorem ix_nu3 (x0 x1 x2 x3 x4 x5 x6 x7 : Int) (w : World) : (Instr.index 36 (.agg #[.int .i64 x0, .int .i64 x1, .int .i64 x2, .int .i64 x3, .int .i64 x4, .int .i64 x5, .int .i64 x6, .int .i64 x7]) (.int .i64 3)).run Tryz.prog w = .ok (.int .i64 x3) w := by
  simp [Instr.index, asIntOf, run_underlying Tryz.underlying36, go_sem, part]
theorem ix_nu4 (x0 x1 x2 x3 x4 x5 x6 x7 : Int) (w : World) : (Instr.index 36 (.agg #[.int .i64 x0, .int .i64 x1, .int .i64 x2, .int .i64 x3, .int .i64 x4, .int .i64 x5, .int .i64 x6, .int .i64 x7]) (.int .i64 4)).run Tryz.prog w = .ok (.int .i64 x4) w := by
  simp [Instr.index, asIntOf, run_underlying Tryz.underlying36, go_sem, part]
theorem ix_nu5 (x0 x1 x2 x3 x4 x5 x6 x7 : Int) (w : World) : (Instr.index 36 (.agg #[.int .i64 x0, .int .i64 x1, .int .i64 x2, .int .i64 x3, .int .i64 x4, .int .i64 x5, .int .i64 x6, .int .i64 x7]) (.int .i64 5)).run Tryz.prog w = .ok (.int .i64 x5) w := by
  simp [Instr.index, asIntOf, run_underlying Tryz.underlying36, go_sem, part]
theorem ix_nu6 (x0 x1 x2 x3 x4 x5 x6 x7 : Int) (w : World) : (Instr.index 36 (.agg #[.int .i64 x0, .int .i64 x1, .int .i64 x2, .int .i64 x3, .int .i64 x4, .int .i64 x5, .int .i64 x6, .int .i64 x7]) (.int .i64 6)).run Tryz.prog w = .ok (.int .i64 x6) w := by
  simp [Instr.index, asIntOf, run_underlying Tryz.underlying36, go_sem, part]
theorem ix_nu7 (x0 x1 x2 x3 x4 x5 x6 x7 : Int) (w : World) : (Instr.index 36 (.agg #[.int .i64 x0, .int .i64 x1, .int .i64 x2, .int .i64 x3, .int .i64 x4, .int .i64 x5, .int .i64 x6, .int .i64 x7]) (.int .i64 7)).run Tryz.prog w = .ok (.int .i64 x7) w := by
  simp [Instr.index, asIntOf, run_underlying Tryz.underlying36, go_sem, part]
end Go.Proofs.YtlcjkbhcbiggcaaGreatDoor
