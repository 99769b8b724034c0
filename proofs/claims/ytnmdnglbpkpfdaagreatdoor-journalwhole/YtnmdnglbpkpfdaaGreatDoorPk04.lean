/- What one call reads of the device, by its contract: read. -/
import Derived.Test.YtnmdnglbpkpfdaaGreatDoorPk03
import Derived.Test.YtnmdnglbpkpfdaaGreatDoorChecked
import Derived.WalkKit
import Derived.LaidEql
import Derived.Stop.Asserts
import Derived.RowKitTokens
import Derived.Test.YtnmdnglbpkpfdaaGreatDoorPk01
import Derived.Laws.BitsAllLaws
import Derived.Recover
import Derived.Orders
namespace Go.Proofs.YtnmdnglbpkpfdaaGreatDoor
open Go.RowKit
set_option maxRecDepth 100000
def rkE (e : Int) (S : DevS) (k : Nat) (b : Int) : Int := if e = 0 then rdE S k b else e
def rkD (e : Int) (S : DevS) (k : Nat) (b : Int) : List Int := if rkE e S k b = 0 then rdB S b.toNat else List.replicate 512 0
/-- What a read leaves. -/
def DidR (w w' : World) (wb d g : Nat) (e : Int) (S : DevS) (k N : Nat) (F : Nat → Prop) (bs : List Int) : Prop := w.heap.size ≤ g ∧ w'.heap[g]? = some (bl bs) ∧ ∃ ev, ErrV ev e ∧ Wk w' wb d ev ∧ Dev w' d 0 S k N F ∧ Turns (fun i => F i ∨ i = wb) w w'
theorem DidR.of {w w' : World} {d wb g : Nat} {S : DevS} {k N : Nat} {F : Nat → Prop} {v : Value} {e : Int} {bs : List Int} (hD : Dev w' d 0 S k N F) (t : Turns F w w') (hk : ∃ ev, Wk w' wb d ev) (hv : ErrV v e) (hwF : ¬ F wb) (hwb : wb < w.heap.size) (hg : w.heap.size ≤ g) (hb : w'.heap[g]? = some (bl bs)) : DidR w (w'.setCell ⟨wb, 1, none⟩ v) wb d g e S k N F bs := by
  obtain ⟨ev, hk⟩ := hk
  have T := Turns.cell w' wb 1 v
  exact ⟨hg, (T.block g (heap_lt hb) (by omega)).trans hb, v, hv, hk.set v, hD.turns T (fun i hi e => hwF (e ▸ hi)), (t.mono (fun _ _ h => Or.inl h)).trans T (fun i _ e => Or.inr e)⟩
theorem DidR.zeros {w w' : World} {d wb : Nat} {S : DevS} {k N : Nat} {F : Nat → Prop} {v : Value} {e : Int} (hD : Dev w' d 0 S k N F) (t : Turns (fun i => F i ∨ i = wb) w w') (hk : Wk w' wb d v) (hv : ErrV v e) : DidR w (w'.alloc (.cells (madeCells #[.int .u8 0] 512) 5)) wb d w'.heap.size e S k N F (List.replicate 512 0) := by
  have b := (Below.refl _ w').alloc (Nat.le_refl _) (.cells (madeCells #[.int .u8 0] 512) 5)
  have hs := t.size
  exact ⟨hs, zeros_bl w' 512, v, hv, hk.turns (Below.turns b (fun _ => False)) id, hD.below b, t.trans (Below.turns b (fun _ => False)) (fun _ _ h => h.elim)⟩
set_option maxHeartbeats 1000000 in
theorem wkread_any {w : World} {d wb : Nat} {S : DevS} {k N : Nat} {F : Nat → Prop} {ev : Value} {e0 : Int} (hD : Dev w d 0 S k N F) (hW : Wk w wb d ev) (hE : ErrV ev e0) (hwF : ¬ F wb) (b : Int) :
    Calls Tryz.prog 102 #[.pointer (some ⟨wb, 0, none⟩), .int .i64 b] w fun e w' => ∃ g, e = .returned (hv g) ∧ DidR w w' wb d g (rkE e0 S k b) S k N F (rkD e0 S k b) := by
  obtain ⟨i0, hi, hz0, hz1, hz2⟩ := info_parts Tryz.info5
  have c0 := hW.c0
  have c1 := hW.c1
  have hlt := heap_lt hW
  rcases hE with ⟨rfl, rfl⟩ | ⟨h0, s, rfl⟩
  · have hr0 : rkE 0 S k b = rdE S k b := if_pos rfl
    go_enter Tryz.func102, Tryz.ntmps102
    go_wp2_with fail
    refine (read_any hD b).mono ?_
    rintro e w1 ⟨hR, D1, t1⟩
    have k1 := hW.turns t1 hwF
    have c0 := k1.c0
    have c1 := k1.c1
    have f1 := k1.fz 1
    rcases hR with ⟨hne, rfl⟩ | ⟨heq, g, rfl, hg, hbl⟩
    · go_wp2_with fail
      refine (wrapped_any _ _ _).mono ?_
      rintro e wn ⟨v, rfl, hv, hwn⟩
      subst wn
      obtain ⟨_, s, rfl⟩ := hv.resolve_left (fun h => hne h.1)
      have k2 := k1.set (.iface 173 (.agg #[.string s, .iface 36 (.int .i64 (rdE S k b))]))
      have d1 := k2.c1
      have T2 := Turns.cell w1 wb 1 (.iface 173 (.agg #[.string s, .iface 36 (.int .i64 (rdE S k b))]))
      have fin := DidR.zeros (D1.turns T2 (fun i hi e => hwF (e ▸ hi))) ((t1.mono (fun _ _ h => Or.inl h)).trans T2 (fun i _ e => Or.inr e)) k2 hv
      rw [show (w1.setCell ⟨wb, 1, none⟩ (.iface 173 (.agg #[.string s, .iface 36 (.int .i64 (rdE S k b))]))).heap.size = w1.heap.size by simp [World.setCell]] at fin
      go_wp2_with (at_make; (refine wpList_make_row _ rfl _ _ 56 rfl 5 i0 (.int .u8 0) Tryz.underlying56 hi hz0 hz1 rfl _ _ 512 rfl rfl (by rw [hz2]; omega) (by omega) ?_))
      go_ret
      refine ⟨_, rfl, ?_⟩
      unfold rkD
      rw [hr0, if_neg hne]
      exact fin
    · have hrd : rkD 0 S k b = rdB S b.toNat := by unfold rkD; rw [hr0, if_pos heq]
      go_wp2_with fail
      refine (wrapped_any _ _ _).mono ?_
      rintro e wn ⟨v, rfl, hv, hwn⟩
      subst wn
      obtain ⟨_, rfl⟩ := hv.resolve_right (fun h => h.1 rfl)
      have k2 := k1.set .nilIface
      have d1 := k2.c1
      go_wp2
      go_ret
      refine ⟨_, rfl, ?_⟩
      rw [hr0, heq, hrd]
      exact DidR.of D1 t1 ⟨_, k1⟩ (Or.inl ⟨rfl, rfl⟩) hwF hlt hg hbl
  · have hr0 : rkE e0 S k b = e0 := if_neg h0
    go_enter Tryz.func102, Tryz.ntmps102
    go_wp2_with (at_make; (refine wpList_make_row _ rfl _ _ 56 rfl 5 i0 (.int .u8 0) Tryz.underlying56 hi hz0 hz1 rfl _ _ 512 rfl rfl (by rw [hz2]; omega) (by omega) ?_))
    go_ret
    refine ⟨_, rfl, ?_⟩
    unfold rkD
    rw [hr0, if_neg h0]
    exact DidR.zeros hD (Turns.refl _ _) hW (Or.inr ⟨h0, s, rfl⟩)
end Go.Proofs.YtnmdnglbpkpfdaaGreatDoor

/- errors.Is at this dump, for the package's five sentinels: the same one is found, another one is not. -/
namespace Go.Proofs.YtnmdnglbpkpfdaaGreatDoor
open Go.RowKit Go.Extern.Stop Go.Stop Go.Extern Go.Extern.Rtype
set_option maxRecDepth 100000
theorem isTypeOf (v : Value) (w : World) : (Extern.ReflectliteType.typeOf #[.iface 256 v]).run Tryz.prog w = .ok (.iface 223 (.agg #[.pointer (some ⟨6, 256, none⟩)])) w := by kernel_rfl
def cmpFn : Array Value → Sem Value := Extern.ReflectliteType.method fun t => do noPackHeld "Comparable" t; pure (.bool (← typeInfo t).comparable)
theorem isComparable (w : World) : (cmpFn #[.agg #[.pointer (some ⟨6, 256, none⟩)]]).run Tryz.prog w = .ok (.bool true) w := by kernel_rfl
theorem isMethodComparable (v : Value) (w : World) : (Go.method 388 223 v "Comparable").run Tryz.prog w = .ok (212, v) w := by kernel_rfl
theorem isComp : (Tryz.prog.info? 256).map (·.comparable) = some true := by kernel_rfl
theorem isSize : (Tryz.prog.info? 276).map (·.size) = some 1 := by kernel_rfl
theorem noIsE (v : Value) (xT : TypeId) (w : World) : (Instr.typeAssert (.iface 256 v) xT 253 true).run Tryz.prog w = .ok (.tuple #[.nilIface, .bool false]) w := run_typeAssert_lacksB Tryz.underlying253 (by kernel_rfl) (by kernel_rfl) v xT w
theorem noUnwrapE (v : Value) (xT : TypeId) (w : World) : (Instr.typeAssert (.iface 256 v) xT 231 true).run Tryz.prog w = .ok (.tuple #[.nilIface, .bool false]) w := run_typeAssert_lacksB Tryz.underlying231 (by kernel_rfl) (by kernel_rfl) v xT w
theorem noUnwrapsE (v : Value) (xT : TypeId) (w : World) : (Instr.typeAssert (.iface 256 v) xT 233 true).run Tryz.prog w = .ok (.tuple #[.nilIface, .bool false]) w := run_typeAssert_lacksB Tryz.underlying233 (by kernel_rfl) (by kernel_rfl) v xT w

/-- errors.Is(x, x), x a pointer to an errors.errorString. -/
theorem is_same (a : Addr) (w : World) :
    Calls Tryz.prog 184 #[.iface 256 (.pointer (some a)), .iface 256 (.pointer (some a))] w fun e w' => e = .returned (.bool true) ∧ w' = w := by
  obtain ⟨i, hi, hcmp⟩ := Option.map_eq_some_iff.1 isComp
  obtain ⟨j, hj, hjs⟩ := Option.map_eq_some_iff.1 isSize
  have h8 := @run_callFunc_extern Tryz.prog 166 _ Extern.ReflectliteType.typeOf Tryz.func166 (by kernel_rfl) (by kernel_rfl) (by kernel_rfl) (by kernel_rfl)
  have h32 := @run_callFunc_extern Tryz.prog 212 _ cmpFn Tryz.func212 (by kernel_rfl) (by kernel_rfl) (by kernel_rfl) (by kernel_rfl)
  have tT := isTypeOf
  have cT := isComparable
  have mR := isMethodComparable
  have heq := run_eql_iface_ptr_same (P := Tryz.prog) w a Tryz.underlying145 Tryz.underlying256 hi hcmp hj
  go_enter Tryz.func184, Tryz.ntmps184
  go_wp2
  refine wp_loop_rounds 1 ?_
  rw [rounds_succ]
  go_wp2
  go_ret
  exact ⟨rfl, rfl⟩

/-- errors.Is(x, y), two different pointers to errors.errorString: neither has Is nor Unwrap: false. -/
theorem is_other (a b : Addr) (ca cb : Array Value) (ta tb : TypeId) (w : World) (hne : a ≠ b) (ha : w.heap[a.block]? = some (.cells ca ta (0, 0))) (hb : w.heap[b.block]? = some (.cells cb tb (0, 0))) :
    Calls Tryz.prog 184 #[.iface 256 (.pointer (some a)), .iface 256 (.pointer (some b))] w fun e w' => e = .returned (.bool false) ∧ w' = w := by
  obtain ⟨i, hi, hcmp⟩ := Option.map_eq_some_iff.1 isComp
  obtain ⟨j, hj, hjs⟩ := Option.map_eq_some_iff.1 isSize
  have h8 := @run_callFunc_extern Tryz.prog 166 _ Extern.ReflectliteType.typeOf Tryz.func166 (by kernel_rfl) (by kernel_rfl) (by kernel_rfl) (by kernel_rfl)
  have h32 := @run_callFunc_extern Tryz.prog 212 _ cmpFn Tryz.func212 (by kernel_rfl) (by kernel_rfl) (by kernel_rfl) (by kernel_rfl)
  have tT := isTypeOf
  have cT := isComparable
  have mR := isMethodComparable
  have nE := noIsE
  have uE := noUnwrapE
  have vE := noUnwrapsE
  have heq := run_eql_iface_ptr_other (P := Tryz.prog) w Tryz.underlying145 Tryz.underlying256 hi hcmp hj (by rw [hjs]; decide) hne ha hb
  go_enter Tryz.func184, Tryz.ntmps184
  go_wp2
  refine wp_loop_rounds 1 ?_
  rw [rounds_succ]
  go_wp2
  go_ret
  exact ⟨rfl, rfl⟩
end Go.Proofs.YtnmdnglbpkpfdaaGreatDoor

/- ahead, number, above and bounded by their contracts. -/
namespace Go.Proofs.YtnmdnglbpkpfdaaGreatDoor
open Go.RowKit
set_option maxRecDepth 100000
/-- What the reader gives up with. -/
abbrev gaveUp (a : Addr) : Ending := .panicked [{ v := .iface 256 (.pointer (some a)), recovered := false }]

set_option maxHeartbeats 400000 in
theorem ahead_ok (rb g n cap pl k : Nat) (code : Int) (bs : List Int) (w : World) (hR : Rdr w rb g n cap pl code bs) (hk : pl + k ≤ n) (hk0 : 0 < k) (hn : cap ≤ 200000000000000) :
    Calls Tryz.prog 182 #[.pointer (some ⟨rb, 0, none⟩), .int .u64 k] w fun e w' => e = .returned (.slice (some ⟨g, pl, none⟩) k (cap - pl)) ∧ ∃ m, w' = w.drewN m := by
  have c0 := hR.c0
  have c1 := hR.c1
  have hnc := hR.lies.hle
  have h1 : (pl : Int) + k ≤ n := by omega
  have h2 : (n : Int) ≤ cap := by omega
  have h3 : (cap : Int) ≤ 200000000000000 := by omega
  have h4 : ¬ cap = pl := by omega
  clear hR
  go_enter Tryz.func182, Tryz.ntmps182
  go_wp2
  go_quiet (fail)
  go_wp2
  go_ret
  exact ⟨rfl, _, rfl⟩

set_option maxHeartbeats 400000 in
theorem ahead_short (rb g n cap pl k : Nat) (code : Int) (bs : List Int) (er : Nat → Addr) (w : World) (hR : Rdr w rb g n cap pl code bs) (hE : Errs w er) (hp : pl ≤ n) (hk : n < pl + k) (hkb : k ≤ 4611686018427387904) (hn : cap ≤ 200000000000000) :
    Calls Tryz.prog 182 #[.pointer (some ⟨rb, 0, none⟩), .int .u64 k] w fun e w' => e = gaveUp (er 4) ∧ ∃ m, w' = w.drewN m := by
  have c0 := hR.c0
  have c1 := hR.c1
  have e4 := hE.c4
  have hnc := hR.lies.hle
  have h1 : (n : Int) < (pl : Int) + k := by omega
  have h2 : (n : Int) ≤ cap := by omega
  have h3 : (cap : Int) ≤ 200000000000000 := by omega
  have h5 : (pl : Int) ≤ n := by omega
  have h6 : n - pl < k := by omega
  clear hR hE
  by_cases h4 : cap = pl
  · obtain rfl : n = pl := by omega
    subst h4
    go_enter Tryz.func182, Tryz.ntmps182
    go_wp2
    go_quiet (fail)
    go_wp2
    exact ⟨rfl, rfl, _, rfl⟩
  · go_enter Tryz.func182, Tryz.ntmps182
    go_wp2
    go_quiet (fail)
    go_wp2
    exact ⟨rfl, rfl, _, rfl⟩

/-- The number that bytes are, the greatest digit first. -/
def val (l : List Int) : Int := l.foldl (fun x c => x * 256 + c) 0
theorem val_snoc (l : List Int) (c : Int) : val (l ++ [c]) = val l * 256 + c := by simp [val]

theorem val_bd (l : List Int) (h : ∀ x ∈ l, 0 ≤ x ∧ x ≤ 255) : 0 ≤ val l ∧ val l < 256 ^ l.length := by
  suffices H : ∀ (l : List Int) (a : Int) (k : Nat), (∀ x ∈ l, 0 ≤ x ∧ x ≤ 255) → 0 ≤ a → a < 256 ^ k → 0 ≤ l.foldl (fun x c => x * 256 + c) a ∧ l.foldl (fun x c => x * 256 + c) a < 256 ^ (k + l.length) by
    have := H l 0 0 h (by omega) (by omega)
    simpa [val] using this
  intro l
  induction l with
  | nil => intro a k _ h0 h1; exact ⟨h0, h1⟩
  | cons c l ih =>
    intro a k hl h0 h1
    have hc := hl c (by simp)
    have := ih (a * 256 + c) (k + 1) (fun x hx => hl x (by simp [hx])) (by omega) (by rw [Int.pow_succ]; omega)
    simp only [List.foldl_cons, List.length_cons]
    rw [show k + (l.length + 1) = k + 1 + l.length by omega]
    exact this

theorem Rdr.byte {w : World} {rb g n cap : Nat} {pl code : Int} {bs : List Int} (h : Rdr w rb g n cap pl code bs) (t : Nat) (ht : t < n) : w.cell? ⟨g, t, none⟩ = some (.int .u8 (bs.getD t 0)) := by
  obtain ⟨b, o, he, hc⟩ := h.lies.at (by omega)
  cases he
  simpa using hc t ht

theorem or_byte (V C : Int) (h1 : 0 ≤ V) (h2 : V < 72057594037927936) (h3 : 0 ≤ C) (h4 : C ≤ 255) : bits .or .u64 (V * 256) C = V * 256 + C := by
  rw [u64_or (V * 256) C (by omega) (by omega) h3 (by omega)]
  obtain ⟨v, rfl⟩ := Int.eq_ofNat_of_zero_le h1
  obtain ⟨c, rfl⟩ := Int.eq_ofNat_of_zero_le h3
  have e : v <<< 8 + c = v <<< 8 ||| c := Nat.shiftLeft_add_eq_or_of_lt (by omega) v
  rw [Nat.shiftLeft_eq] at e
  have e1 : ((v : Int) * 256).toNat = v * 2 ^ 8 := by omega
  have e2 : ((c : Int)).toNat = c := by omega
  rw [e1, e2, ← e]
  omega

set_option maxHeartbeats 400000 in
theorem number_ok (rb g n cap pl k : Nat) (code : Int) (bs : List Int) (w : World) (hR : Rdr w rb g n cap pl code bs) (hk : pl + k ≤ n) (hk0 : 0 < k) (hk8 : k ≤ 8) (hn : cap ≤ 200000000000000) (hby : ∀ x ∈ bs, 0 ≤ x ∧ x ≤ 255) :
    Calls Tryz.prog 174 #[.pointer (some ⟨rb, 0, none⟩), .int .u64 k] w fun e w' => e = .returned (.int .u64 (val ((bs.drop pl).take k))) ∧ ∃ m, w' = w.drewN m := by
  have hki : (k : Int) ≤ 8 := by omega
  have hnc := hR.lies.hle
  go_enter Tryz.func174, Tryz.ntmps174
  go_wp2_with (go_at_call 182; refine (ahead_ok rb g n cap pl k code bs _ hR hk hk0 hn).mono ?_; rintro e w1 ⟨rfl, m0, hw1⟩; subst w1)
  go_loop [5, 12] (fun x i => ∃ j : Nat, j ≤ k ∧ i = .int .i64 j ∧ x = .int .u64 (val ((bs.drop pl).take j))) (fun _ i => k - (intOf i).toNat)
  case atStart => exact ⟨0, Nat.zero_le _, rfl, rfl⟩
  case round =>
    obtain ⟨j, hj, rfl, rfl⟩ := hrel
    have hl : ((bs.drop pl).take j).length = j := by simp [hR.lies.hlen]; omega
    by_cases hlt : j < k
    · have hb := val_bd ((bs.drop pl).take j) (fun x hx => hby x (List.mem_of_mem_drop (List.mem_of_mem_take hx)))
      rw [hl] at hb
      have hb2 : (256 : Int) ^ j ≤ 256 ^ 7 := by
        have := Nat.pow_le_pow_right (show 0 < 256 by decide) (show j ≤ 7 by omega)
        exact_mod_cast this
      have hc := hR.byte (pl + j) (by omega)
      have hmem : bs.getD (pl + j) 0 ∈ bs := by
        have : pl + j < bs.length := by rw [hR.lies.hlen]; omega
        simp [List.getD, this]
      have hcb := hby _ hmem
      have hstep : (bs.drop pl).take (j + 1) = (bs.drop pl).take j ++ [bs.getD (pl + j) 0] := by
        have : pl + j < bs.length := by rw [hR.lies.hlen]; omega
        rw [List.take_succ_eq_append_getElem (by simp; omega)]
        simp [List.getD, this]
      have HS : Hid (val ((bs.drop pl).take (j + 1)) = val ((bs.drop pl).take j) * 256 + bs.getD (pl + j) 0) := by rw [hstep]; exact val_snoc _ _
      clear hstep hmem
      generalize hV : val ((bs.drop pl).take j) = V at *
      generalize hC : bs.getD (pl + j) 0 = C at *
      have hV0 : 0 ≤ V := hb.1
      have hV1 : V < 72057594037927936 := by have : (256 : Int) ^ 7 = 72057594037927936 := by decide
                                             omega
      have hC0 := hcb.1
      have hC1 := hcb.2
      clear hV hC hb hb2 hcb hR hby hl
      go_wp2
      go_round
      case rel => exact ⟨j + 1, by omega, by go_num, by rw [HS.out, or_byte V C hV0 hV1 hC0 hC1]⟩
      case measure => simp [intOf]; omega
    · have hjk : (k : Int) ≤ j := by omega
      obtain ⟨V, hV⟩ : ∃ V, V = val ((bs.drop pl).take j) := ⟨_, rfl⟩
      have HV : Hid (V = val ((bs.drop pl).take k)) := by obtain rfl : j = k := by omega
                                                          exact hV
      rw [← hV]
      clear hV hR hby hl
      go_wp2
      go_ret
      exact ⟨by rw [← HV.out]; rfl, m0, rfl⟩

set_option maxHeartbeats 400000 in
theorem number_short (rb g n cap pl k : Nat) (code : Int) (bs : List Int) (er : Nat → Addr) (w : World) (hR : Rdr w rb g n cap pl code bs) (hE : Errs w er) (hp : pl ≤ n) (hk : n < pl + k) (hkb : k ≤ 4611686018427387904) (hn : cap ≤ 200000000000000) :
    Calls Tryz.prog 174 #[.pointer (some ⟨rb, 0, none⟩), .int .u64 k] w fun e w' => e = gaveUp (er 4) ∧ ∃ m, w' = w.drewN m := by
  go_enter Tryz.func174, Tryz.ntmps174
  go_wp2_with (go_at_call 182; refine (ahead_short rb g n cap pl k code bs er _ hR hE hp hk hkb hn).mono ?_; rintro e w1 ⟨rfl, m0, hw1⟩; subst w1)
  exact ⟨rfl, rfl, m0, rfl⟩

set_option maxHeartbeats 400000 in
theorem above_neg (X M : Int) (w : World) (hM : M < 0) :
    Calls Tryz.prog 181 #[.int .u64 X, .int .i64 M] w fun e w' => e = .returned (.bool true) ∧ w' = w := by
  go_enter Tryz.func181, Tryz.ntmps181
  go_wp2
  go_ret
  exact ⟨rfl, rfl⟩

set_option maxHeartbeats 400000 in
theorem above_yes (X M : Int) (w : World) (hM : 0 ≤ M) (hM1 : M ≤ 9223372036854775807) (h : M < X) :
    Calls Tryz.prog 181 #[.int .u64 X, .int .i64 M] w fun e w' => e = .returned (.bool true) ∧ w' = w := by
  go_enter Tryz.func181, Tryz.ntmps181
  go_wp2
  go_ret
  exact ⟨rfl, rfl⟩

set_option maxHeartbeats 400000 in
theorem above_no (X M : Int) (w : World) (hM : 0 ≤ M) (hM1 : M ≤ 9223372036854775807) (h : X ≤ M) :
    Calls Tryz.prog 181 #[.int .u64 X, .int .i64 M] w fun e w' => e = .returned (.bool false) ∧ w' = w := by
  go_enter Tryz.func181, Tryz.ntmps181
  go_wp2
  go_ret
  refine ⟨?_, rfl⟩
  show Ending.returned (.bool (decide (M < 0) || decide (M < X))) = _
  rw [decide_eq_false (by omega), decide_eq_false (by omega)]; rfl
end Go.Proofs.YtnmdnglbpkpfdaaGreatDoor

/- bounded by its contracts. -/
namespace Go.Proofs.YtnmdnglbpkpfdaaGreatDoor
open Go.RowKit
set_option maxRecDepth 100000
set_option maxHeartbeats 400000 in
theorem bounded_short (rb g n cap pl k : Nat) (M code : Int) (bs : List Int) (er : Nat → Addr) (w : World) (hR : Rdr w rb g n cap pl code bs) (hE : Errs w er) (hp : pl ≤ n) (hk : n < pl + k) (hk8 : k ≤ 8) (hn : cap ≤ 200000000000000) :
    Calls Tryz.prog 171 #[.pointer (some ⟨rb, 0, none⟩), .int .i64 k, .int .i64 M] w fun e w' => e = gaveUp (er 4) ∧ ∃ m, w' = w.drewN m := by
  have hki : (k : Int) ≤ 8 := by omega
  go_enter Tryz.func171, Tryz.ntmps171
  go_wp2_with (go_at_call 174; refine (number_short rb g n cap pl k code bs er _ hR hE hp hk (by omega) hn).mono ?_; rintro e w1 ⟨rfl, m0, hw1⟩; subst w1)
  exact ⟨rfl, rfl, m0, rfl⟩

set_option maxHeartbeats 400000 in
theorem bounded_wide (rb g n cap pl k : Nat) (M code : Int) (bs : List Int) (er : Nat → Addr) (w : World) (hR : Rdr w rb g n cap pl code bs) (hE : Errs w er) (hk : pl + k ≤ n) (hk0 : 0 < k) (hk8 : k ≤ 8) (hn : cap ≤ 200000000000000) (hby : ∀ x ∈ bs, 0 ≤ x ∧ x ≤ 255)
    (hM1 : M ≤ 9223372036854775807) (hw : M < 0 ∨ M < val ((bs.drop pl).take k)) :
    Calls Tryz.prog 171 #[.pointer (some ⟨rb, 0, none⟩), .int .i64 k, .int .i64 M] w fun e w' => e = gaveUp (er 1) ∧ ∃ m, w' = w.drewN m := by
  have hki : (k : Int) ≤ 8 := by omega
  have e1 := hE.c1
  have HA : ∀ w : World, Calls Tryz.prog 181 #[.int .u64 (val ((bs.drop pl).take k)), .int .i64 M] w fun e w' => e = .returned (.bool true) ∧ w' = w := by
    intro w
    rcases Int.lt_or_le M 0 with h | h
    · exact above_neg _ M w h
    · exact above_yes _ M w h hM1 (by omega)
  go_enter Tryz.func171, Tryz.ntmps171
  go_wp2_with (first
    | (go_at_call 174; refine (number_ok rb g n cap pl k code bs _ hR hk hk0 hk8 hn hby).mono ?_; rintro e w1 ⟨rfl, m0, hw1⟩; subst w1)
    | (go_at_call 181; refine (HA _).mono ?_; rintro e w2 ⟨rfl, hw2⟩; subst w2))
  exact ⟨rfl, rfl, m0, rfl⟩

set_option maxHeartbeats 400000 in
theorem bounded_ok (rb g n cap pl k : Nat) (M code : Int) (bs : List Int) (w : World) (hR : Rdr w rb g n cap pl code bs) (hk : pl + k ≤ n) (hk0 : 0 < k) (hk8 : k ≤ 8) (hn : cap ≤ 200000000000000) (hby : ∀ x ∈ bs, 0 ≤ x ∧ x ≤ 255)
    (hM1 : M ≤ 9223372036854775807) (hM0 : 0 ≤ M) (hv : val ((bs.drop pl).take k) ≤ M) :
    Calls Tryz.prog 171 #[.pointer (some ⟨rb, 0, none⟩), .int .i64 k, .int .i64 M] w fun e w' => e = .returned (.int .i64 (val ((bs.drop pl).take k))) ∧ ∃ m, w' = (w.drewN m).setCell ⟨rb, 1, none⟩ (.int .i64 ((pl + k : Nat) : Int)) := by
  have hki : (k : Int) ≤ 8 := by omega
  have hnc := hR.lies.hle
  have hpi : (pl : Int) ≤ 200000000000000 := by omega
  have c1 := hR.c1
  have f1 := hR.f 1
  have hv0 := (val_bd ((bs.drop pl).take k) (fun x hx => hby x (List.mem_of_mem_drop (List.mem_of_mem_take hx)))).1
  have hN := number_ok rb g n cap pl k code bs w hR hk hk0 hk8 hn hby
  generalize hV : val ((bs.drop pl).take k) = V at *
  clear hV hR hby
  go_enter Tryz.func171, Tryz.ntmps171
  go_wp2_with (first
    | (go_at_call 174; refine hN.mono ?_; rintro e w1 ⟨rfl, m0, hw1⟩; subst w1)
    | (go_at_call 181; refine (above_no V M _ hM0 hM1 hv).mono ?_; rintro e w2 ⟨rfl, hw2⟩; subst w2))
  go_ret
  exact ⟨rfl, m0, by simp⟩
end Go.Proofs.YtnmdnglbpkpfdaaGreatDoor

/- codeOf and keep by their contracts: which number each of the package's errors is kept as. -/
namespace Go.Proofs.YtnmdnglbpkpfdaaGreatDoor
open Go.RowKit Go.Extern.Stop Go.Stop Go.Extern
set_option maxRecDepth 100000
/-- The number that the error of variable i is kept as. -/
def codeNo : Nat → Int
  | 4 => 11 | 1 => 12 | 0 => 13 | 2 => 14 | _ => 15

/-- errors.Is of two of the package's errors. -/
theorem is_errs (er : Nat → Addr) (i j : Nat) (w : World) (hE : Errs w er) (hi : i < 5) (hj : j < 5) :
    Calls Tryz.prog 184 #[.iface 256 (.pointer (some (er i))), .iface 256 (.pointer (some (er j)))] w fun e w' => e = .returned (.bool (i == j)) ∧ w' = w := by
  by_cases h : i = j
  · subst h
    refine (is_same (er i) w).mono ?_
    rintro e w' ⟨rfl, rfl⟩
    simp
  · obtain ⟨c1, t1, r1⟩ := hE.row i hi
    obtain ⟨c2, t2, r2⟩ := hE.row j hj
    refine (is_other (er i) (er j) c1 c2 t1 t2 w (hE.ne i j hi hj h) r1 r2).mono ?_
    rintro e w' ⟨rfl, rfl⟩
    simp [h]

set_option maxHeartbeats 400000 in
theorem codeOf_0 (er : Nat → Addr) (w : World) (hE : Errs w er) :
    Calls Tryz.prog 180 #[.iface 256 (.pointer (some (er 0)))] w fun e w' => e = .returned (.int .i64 (codeNo 0)) ∧ w' = w := by
  have e4 := hE.c4
  have e1 := hE.c1
  have e0 := hE.c0
  go_enter Tryz.func180, Tryz.ntmps180
  go_wp2_with (go_at_call 184; refine (is_errs er _ _ _ hE (by decide) (by decide)).mono ?_; rintro e w1 ⟨he, hw1⟩; simp at he; subst he; subst w1)
  go_ret
  exact ⟨rfl, rfl⟩

set_option maxHeartbeats 400000 in
theorem codeOf_1 (er : Nat → Addr) (w : World) (hE : Errs w er) :
    Calls Tryz.prog 180 #[.iface 256 (.pointer (some (er 1)))] w fun e w' => e = .returned (.int .i64 (codeNo 1)) ∧ w' = w := by
  have e4 := hE.c4
  have e1 := hE.c1
  go_enter Tryz.func180, Tryz.ntmps180
  go_wp2_with (go_at_call 184; refine (is_errs er _ _ _ hE (by decide) (by decide)).mono ?_; rintro e w1 ⟨he, hw1⟩; simp at he; subst he; subst w1)
  go_ret
  exact ⟨rfl, rfl⟩

set_option maxHeartbeats 400000 in
theorem codeOf_2 (er : Nat → Addr) (w : World) (hE : Errs w er) :
    Calls Tryz.prog 180 #[.iface 256 (.pointer (some (er 2)))] w fun e w' => e = .returned (.int .i64 (codeNo 2)) ∧ w' = w := by
  have e4 := hE.c4
  have e1 := hE.c1
  have e0 := hE.c0
  have e2 := hE.c2
  go_enter Tryz.func180, Tryz.ntmps180
  go_wp2_with (go_at_call 184; refine (is_errs er _ _ _ hE (by decide) (by decide)).mono ?_; rintro e w1 ⟨he, hw1⟩; simp at he; subst he; subst w1)
  go_ret
  exact ⟨rfl, rfl⟩

set_option maxHeartbeats 400000 in
theorem codeOf_3 (er : Nat → Addr) (w : World) (hE : Errs w er) :
    Calls Tryz.prog 180 #[.iface 256 (.pointer (some (er 3)))] w fun e w' => e = .returned (.int .i64 (codeNo 3)) ∧ w' = w := by
  have e4 := hE.c4
  have e1 := hE.c1
  have e0 := hE.c0
  have e2 := hE.c2
  have e3 := hE.c3
  go_enter Tryz.func180, Tryz.ntmps180
  go_wp2_with (go_at_call 184; refine (is_errs er _ _ _ hE (by decide) (by decide)).mono ?_; rintro e w1 ⟨he, hw1⟩; simp at he; subst he; subst w1)
  go_ret
  exact ⟨rfl, rfl⟩

set_option maxHeartbeats 400000 in
theorem codeOf_4 (er : Nat → Addr) (w : World) (hE : Errs w er) :
    Calls Tryz.prog 180 #[.iface 256 (.pointer (some (er 4)))] w fun e w' => e = .returned (.int .i64 (codeNo 4)) ∧ w' = w := by
  have e4 := hE.c4
  go_enter Tryz.func180, Tryz.ntmps180
  go_wp2_with (go_at_call 184; refine (is_errs er _ _ _ hE (by decide) (by decide)).mono ?_; rintro e w1 ⟨he, hw1⟩; simp at he; subst he; subst w1)
  go_ret
  exact ⟨rfl, rfl⟩

theorem codeOf_any (i : Nat) (hi : i < 5) (er : Nat → Addr) (w : World) (hE : Errs w er) :
    Calls Tryz.prog 180 #[.iface 256 (.pointer (some (er i)))] w fun e w' => e = .returned (.int .i64 (codeNo i)) ∧ w' = w := by
  match i, hi with
  | 0, _ => exact codeOf_0 er w hE
  | 1, _ => exact codeOf_1 er w hE
  | 2, _ => exact codeOf_2 er w hE
  | 3, _ => exact codeOf_3 er w hE
  | 4, _ => exact codeOf_4 er w hE

theorem codeNo_ne (i : Nat) : (codeNo i != 0) = true := by
  unfold codeNo; split <;> rfl
theorem asErr (v : Value) (xT : TypeId) (w : World) : (Instr.typeAssert (.iface 256 v) xT 145 true).run Tryz.prog w = .ok (.tuple #[.iface 256 v, .bool true]) w := run_typeAssert_hasB Tryz.underlying145 (by kernel_rfl) v xT w

set_option maxHeartbeats 400000 in
theorem keep_nil (p : Value) (w : World) :
    Calls Tryz.prog 170 #[p, .nilIface] w fun e w' => e = .returned (.tuple #[]) ∧ w' = w := by
  have hnil : ∀ w : World, (binOp BinOp.eql 20 .nilIface .nilIface).run Tryz.prog w = .ok (.bool true) w := fun _ => by kernel_rfl
  go_enter Tryz.func170, Tryz.ntmps170
  go_wp2
  first | go_end0 | refine bodyPost_ret (results_none rfl _ _ _) rfl ?_
  exact ⟨rfl, rfl⟩

set_option maxHeartbeats 400000 in
theorem keep_err (i : Nat) (hi : i < 5) (rb g n cap : Nat) (pl code : Int) (bs : List Int) (er : Nat → Addr) (w : World) (hR : Rdr w rb g n cap pl code bs) (hE : Errs w er) :
    Calls Tryz.prog 170 #[.pointer (some ⟨rb, 0, none⟩), .iface 256 (.pointer (some (er i)))] w fun e w' => e = .returned (.tuple #[]) ∧ w' = w.setCell ⟨rb, 2, none⟩ (.int .i64 (codeNo i)) := by
  have c2 := hR.c2
  have f2 := hR.f 2
  have hne := codeNo_ne i
  have hA := asErr
  have hnil : ∀ (v : Value) (w : World), (binOp BinOp.eql 20 (.iface 256 v) .nilIface).run Tryz.prog w = .ok (.bool false) w := fun _ _ => by kernel_rfl
  go_enter Tryz.func170, Tryz.ntmps170
  go_wp2_with (go_at_call 180; refine (codeOf_any i hi er _ hE).mono ?_; rintro e w1 ⟨rfl, hw1⟩; subst w1)
  first | go_end0 | refine bodyPost_ret (results_none rfl _ _ _) rfl ?_
  exact ⟨rfl, rfl⟩
end Go.Proofs.YtnmdnglbpkpfdaaGreatDoor

/- A law of no program: a region that draws its order inside a deferred function that recovers: walked in each order that may be drawn. -/
namespace Go.Proofs.YtnmdnglbpkpfdaaGreatDoor
open Go.RowKit
/-- All orders that a region may draw. -/
def regOrders (md : Region.Mode) (ops : Array Oper) : Nat → Array Bool → List (List Nat)
  | 0, _ => [[]]
  | f + 1, listed =>
    match Region.ready md ops listed with
    | [] => [[]]
    | r :: rs => (r :: rs).flatMap fun i => (regOrders md ops f (listed.setIfInBounds i true)).map (i :: ·)

theorem reg_mem (md : Region.Mode) (ops : Array Oper) : ∀ (f t : Nat) (listed : Array Bool), Region.linearise.go md ops f t listed [] ∈ regOrders md ops f listed := by
  intro f
  induction f with
  | zero => intro t listed; simp [Region.linearise.go, regOrders]
  | succ f ih =>
    intro t listed
    simp only [Region.linearise.go]
    change (match (Region.ready md ops listed)[t % (Region.ready md ops listed).length]? with
      | some i => Region.linearise.go md ops f (t / (Region.ready md ops listed).length) (listed.setIfInBounds i true) [i]
      | none => [].reverse) ∈ _
    simp only [regOrders]
    cases hr : Region.ready md ops listed with
    | nil => simp
    | cons r rs =>
      have hlt : t % (r :: rs).length < (r :: rs).length := Nat.mod_lt _ (by simp)
      rw [List.getElem?_eq_getElem hlt]
      simp only []
      rw [linearise_go_acc]
      simp only [List.reverse_singleton, List.singleton_append]
      refine List.mem_flatMap.2 ⟨_, List.getElem_mem hlt, List.mem_map.2 ⟨_, ih _ _, rfl⟩⟩

theorem wpS_region_draw {P : Program} {Q : Exit → Act → List Frame → World → Prop} {a : Act} {cs : List Frame} {w : World} {id : Nat} {ops : Array Oper} (L : List (List Nat)) (hm : P.follows .mixedOrders = true) (hL : regOrders .any ops ops.size (Array.replicate ops.size false) = L)
    (h : ∀ l ∈ L, wpOpsS P ops Q l a cs w.drew) : (Code.region id ops true).wpS P Q a cs w := by
  subst hL
  intro b k hb hr
  have h' : ∀ t, wpOpsS P ops Q (Region.schedule (P.follows .mixedOrders) ops t) a cs { w with drawn := w.drawn + 1 } := fun t => by
    simp only [Region.schedule, hm, Bool.true_or, if_true]
    exact h _ (reg_mem _ _ _ _ _)
  obtain ⟨e, a', cs', w', q, r⟩ := wp_opsS _ a cs _ (h' _) b k hb hr
  exact ⟨e, a', cs', w', q, .of_steps (.one step_region_draw) r⟩
end Go.Proofs.YtnmdnglbpkpfdaaGreatDoor

/- The deferred functions of the reading calls by their contracts. -/
namespace Go.Proofs.YtnmdnglbpkpfdaaGreatDoor
open Go.RowKit
set_option maxRecDepth 100000
theorem Rdr.drew {w : World} {rb g n cap : Nat} {pl code : Int} {bs : List Int} (h : Rdr w rb g n cap pl code bs) : Rdr w.drew rb g n cap pl code bs := h.drewN 1
theorem Errs.drew {w : World} {er : Nat → Addr} (h : Errs w er) : Errs w.drew er := h.drewN 1

set_option maxHeartbeats 400000 in
theorem catch39_idle (p : Addr) (rb : Nat) (w : World) (hc : w.cell? p = some (.pointer (some ⟨rb, 0, none⟩))) :
    CallsD Tryz.prog 172 #[.pointer (some p)] .returning w fun e u' w' => e = .returned (.tuple #[]) ∧ u' = .returning ∧ w' = w.drew := by
  refine callsD_of_wpS Tryz.func172 rfl fun c₀ cs hu => ?_
  refine wpS_region_draw [[0, 1, 2], [1, 0, 2]] (by kernel_rfl) (by kernel_rfl) ?_
  intro l hl
  simp only [List.mem_cons, List.not_mem_nil, or_false] at hl
  rcases hl with rfl | rfl
  all_goals
    simp [wpOpsS, go_sem, recoverD, hu, hc, Tryz.ntmps172]
    refine (keep_nil _ _).mono ?_
    rintro e w' ⟨rfl, rfl⟩
    cases c₀
    simp_all [bodyPostS, results, Tryz.results172]

set_option maxHeartbeats 400000 in
theorem catch39_err (i : Nat) (hi : i < 5) (p : Addr) (rb g n cap : Nat) (pl code : Int) (bs : List Int) (er : Nat → Addr) (older : List PanicEntry) (w : World) (hc : w.cell? p = some (.pointer (some ⟨rb, 0, none⟩))) (hR : Rdr w rb g n cap pl code bs) (hE : Errs w er) :
    CallsD Tryz.prog 172 #[.pointer (some p)] (.panicking ({ v := .iface 256 (.pointer (some (er i))), recovered := false } :: older)) w fun e u' w' =>
      e = .returned (.tuple #[]) ∧ u' = .panicking ({ v := .iface 256 (.pointer (some (er i))), recovered := true } :: older) ∧ w' = (w.setCell ⟨rb, 2, none⟩ (.int .i64 (codeNo i))).drew := by
  refine callsD_of_wpS Tryz.func172 rfl fun c₀ cs hu => ?_
  refine wpS_region_draw [[0, 1, 2], [1, 0, 2]] (by kernel_rfl) (by kernel_rfl) ?_
  intro l hl
  simp only [List.mem_cons, List.not_mem_nil, or_false] at hl
  rcases hl with rfl | rfl
  all_goals
    simp [wpOpsS, go_sem, recoverD, hu, hc, Tryz.ntmps172]
    refine (keep_err i hi rb g n cap pl code bs er _ hR.drew hE.drew).mono ?_
    rintro e w' ⟨rfl, rfl⟩
    cases c₀
    simp_all [bodyPostS, results, Tryz.results172, World.setCell_drew]

set_option maxHeartbeats 400000 in
theorem catch42_idle (p : Addr) (rb : Nat) (w : World) (hc : w.cell? p = some (.pointer (some ⟨rb, 0, none⟩))) :
    CallsD Tryz.prog 169 #[.pointer (some p)] .returning w fun e u' w' => e = .returned (.tuple #[]) ∧ u' = .returning ∧ w' = w.drew := by
  refine callsD_of_wpS Tryz.func169 rfl fun c₀ cs hu => ?_
  refine wpS_region_draw [[0, 1, 2], [1, 0, 2]] (by kernel_rfl) (by kernel_rfl) ?_
  intro l hl
  simp only [List.mem_cons, List.not_mem_nil, or_false] at hl
  rcases hl with rfl | rfl
  all_goals
    simp [wpOpsS, go_sem, recoverD, hu, hc, Tryz.ntmps169]
    refine (keep_nil _ _).mono ?_
    rintro e w' ⟨rfl, rfl⟩
    cases c₀
    simp_all [bodyPostS, results, Tryz.results169]

set_option maxHeartbeats 400000 in
theorem catch42_err (i : Nat) (hi : i < 5) (p : Addr) (rb g n cap : Nat) (pl code : Int) (bs : List Int) (er : Nat → Addr) (older : List PanicEntry) (w : World) (hc : w.cell? p = some (.pointer (some ⟨rb, 0, none⟩))) (hR : Rdr w rb g n cap pl code bs) (hE : Errs w er) :
    CallsD Tryz.prog 169 #[.pointer (some p)] (.panicking ({ v := .iface 256 (.pointer (some (er i))), recovered := false } :: older)) w fun e u' w' =>
      e = .returned (.tuple #[]) ∧ u' = .panicking ({ v := .iface 256 (.pointer (some (er i))), recovered := true } :: older) ∧ w' = (w.setCell ⟨rb, 2, none⟩ (.int .i64 (codeNo i))).drew := by
  refine callsD_of_wpS Tryz.func169 rfl fun c₀ cs hu => ?_
  refine wpS_region_draw [[0, 1, 2], [1, 0, 2]] (by kernel_rfl) (by kernel_rfl) ?_
  intro l hl
  simp only [List.mem_cons, List.not_mem_nil, or_false] at hl
  rcases hl with rfl | rfl
  all_goals
    simp [wpOpsS, go_sem, recoverD, hu, hc, Tryz.ntmps169]
    refine (keep_err i hi rb g n cap pl code bs er _ hR.drew hE.drew).mono ?_
    rintro e w' ⟨rfl, rfl⟩
    cases c₀
    simp_all [bodyPostS, results, Tryz.results169, World.setCell_drew]

set_option maxHeartbeats 400000 in
theorem catch43_idle (p : Addr) (rb : Nat) (w : World) (hc : w.cell? p = some (.pointer (some ⟨rb, 0, none⟩))) :
    CallsD Tryz.prog 173 #[.pointer (some p)] .returning w fun e u' w' => e = .returned (.tuple #[]) ∧ u' = .returning ∧ w' = w.drew := by
  refine callsD_of_wpS Tryz.func173 rfl fun c₀ cs hu => ?_
  refine wpS_region_draw [[0, 1, 2], [1, 0, 2]] (by kernel_rfl) (by kernel_rfl) ?_
  intro l hl
  simp only [List.mem_cons, List.not_mem_nil, or_false] at hl
  rcases hl with rfl | rfl
  all_goals
    simp [wpOpsS, go_sem, recoverD, hu, hc, Tryz.ntmps173]
    refine (keep_nil _ _).mono ?_
    rintro e w' ⟨rfl, rfl⟩
    cases c₀
    simp_all [bodyPostS, results, Tryz.results173]

set_option maxHeartbeats 400000 in
theorem catch43_err (i : Nat) (hi : i < 5) (p : Addr) (rb g n cap : Nat) (pl code : Int) (bs : List Int) (er : Nat → Addr) (older : List PanicEntry) (w : World) (hc : w.cell? p = some (.pointer (some ⟨rb, 0, none⟩))) (hR : Rdr w rb g n cap pl code bs) (hE : Errs w er) :
    CallsD Tryz.prog 173 #[.pointer (some p)] (.panicking ({ v := .iface 256 (.pointer (some (er i))), recovered := false } :: older)) w fun e u' w' =>
      e = .returned (.tuple #[]) ∧ u' = .panicking ({ v := .iface 256 (.pointer (some (er i))), recovered := true } :: older) ∧ w' = (w.setCell ⟨rb, 2, none⟩ (.int .i64 (codeNo i))).drew := by
  refine callsD_of_wpS Tryz.func173 rfl fun c₀ cs hu => ?_
  refine wpS_region_draw [[0, 1, 2], [1, 0, 2]] (by kernel_rfl) (by kernel_rfl) ?_
  intro l hl
  simp only [List.mem_cons, List.not_mem_nil, or_false] at hl
  rcases hl with rfl | rfl
  all_goals
    simp [wpOpsS, go_sem, recoverD, hu, hc, Tryz.ntmps173]
    refine (keep_err i hi rb g n cap pl code bs er _ hR.drew hE.drew).mono ?_
    rintro e w' ⟨rfl, rfl⟩
    cases c₀
    simp_all [bodyPostS, results, Tryz.results173, World.setCell_drew]
end Go.Proofs.YtnmdnglbpkpfdaaGreatDoor
