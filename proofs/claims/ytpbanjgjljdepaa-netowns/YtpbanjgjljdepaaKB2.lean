/- holds, lately, roomy by their contracts. -/
import Derived.Test.YtpbanjgjljdepaaKB1
import Derived.BigQuiet
namespace Go.Proofs.Ytpbanjgjljdepaa
open Go.RowKit Go.Maps
set_option maxRecDepth 100000

/-- An entry of the book, cell by cell. -/
theorem Bk.at_ {w : World} {K : Nat → Prop} {ba : Option Addr} {E bc : Nat} {es : List Ke} (h : Bk w K (.slice ba E bc) es) (hE : es.length = E) {i : Nat} (hi : i < E) :
    ∃ g off e ao c, ba = some ⟨g, off, none⟩ ∧ es[i]? = some e ∧ e.v = .slice ao e.n c ∧ w.cell? ⟨g, off + i * 3, none⟩ = some (.slice ao e.n c) ∧ w.cell? ⟨g, off + i * 3 + 1, none⟩ = some (.int .u8 e.m) ∧ w.cell? ⟨g, off + i * 3 + 2, none⟩ = some (.int .i64 e.n) ∧ e.n ≤ 4000000 ∧ w.ownsRow 0 5 1 (.slice ao e.n c) e.n (mks e.m e.n) := by
  obtain ⟨e, he⟩ : ∃ e, es[i]? = some e := ⟨_, List.getElem?_eq_getElem (by omega)⟩
  obtain ⟨e1, e2, e3⟩ := kcs_at es i e he
  have hm := List.mem_of_getElem? he
  have hrow := h.row
  rw [hE] at hrow
  have hml := h.ml e hm
  obtain ⟨ao, c, hv⟩ := own_slice hml
  rw [hv] at hml e1
  obtain ⟨g, off, cap, q, _⟩ := tl_some hrow (by omega)
  cases q
  refine ⟨g, off, e, ao, c, rfl, he, hv, ?_, ?_, ?_, h.le e hm, hml⟩
  · rw [tl_cell hrow (i * 3) (by omega)]; exact e1
  · rw [Nat.add_assoc, tl_cell hrow (i * 3 + 1) (by omega)]; exact e2
  · rw [Nat.add_assoc, tl_cell hrow (i * 3 + 2) (by omega)]; exact e3

set_option maxHeartbeats 4000000 in
theorem holds_any {w : World} {K : Nat → Prop} {bv : Value} {es : List Ke} (h : Bk w K bv es) (hes : es.length ≤ 1000000000000) :
    Calls Try.prog 30 #[bv] w fun e w' => e = .returned (.bool true) ∧ ∃ t, w' = w.drewN t := by
  obtain ⟨ba, bc, hbv⟩ := tl_slice h.row
  obtain ⟨E, hE⟩ : ∃ E, es.length = E := ⟨_, rfl⟩
  rw [hE] at hbv hes
  have HE : Hid (es.length = E) := hE
  clear hE
  subst hbv
  have hEi : (E : Int) ≤ 1000000000000 := by omega
  go_enter Try.func30, Try.ntmps30
  go_wp2_with fail
  go_loopw [3] (fun i wr => ∃ j t : Nat, j ≤ E ∧ i = .int .i64 j ∧ wr = w.drewN t) (fun i _ => E - (intOf i).toNat)
  case atStart => exact ⟨0, 0, Nat.zero_le _, rfl, rfl⟩
  case round =>
    obtain ⟨j, t, hj, rfl, rfl⟩ := hrel
    by_cases hlt : j < E
    · obtain ⟨g, off, x, ao, c, rfl, _, _, x0, x1, x2, hxn, hxr⟩ := h.at_ HE.out hlt
      have hji : (j : Int) < E := by omega
      have y0 : (w.drewN t).cell? ⟨g, off + j * 3, none⟩ = some (.slice ao x.n c) := x0
      have y1 : (w.drewN t).cell? ⟨g, off + j * 3 + 1, none⟩ = some (.int .u8 x.m) := x1
      have y2 : (w.drewN t).cell? ⟨g, off + j * 3 + 2, none⟩ = some (.int .i64 x.n) := x2
      obtain ⟨N, hN⟩ : ∃ N, x.n = N := ⟨_, rfl⟩
      obtain ⟨M, hM⟩ : ∃ M, x.m = M := ⟨_, rfl⟩
      rw [hN] at x0 x2 y0 y2 hxn hxr
      rw [hM] at x1 y1 hxr
      clear hN hM
      have hNi : (N : Int) ≤ 4000000 := by omega
      go_wp2_with fail
      go_quiet (fail)
      go_wp2_with fail
      go_loopw [4] (fun i wr => ∃ a s : Nat, a ≤ N ∧ i = .int .i64 a ∧ wr = w.drewN s) (fun i _ => N - (intOf i).toNat)
      case atStart => exact ⟨0, _, Nat.zero_le _, rfl, by rw [World.drewN_drewN]⟩
      case round =>
        obtain ⟨a, s, ha, rfl, rfl⟩ := hrel
        have z0 : (w.drewN s).cell? ⟨g, off + j * 3, none⟩ = some (.slice ao N c) := x0
        have z1 : (w.drewN s).cell? ⟨g, off + j * 3 + 1, none⟩ = some (.int .u8 M) := x1
        have z2 : (w.drewN s).cell? ⟨g, off + j * 3 + 2, none⟩ = some (.int .i64 N) := x2
        by_cases hla : a < N
        · have hai : (a : Int) < N := by omega
          obtain ⟨gx, rfl⟩ : ∃ gx, ao = some ⟨gx, 0, none⟩ := by
            rcases hxr.2 with ⟨_, h0⟩ | ⟨gx, cap, cur, q, _⟩
            · omega
            · cases q; exact ⟨gx, rfl⟩
          have z3 : w.cell? ⟨gx, a, none⟩ = some (.int .u8 M) := by
            rw [hxr.cellAt a (by omega)]
            simp [mks, hla]
          go_wp2_with fail
          go_quiet (fail)
          go_wp2_with fail
          go_roundw
          case rel => exact ⟨a + 1, _, by omega, by go_num, rfl⟩
          case measure => simp [intOf]; omega
        · have hai : ¬ (a : Int) < N := by omega
          go_wp2_with fail
          go_roundw
          case rel => exact ⟨j + 1, _, by omega, by go_num, rfl⟩
          case measure => simp [intOf]; omega
    · have hji : ¬ (j : Int) < E := by omega
      go_wp2
      go_ret
      exact ⟨rfl, t, rfl⟩
theorem kcs_one {w : World} {K : Nat → Prop} {bv : Value} : ∀ {es : List Ke}, Bk w K bv es → ∀ u ∈ kcs es, u.oneCell' = true := fun {es} h => by
  have q : ∀ (fs : List Ke), (∀ e ∈ fs, e ∈ es) → ∀ u ∈ kcs fs, u.oneCell' = true := by
    intro fs
    induction fs with
    | nil => intro _ u hu; cases hu
    | cons e fs ih =>
      intro hs u hu
      obtain ⟨ao, c, hv⟩ := own_slice (h.ml e (hs e (by simp)))
      simp only [kcs, List.mem_cons] at hu
      rcases hu with rfl | rfl | rfl | hu
      · rw [hv]; rfl
      · rfl
      · rfl
      · exact ih (fun x hx => hs x (by simp [hx])) u hu
  exact q es (fun _ h => h)
theorem Bk.cut {w w' : World} {K : Nat → Prop} {bv bv' : Value} {es : List Ke} (h : Bk w K bv es) (a : Nat) (hB : Below w.heap.size w w') (hr : w'.ownsRow w.heap.size 90 3 bv' (es.length - a) (kcs (es.drop a))) : Bk w' (fun i => K i ∨ (w.heap.size ≤ i ∧ i < w'.heap.size)) bv' (es.drop a) := by
  have h' := h.below hB
  refine ⟨Tl.of (by simpa using ownsRow_mono hr (Nat.zero_le _)), fun b e => Or.inr ⟨(hr.lt b e).1, (hr.lt b e).2⟩, fun e he => h'.ml e (List.mem_of_mem_drop he), fun e he b q => Or.inl (h.km e (List.mem_of_mem_drop he) b q), fun e he => h.le e (List.mem_of_mem_drop he)⟩
section
variable {P : Program} (w : World)
/-- A copy by append onto the nil slice, of a row of the call's own. -/
theorem wpList_append_clone {ops : Array Oper} {rest : List Oper} {o : Oper} {a : Act} {Q : Exit → Act → World → Prop} (hgd : o.guard = none) (s x : Operand) (t : TypeId)
    (ho : o.op = .call { callee := .builtin .append, args := #[s, x], argTypes := #[t, t] })
    (base : Nat) (e : TypeId) (i : TypeInfo) (z : Value) (size bytes : Nat) (ht : P.underlying t = some (.slice e)) (hi : P.info? e = some i) (hz : i.zero = some z)
    (hsize : i.size = size) (hby : i.bytes = bytes) (hzs : z.cells.size = size) (hsz : 0 < size)
    (v : Value) (n : Nat) (xs : List Value) (hs : a.eval s = .slice none 0 0) (hx : a.eval x = v) (hown : w.ownsRow base e size v n xs) (h1 : ∀ u ∈ xs, u.oneCell' = true)
    (h63 : n ≤ maxLen) (hbytes : n * bytes ≤ 140737488355328)
    (h : ∀ v' w', w'.ownsRow w.heap.size e size v' n xs → Below w.heap.size w w' → wpList P ops Q rest (a.put o.dst v') w') :
    wpList P ops Q (o :: rest) a w := by
  have hnil : w.ownsRow w.heap.size e size (.slice none 0 0) 0 [] := ⟨by simp, Or.inl ⟨rfl, rfl⟩⟩
  have key : ∃ v' w', (Builtin.append_ #[t, t] o.type #[.slice none 0 0, v]).run P w = .ok v' w' ∧ w'.ownsRow w.heap.size e size v' n xs ∧ Below w.heap.size w w' := by
    have hown' := hown
    rcases hown.2 with ⟨rfl, rfl⟩ | ⟨g, cap, cur, rfl, hbg, hg, hnc, hcm, hcs, htake⟩
    · refine ⟨_, _, run_append_owned_none (P := P) w w.heap.size t o.type e i size ht hi _ 0 [] hnil, ⟨hown.1, Or.inl ⟨rfl, rfl⟩⟩, Below.refl _ _⟩
    · obtain ⟨v', w', hr, h2, h3, _⟩ := run_append_own (P := P) w w.heap.size t o.type e i z size bytes ht hi hz hsize hby hzs hsz _ 0 [] hnil ⟨g, 0, none⟩ n cap xs hown.1 (hown'.cells (g := g) rfl) h1 (by omega) (by simpa using hbytes) (Nat.le_refl _)
      refine ⟨v', w', hr, by simpa using h2, (Below.refl _ w).grown h3 (Nat.le_refl _) (fun k hk => by cases hk)⟩
  refine wpList_plain hgd fun K hK => ?_
  obtain ⟨v', w', hr, h2, h3⟩ := key
  unfold Oper.wp execOp
  simp only [ho, resolve, invoke, builtin, Sem.run_bind, Sem.run_pure, Result.andThen_ok, List.map_toArray, List.map_cons, List.map_nil, hs, hx, hr]
  exact hK _ _ (h v' w' h2 h3)
end
set_option maxHeartbeats 1000000 in
theorem roomy_any (ao : Option Addr) (n c : Nat) (bs : List Int) (w : World) (hn : n ≤ 140737488351232) (hL : Lies w ao n c bs) :
    Calls Try.prog 45 #[.slice ao n c] w fun e w' => ∃ g c', e = .returned (.slice (some ⟨g, 0, none⟩) (n + 3) c') ∧ w'.ownsRow w.heap.size 5 1 (.slice (some ⟨g, 0, none⟩) (n + 3) c') (n + 3) ((bs ++ [201, 202, 203]).map (Value.int .u8)) ∧ Below w.heap.size w w' := by
  obtain ⟨i0, hi, hz0, hz1, hz2⟩ := info_parts Try.info5
  go_enter Try.func45, Try.ntmps45
  go_wp2_with fail
  refine (bytes29_any ao n c bs w (by omega) hL).mono ?_
  rintro e w1 ⟨a1, c1, rfl, ho1, hB1⟩
  go_wp2_with (first | (at_builtin; refine wpList_append_own _ rfl _ _ 22 rfl w.heap.size 5 i0 (.int .u8 0) 1 1 Try.underlying22 hi hz0 hz1 hz2 rfl (by decide) _ n _ rfl (ho1.alloc _) ⟨w1.heap.size, 0, none⟩ 3 3 [.int .u8 201, .int .u8 202, .int .u8 203] rfl rfl (cell_three_new _ _ _ _ _) (by intro u hu; simp at hu; rcases hu with rfl | rfl | rfl <;> rfl) (by unfold maxLen; omega) (by omega) (by have := hB1.size; simp; omega) ?_; intro v2 w2 ho2 hg2 hn2; rw [show bs.map (Value.int .u8) ++ [.int .u8 201, .int .u8 202, .int .u8 203] = (bs ++ [201, 202, 203]).map (Value.int .u8) by simp] at ho2))
  have hA := hB1.alloc hB1.size (.cells #[.int .u8 201, .int .u8 202, .int .u8 203] 5)
  have hB2 : Below w.heap.size w w2 := hA.trans ((Turns.grown (F := fun i => (Value.slice a1 n c1).ownBlock = some i) hg2 (fun b hb => hb)).below (fun i e => (ho1.lt i e).1) hA.size)
  rcases own_shape ho2 with ⟨rfl, q⟩ | ⟨g, cap, rfl, _⟩
  · omega
  · go_ret
    exact ⟨g, cap, rfl, ho2, hB2⟩
end Go.Proofs.Ytpbanjgjljdepaa
