/- annexlaw22.WorldShows by its walk. -/
import Derived.Test.YtjkmdacgiebbfaaDoorW17
import Derived.Test.YtjkmdacgiebbfaaDoorW18
namespace Go.Proofs.YtjkmdacgiebbfaaDoor
open Go.RowKit Go.Sort
set_option maxRecDepth 100000

def upCl : Cl := ⟨0, 0, 0, 0, 0, ⟨#[]⟩, ⟨#[]⟩, ⟨#[]⟩, .slice none 0 0, []⟩
def upRs : Rs := ⟨0, 0, 0, 0, 0, 0, 0, 0, .slice none 0 0, [], .slice none 0 0, [], false⟩
def upEv : Ev := ⟨8, 0, 2, 0, 0, upCl, upRs, 0, 0, 0, ⟨#[]⟩, 0, 0, 0, .slice none 0 0, [], 0, 0, .slice none 0 0, []⟩
theorem bat_nil (w : World) : BAt w (.slice none 0 0) [] := ⟨none, 0, rfl, fun _ h => (by cases h), fun _ => rfl⟩
theorem eat_nil (w : World) : EAt w (.slice none 0 0) [] := ⟨none, 0, rfl, fun _ h => (by cases h), fun _ => rfl⟩
theorem isI0 : isI 0 := ⟨by decide, by decide⟩
theorem up_ok (w : World) : upEv.Ok w where
  ints := ⟨isI0, ⟨by decide, by decide⟩, isI0, isI0, isI0, isI0, isI0, isI0, isI0, isI0, isI0, isI0⟩
  csm := ⟨by decide, by decide, by decide, by decide⟩
  cby := by decide
  cin := ⟨isI0, isI0, isI0, isI0, isI0⟩
  cli := bat_nil w
  res := ⟨bat_nil w, eat_nil w, by decide, by decide, by simp [upEv, upRs], by intro x hx; simp [Rs.nums, upEv, upRs] at hx; subst hx; exact isI0⟩
  hps := by decide
  kat := bat_nil w
  kle := by decide
  fat := bat_nil w
  fle := by decide
theorem up_line : tx upEv.line = ⟨#[117, 112, 32, 50]⟩ := by
  have h : upEv.line = wUp ++ numsT [2] := rfl
  have h2 : Lib.itoa 2 = [50] := by
    show Lib.itoa ((2 : Nat) : Int) = [50]
    rw [Lib.itoa_nonneg 2, Lib.decDigits_one (by decide)]
    rfl
  rw [h]
  unfold numsT
  simp only [List.flatMap_cons, List.flatMap_nil, h2]
  rfl

theorem wpList_load {P : Program} {w : World} {ops : Array Oper} {rest : List Oper} {o : Oper} {a : Act} {Q : Exit → Act → World → Prop} (hgd : o.guard = none) (ty : TypeId) (p : Operand)
    (ho : o.op = .load ty p) (ad : Addr) (hp : a.eval p = .pointer (some ad)) (v : Value) (hr : (loadVar ty ad).run P w = .ok v w)
    (hk : wpList P ops Q rest (a.put o.dst v) w) : wpList P ops Q (o :: rest) a w := by
  refine wpList_plain hgd fun K hK => ?_
  unfold Oper.wp execOp
  have hl : (Instr.loadAt ty (a.eval p)).run P w = .ok v w := by
    rw [hp]
    simp [Instr.loadAt, Instr.sureAddr, hr]
  simp only [ho, Sem.run_bind, hl, Result.andThen_ok, Sem.run_pure]
  exact hK _ _ hk
theorem EBx.load {w : World} {b : Nat} {e : Ev} (h : EBx w b e) : (loadVar 38 ⟨b, 0, none⟩).run Tryd.prog w = .ok (.agg e.vals) w :=
  run_loadVar_row (P := Tryd.prog) w b _ 38 e.vals (0, 0) _ h.heap Tryd.underlying38 rfl (by show _ = some 36; kernel_rfl)

set_option maxHeartbeats 4000000 in
theorem worldShows_any (e : Ev) (w : World) (hE : e.Ok w) (hG : Gl w) : Calls Tryd.prog 3 #[e.val] w fun r w' => r = .returned (.bool true) ∧ Below w.heap.size w w' := by
  have hX := EBx.new w e
  have b1 : Below w.heap.size w (w.alloc (.cells e.vals 38)) := (Below.refl _ w).alloc (Nat.le_refl _) _
  have hv : e.vals.size = 36 := rfl
  have hP := showP_any e (w.alloc (.cells e.vals 38)) (hE.below b1) (hG.here b1)
  have hQ := fun W' (hb : Below w.heap.size w W') => showD_any e W' (hE.below hb) (hG.here hb)
  have hU := fun W' (hb : Below w.heap.size w W') => showP_any upEv W' (up_ok W') (hG.here hb)
  have HU := Lib.hid (show upEv.val = .agg #[.int .i64 8, .int .i64 0, .int .i64 2, .int .i64 0, .int .i64 0, .int .i64 0, .int .i64 0, .int .i64 0, .int .i64 0, .int .i64 0, .string ⟨#[]⟩, .string ⟨#[]⟩, .string ⟨#[]⟩, .slice none 0 0, .int .i64 0, .int .i64 0, .int .i64 0, .int .i64 0, .int .i64 0, .int .i64 0, .int .i64 0, .int .i64 0, .slice none 0 0, .slice none 0 0, .bool false, .int .i64 0, .int .i64 0, .int .i64 0, .string ⟨#[]⟩, .int .i64 0, .int .i64 0, .int .i64 0, .slice none 0 0, .int .i64 0, .int .i64 0, .slice none 0 0] from rfl)
  rw [up_line] at hU
  have HLD := Lib.hid hX.load
  have HX := Lib.hid hX
  have HB1 := Lib.hid b1
  have HQ := Lib.hid hQ
  have HUU := Lib.hid hU
  clear hX b1 hE hG hQ hU
  generalize hw1 : w.alloc (.cells e.vals 38) = w1 at *
  unfold Ev.val at *
  go_enter Tryd.func3, Tryd.ntmps3
  go_wp2_with (refine wpList_load rfl 38 (.tmp 1) rfl ⟨w.heap.size, 0, none⟩ rfl _ HLD.out ?_; clear HLD)
  refine hP.mono ?_
  rintro r w2 ⟨rfl, b2⟩
  clear hP hw1
  have HX2 := Lib.hid (HX.out.below b2)
  have HB2 := Lib.hid (HB1.out.trans (b2.mono HB1.out.size))
  clear b2 HX HB1
  have hQ2 := HQ.out w2 HB2.out
  have HLD2 := Lib.hid HX2.out.load
  go_wp2_with (refine wpList_load rfl 38 (.tmp 1) rfl ⟨w.heap.size, 0, none⟩ rfl _ HLD2.out ?_; clear HLD2)
  refine hQ2.mono ?_
  rintro r w3 ⟨rfl, b3⟩
  clear hQ2
  have HB3 := Lib.hid (HB2.out.trans (b3.mono HB2.out.size))
  clear b3 HX2 HB2
  have hU3 := HUU.out w3 HB3.out
  rw [HU.out] at hU3
  have htt : ((tx e.line).toList == (tx e.line).toList) = true := by simp
  generalize tx e.line = TL at *
  go_wp2_with fail
  refine hU3.mono ?_
  rintro r w4 ⟨rfl, b4⟩
  clear hU3
  have HB4 := Lib.hid (HB3.out.trans (b4.mono HB3.out.size))
  clear b4 HB3
  go_wp2_with fail
  go_ret
  exact ⟨rfl, HB4.out⟩
end Go.Proofs.YtjkmdacgiebbfaaDoor
