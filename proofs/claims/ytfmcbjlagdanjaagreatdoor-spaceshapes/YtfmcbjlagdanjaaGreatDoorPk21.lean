/- SameShape and SameLayout by their contracts. -/
import Derived.Test.YtfmcbjlagdanjaaGreatDoorPk04
import Derived.Test.YtfmcbjlagdanjaaGreatDoorPk20
namespace Go.Proofs.YtfmcbjlagdanjaaGreatDoor
open Go.RowKit
set_option maxRecDepth 100000

theorem box2 (w : World) (p q : Obj) : Below w.heap.size w ((w.alloc p).alloc q) := (newBox w p).trans ((newBox _ q).mono (by simp))

set_option maxHeartbeats 8000000 in
theorem sameShape_any (a b : Shp) (w : World) :
    Calls Tryz.prog 59 #[shV a, shV b] w fun e w' => e = .returned (.bool (decide (a = b))) ∧ Below w.heap.size w w' := by
  go_enter Tryz.func59, Tryz.ntmps59
  by_cases h_cl : a.cl = b.cl
  case neg =>
    have hx := int_ne h_cl
    have no : ¬ a = b := fun h => h_cl (congrArg Shp.cl h)
    go_wp2
    go_ret
    exact ⟨by rw [decide_eq_false no]; rfl, box2 w _ _⟩
  have e_cl := int_eq h_cl
  by_cases h_wi : a.wi = b.wi
  case neg =>
    have hx := int_ne h_wi
    have no : ¬ a = b := fun h => h_wi (congrArg Shp.wi h)
    go_wp2
    go_ret
    exact ⟨by rw [decide_eq_false no]; rfl, box2 w _ _⟩
  have e_wi := int_eq h_wi
  by_cases h_pl : a.pl = b.pl
  case neg =>
    have hx := int_ne h_pl
    have no : ¬ a = b := fun h => h_pl (congrArg Shp.pl h)
    go_wp2
    go_ret
    exact ⟨by rw [decide_eq_false no]; rfl, box2 w _ _⟩
  have e_pl := int_eq h_pl
  by_cases h_ca : a.ca = b.ca
  case neg =>
    have hx := int_ne h_ca
    have no : ¬ a = b := fun h => h_ca (congrArg Shp.ca h)
    go_wp2
    go_ret
    exact ⟨by rw [decide_eq_false no]; rfl, box2 w _ _⟩
  have e_ca := int_eq h_ca
  by_cases h_ino : a.ino = b.ino
  case neg =>
    have hx := int_ne h_ino
    have no : ¬ a = b := fun h => h_ino (congrArg Shp.ino h)
    go_wp2
    go_ret
    exact ⟨by rw [decide_eq_false no]; rfl, box2 w _ _⟩
  have e_ino := int_eq h_ino
  by_cases h_qu : a.qu = b.qu
  case neg =>
    have hx := int_ne h_qu
    have no : ¬ a = b := fun h => h_qu (congrArg Shp.qu h)
    go_wp2
    go_ret
    exact ⟨by rw [decide_eq_false no]; rfl, box2 w _ _⟩
  have e_qu := int_eq h_qu
  by_cases h_da : a.da = b.da
  case neg =>
    have hx := int_ne h_da
    have no : ¬ a = b := fun h => h_da (congrArg Shp.da h)
    go_wp2
    go_ret
    exact ⟨by rw [decide_eq_false no]; rfl, box2 w _ _⟩
  have e_da := int_eq h_da
  by_cases h_jo : a.jo = b.jo
  case neg =>
    have hx := int_ne h_jo
    have no : ¬ a = b := fun h => h_jo (congrArg Shp.jo h)
    go_wp2
    go_ret
    exact ⟨by rw [decide_eq_false no]; rfl, box2 w _ _⟩
  have e_jo := int_eq h_jo
  have yes : a = b := Shp.ext h_cl h_wi h_pl h_ca h_ino h_qu h_da h_jo
  clear h_cl h_wi h_pl h_ca h_ino h_qu h_da h_jo
  go_wp2
  go_ret
  exact ⟨by rw [decide_eq_true yes]; rfl, box2 w _ _⟩

set_option maxHeartbeats 8000000 in
theorem sameLayout_any (a b : Lay) (w : World) :
    Calls Tryz.prog 23 #[lyV a, lyV b] w fun e w' => e = .returned (.bool (decide (a = b))) ∧ Below w.heap.size w w' := by
  have hA := (LyBox.new w a).later (newBox _ (.cells #[.int .i64 b.bo, .int .i64 b.jr, .int .i64 b.jl, .int .i64 b.le, .int .i64 b.ll, .int .i64 b.bi, .int .i64 b.bl, .int .i64 b.ta, .int .i64 b.tl, .int .i64 b.dt, .int .i64 b.dl, .int .i64 b.to, .int .i64 b.sh.cl, .int .i64 b.sh.wi, .int .i64 b.sh.pl, .int .i64 b.sh.ca, .int .i64 b.sh.ino, .int .i64 b.sh.qu, .int .i64 b.sh.da, .int .i64 b.sh.jo] 29)) (by simp)
  have hB : LyBox ((w.alloc (.cells #[.int .i64 a.bo, .int .i64 a.jr, .int .i64 a.jl, .int .i64 a.le, .int .i64 a.ll, .int .i64 a.bi, .int .i64 a.bl, .int .i64 a.ta, .int .i64 a.tl, .int .i64 a.dt, .int .i64 a.dl, .int .i64 a.to, .int .i64 a.sh.cl, .int .i64 a.sh.wi, .int .i64 a.sh.pl, .int .i64 a.sh.ca, .int .i64 a.sh.ino, .int .i64 a.sh.qu, .int .i64 a.sh.da, .int .i64 a.sh.jo] 29)).alloc (.cells #[.int .i64 b.bo, .int .i64 b.jr, .int .i64 b.jl, .int .i64 b.le, .int .i64 b.ll, .int .i64 b.bi, .int .i64 b.bl, .int .i64 b.ta, .int .i64 b.tl, .int .i64 b.dt, .int .i64 b.dl, .int .i64 b.to, .int .i64 b.sh.cl, .int .i64 b.sh.wi, .int .i64 b.sh.pl, .int .i64 b.sh.ca, .int .i64 b.sh.ino, .int .i64 b.sh.qu, .int .i64 b.sh.da, .int .i64 b.sh.jo] 29)) (w.heap.size + 1) b := by
    have h := LyBox.new (w.alloc (.cells #[.int .i64 a.bo, .int .i64 a.jr, .int .i64 a.jl, .int .i64 a.le, .int .i64 a.ll, .int .i64 a.bi, .int .i64 a.bl, .int .i64 a.ta, .int .i64 a.tl, .int .i64 a.dt, .int .i64 a.dl, .int .i64 a.to, .int .i64 a.sh.cl, .int .i64 a.sh.wi, .int .i64 a.sh.pl, .int .i64 a.sh.ca, .int .i64 a.sh.ino, .int .i64 a.sh.qu, .int .i64 a.sh.da, .int .i64 a.sh.jo] 29)) b
    rwa [show (w.alloc (.cells #[.int .i64 a.bo, .int .i64 a.jr, .int .i64 a.jl, .int .i64 a.le, .int .i64 a.ll, .int .i64 a.bi, .int .i64 a.bl, .int .i64 a.ta, .int .i64 a.tl, .int .i64 a.dt, .int .i64 a.dl, .int .i64 a.to, .int .i64 a.sh.cl, .int .i64 a.sh.wi, .int .i64 a.sh.pl, .int .i64 a.sh.ca, .int .i64 a.sh.ino, .int .i64 a.sh.qu, .int .i64 a.sh.da, .int .i64 a.sh.jo] 29)).heap.size = w.heap.size + 1 by simp] at h
  have hq := box2 w (.cells #[.int .i64 a.bo, .int .i64 a.jr, .int .i64 a.jl, .int .i64 a.le, .int .i64 a.ll, .int .i64 a.bi, .int .i64 a.bl, .int .i64 a.ta, .int .i64 a.tl, .int .i64 a.dt, .int .i64 a.dl, .int .i64 a.to, .int .i64 a.sh.cl, .int .i64 a.sh.wi, .int .i64 a.sh.pl, .int .i64 a.sh.ca, .int .i64 a.sh.ino, .int .i64 a.sh.qu, .int .i64 a.sh.da, .int .i64 a.sh.jo] 29) (.cells #[.int .i64 b.bo, .int .i64 b.jr, .int .i64 b.jl, .int .i64 b.le, .int .i64 b.ll, .int .i64 b.bi, .int .i64 b.bl, .int .i64 b.ta, .int .i64 b.tl, .int .i64 b.dt, .int .i64 b.dl, .int .i64 b.to, .int .i64 b.sh.cl, .int .i64 b.sh.wi, .int .i64 b.sh.pl, .int .i64 b.sh.ca, .int .i64 b.sh.ino, .int .i64 b.sh.qu, .int .i64 b.sh.da, .int .i64 b.sh.jo] 29)
  have hs : w.heap.size + 1 < ((w.alloc (.cells #[.int .i64 a.bo, .int .i64 a.jr, .int .i64 a.jl, .int .i64 a.le, .int .i64 a.ll, .int .i64 a.bi, .int .i64 a.bl, .int .i64 a.ta, .int .i64 a.tl, .int .i64 a.dt, .int .i64 a.dl, .int .i64 a.to, .int .i64 a.sh.cl, .int .i64 a.sh.wi, .int .i64 a.sh.pl, .int .i64 a.sh.ca, .int .i64 a.sh.ino, .int .i64 a.sh.qu, .int .i64 a.sh.da, .int .i64 a.sh.jo] 29)).alloc (.cells #[.int .i64 b.bo, .int .i64 b.jr, .int .i64 b.jl, .int .i64 b.le, .int .i64 b.ll, .int .i64 b.bi, .int .i64 b.bl, .int .i64 b.ta, .int .i64 b.tl, .int .i64 b.dt, .int .i64 b.dl, .int .i64 b.to, .int .i64 b.sh.cl, .int .i64 b.sh.wi, .int .i64 b.sh.pl, .int .i64 b.sh.ca, .int .i64 b.sh.ino, .int .i64 b.sh.qu, .int .i64 b.sh.da, .int .i64 b.sh.jo] 29)).heap.size := by simp
  go_enter Tryz.func23, Tryz.ntmps23
  go_wp2_with fail
  generalize (w.alloc (.cells #[.int .i64 a.bo, .int .i64 a.jr, .int .i64 a.jl, .int .i64 a.le, .int .i64 a.ll, .int .i64 a.bi, .int .i64 a.bl, .int .i64 a.ta, .int .i64 a.tl, .int .i64 a.dt, .int .i64 a.dl, .int .i64 a.to, .int .i64 a.sh.cl, .int .i64 a.sh.wi, .int .i64 a.sh.pl, .int .i64 a.sh.ca, .int .i64 a.sh.ino, .int .i64 a.sh.qu, .int .i64 a.sh.da, .int .i64 a.sh.jo] 29)).alloc (.cells #[.int .i64 b.bo, .int .i64 b.jr, .int .i64 b.jl, .int .i64 b.le, .int .i64 b.ll, .int .i64 b.bi, .int .i64 b.bl, .int .i64 b.ta, .int .i64 b.tl, .int .i64 b.dt, .int .i64 b.dl, .int .i64 b.to, .int .i64 b.sh.cl, .int .i64 b.sh.wi, .int .i64 b.sh.pl, .int .i64 b.sh.ca, .int .i64 b.sh.ino, .int .i64 b.sh.qu, .int .i64 b.sh.da, .int .i64 b.sh.jo] 29) = w0 at *
  refine (sameShape_any a.sh b.sh _).mono ?_
  rintro e w1 ⟨rfl, hb1⟩
  have hA1 := hA.later hb1 (by omega)
  have hB1 := hB.later hb1 hs
  have hq1 := hq.trans (hb1.mono hq.size)
  clear hA hB hq hb1 hs
  obtain ⟨a0, a1, a2, a3, a4, a5, a6, a7, a8, a9, a10, a11, a12, a13, a14, a15, a16, a17, a18, a19⟩ := hA1
  obtain ⟨b0, b1, b2, b3, b4, b5, b6, b7, b8, b9, b10, b11, b12, b13, b14, b15, b16, b17, b18, b19⟩ := hB1
  clear a12 b12 a13 b13 a14 b14 a15 b15 a16 b16 a17 b17 a18 b18 a19 b19
  by_cases h_sh : a.sh = b.sh
  case neg =>
    have no : ¬ a = b := fun h => h_sh (congrArg Lay.sh h)
    simp only [decide_eq_false h_sh]
    by_cases g_bo : a.bo = b.bo
    case neg =>
      have hx := int_ne g_bo
      go_wp2_with fail
      go_ret
      exact ⟨by rw [decide_eq_false no]; rfl, hq1⟩
    have f_bo := int_eq g_bo
    by_cases g_jr : a.jr = b.jr
    case neg =>
      have hx := int_ne g_jr
      go_wp2_with fail
      go_ret
      exact ⟨by rw [decide_eq_false no]; rfl, hq1⟩
    have f_jr := int_eq g_jr
    by_cases g_jl : a.jl = b.jl
    case neg =>
      have hx := int_ne g_jl
      go_wp2_with fail
      go_ret
      exact ⟨by rw [decide_eq_false no]; rfl, hq1⟩
    have f_jl := int_eq g_jl
    by_cases g_le : a.le = b.le
    case neg =>
      have hx := int_ne g_le
      go_wp2_with fail
      go_ret
      exact ⟨by rw [decide_eq_false no]; rfl, hq1⟩
    have f_le := int_eq g_le
    by_cases g_ll : a.ll = b.ll
    case neg =>
      have hx := int_ne g_ll
      go_wp2_with fail
      go_ret
      exact ⟨by rw [decide_eq_false no]; rfl, hq1⟩
    have f_ll := int_eq g_ll
    by_cases g_bi : a.bi = b.bi
    case neg =>
      have hx := int_ne g_bi
      go_wp2_with fail
      go_ret
      exact ⟨by rw [decide_eq_false no]; rfl, hq1⟩
    have f_bi := int_eq g_bi
    go_wp2_with fail
    go_ret
    exact ⟨by rw [decide_eq_false no]; rfl, hq1⟩
  simp only [decide_eq_true h_sh]
  by_cases h_bo : a.bo = b.bo
  case neg =>
    have hx := int_ne h_bo
    have no : ¬ a = b := fun h => h_bo (congrArg Lay.bo h)
    go_wp2_with fail
    go_ret
    exact ⟨by rw [decide_eq_false no]; rfl, hq1⟩
  have e_bo := int_eq h_bo
  by_cases h_jr : a.jr = b.jr
  case neg =>
    have hx := int_ne h_jr
    have no : ¬ a = b := fun h => h_jr (congrArg Lay.jr h)
    go_wp2_with fail
    go_ret
    exact ⟨by rw [decide_eq_false no]; rfl, hq1⟩
  have e_jr := int_eq h_jr
  by_cases h_jl : a.jl = b.jl
  case neg =>
    have hx := int_ne h_jl
    have no : ¬ a = b := fun h => h_jl (congrArg Lay.jl h)
    go_wp2_with fail
    go_ret
    exact ⟨by rw [decide_eq_false no]; rfl, hq1⟩
  have e_jl := int_eq h_jl
  by_cases h_le : a.le = b.le
  case neg =>
    have hx := int_ne h_le
    have no : ¬ a = b := fun h => h_le (congrArg Lay.le h)
    go_wp2_with fail
    go_ret
    exact ⟨by rw [decide_eq_false no]; rfl, hq1⟩
  have e_le := int_eq h_le
  by_cases h_ll : a.ll = b.ll
  case neg =>
    have hx := int_ne h_ll
    have no : ¬ a = b := fun h => h_ll (congrArg Lay.ll h)
    go_wp2_with fail
    go_ret
    exact ⟨by rw [decide_eq_false no]; rfl, hq1⟩
  have e_ll := int_eq h_ll
  by_cases h_bi : a.bi = b.bi
  case neg =>
    have hx := int_ne h_bi
    have no : ¬ a = b := fun h => h_bi (congrArg Lay.bi h)
    go_wp2_with fail
    go_ret
    exact ⟨by rw [decide_eq_false no]; rfl, hq1⟩
  have e_bi := int_eq h_bi
  by_cases h_bl : a.bl = b.bl
  case neg =>
    have hx := int_ne h_bl
    have no : ¬ a = b := fun h => h_bl (congrArg Lay.bl h)
    go_wp2_with fail
    go_ret
    exact ⟨by rw [decide_eq_false no]; rfl, hq1⟩
  have e_bl := int_eq h_bl
  by_cases h_ta : a.ta = b.ta
  case neg =>
    have hx := int_ne h_ta
    have no : ¬ a = b := fun h => h_ta (congrArg Lay.ta h)
    go_wp2_with fail
    go_ret
    exact ⟨by rw [decide_eq_false no]; rfl, hq1⟩
  have e_ta := int_eq h_ta
  by_cases h_tl : a.tl = b.tl
  case neg =>
    have hx := int_ne h_tl
    have no : ¬ a = b := fun h => h_tl (congrArg Lay.tl h)
    go_wp2_with fail
    go_ret
    exact ⟨by rw [decide_eq_false no]; rfl, hq1⟩
  have e_tl := int_eq h_tl
  by_cases h_dt : a.dt = b.dt
  case neg =>
    have hx := int_ne h_dt
    have no : ¬ a = b := fun h => h_dt (congrArg Lay.dt h)
    go_wp2_with fail
    go_ret
    exact ⟨by rw [decide_eq_false no]; rfl, hq1⟩
  have e_dt := int_eq h_dt
  by_cases h_dl : a.dl = b.dl
  case neg =>
    have hx := int_ne h_dl
    have no : ¬ a = b := fun h => h_dl (congrArg Lay.dl h)
    go_wp2_with fail
    go_ret
    exact ⟨by rw [decide_eq_false no]; rfl, hq1⟩
  have e_dl := int_eq h_dl
  by_cases h_to : a.to = b.to
  case neg =>
    have hx := int_ne h_to
    have no : ¬ a = b := fun h => h_to (congrArg Lay.to h)
    go_wp2_with fail
    go_ret
    exact ⟨by rw [decide_eq_false no]; rfl, hq1⟩
  have e_to := int_eq h_to
  have yes : a = b := Lay.ext h_bo h_jr h_jl h_le h_ll h_bi h_bl h_ta h_tl h_dt h_dl h_to h_sh
  clear h_bo h_jr h_jl h_le h_ll h_bi h_bl h_ta h_tl h_dt h_dl h_to
  go_wp2_with fail
  go_ret
  exact ⟨by rw [decide_eq_true yes]; rfl, hq1⟩
end Go.Proofs.YtfmcbjlagdanjaaGreatDoor
