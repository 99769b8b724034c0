/- Shapes and layouts compared. -/
import Derived.Test.YtgpeefedboomoabDoorP10
namespace Go.Proofs.YtgpeefedboomoabDoor
open Go.RowKit
set_option maxRecDepth 100000

instance (a b : Shp) : Decidable (a = b) :=
  decidable_of_iff (a.cl = b.cl ∧ a.wi = b.wi ∧ a.pl = b.pl ∧ a.ca = b.ca ∧ a.ino = b.ino ∧ a.qu = b.qu ∧ a.da = b.da ∧ a.jo = b.jo) ⟨fun h => Shp.ext h.1 h.2.1 h.2.2.1 h.2.2.2.1 h.2.2.2.2.1 h.2.2.2.2.2.1 h.2.2.2.2.2.2.1 h.2.2.2.2.2.2.2, fun h => by subst h; simp⟩
instance (a b : Lay) : Decidable (a = b) :=
  decidable_of_iff (a.bo = b.bo ∧ a.jr = b.jr ∧ a.jl = b.jl ∧ a.le = b.le ∧ a.ll = b.ll ∧ a.bi = b.bi ∧ a.bl = b.bl ∧ a.ta = b.ta ∧ a.tl = b.tl ∧ a.dt = b.dt ∧ a.dl = b.dl ∧ a.to = b.to ∧ a.sh = b.sh) ⟨fun h => Lay.ext h.1 h.2.1 h.2.2.1 h.2.2.2.1 h.2.2.2.2.1 h.2.2.2.2.2.1 h.2.2.2.2.2.2.1 h.2.2.2.2.2.2.2.1 h.2.2.2.2.2.2.2.2.1 h.2.2.2.2.2.2.2.2.2.1 h.2.2.2.2.2.2.2.2.2.2.1 h.2.2.2.2.2.2.2.2.2.2.2.1 h.2.2.2.2.2.2.2.2.2.2.2.2, fun h => by subst h; simp⟩
theorem int_ne {s t : Int} (h : ¬ s = t) : (s == t) = false := by simpa using h
theorem int_eq {s t : Int} (h : s = t) : (s == t) = true := by simpa using h

set_option maxHeartbeats 4000000 in
theorem eq_ly (d : Nat) (a b : Lay) (w : World) : (Op.equalIn (d + 3) 40 (lyV a) (lyV b)).run Tryd.prog w = .ok (decide (a = b)) w := by
  simp [go_sem]
  by_cases e : a = b
  · subst e
    simp
  · rw [decide_eq_false e]
    by_cases h0 : a.bo = b.bo
    case neg => rw [if_neg h0]
    rw [if_pos h0]
    by_cases h1 : a.jr = b.jr
    case neg => rw [if_neg h1]
    rw [if_pos h1]
    by_cases h2 : a.jl = b.jl
    case neg => rw [if_neg h2]
    rw [if_pos h2]
    by_cases h3 : a.le = b.le
    case neg => rw [if_neg h3]
    rw [if_pos h3]
    by_cases h4 : a.ll = b.ll
    case neg => rw [if_neg h4]
    rw [if_pos h4]
    by_cases h5 : a.bi = b.bi
    case neg => rw [if_neg h5]
    rw [if_pos h5]
    by_cases h6 : a.bl = b.bl
    case neg => rw [if_neg h6]
    rw [if_pos h6]
    by_cases h7 : a.ta = b.ta
    case neg => rw [if_neg h7]
    rw [if_pos h7]
    by_cases h8 : a.tl = b.tl
    case neg => rw [if_neg h8]
    rw [if_pos h8]
    by_cases h9 : a.dt = b.dt
    case neg => rw [if_neg h9]
    rw [if_pos h9]
    by_cases h10 : a.dl = b.dl
    case neg => rw [if_neg h10]
    rw [if_pos h10]
    by_cases h11 : a.to = b.to
    case neg => rw [if_neg h11]
    rw [if_pos h11]
    by_cases h12 : a.sh.cl = b.sh.cl
    case neg => rw [if_neg h12]
    rw [if_pos h12]
    by_cases h13 : a.sh.wi = b.sh.wi
    case neg => rw [if_neg h13]
    rw [if_pos h13]
    by_cases h14 : a.sh.pl = b.sh.pl
    case neg => rw [if_neg h14]
    rw [if_pos h14]
    by_cases h15 : a.sh.ca = b.sh.ca
    case neg => rw [if_neg h15]
    rw [if_pos h15]
    by_cases h16 : a.sh.ino = b.sh.ino
    case neg => rw [if_neg h16]
    rw [if_pos h16]
    by_cases h17 : a.sh.qu = b.sh.qu
    case neg => rw [if_neg h17]
    rw [if_pos h17]
    by_cases h18 : a.sh.da = b.sh.da
    case neg => rw [if_neg h18]
    rw [if_pos h18]
    by_cases h19 : a.sh.jo = b.sh.jo
    case neg => rw [if_neg h19]
    rw [if_pos h19]
    exact absurd (Lay.ext h0 h1 h2 h3 h4 h5 h6 h7 h8 h9 h10 h11 (Shp.ext h12 h13 h14 h15 h16 h17 h18 h19)) e
end Go.Proofs.YtgpeefedboomoabDoor
