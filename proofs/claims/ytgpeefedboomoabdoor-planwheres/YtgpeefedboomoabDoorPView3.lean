/- Layouts and lists of numbers that came in, opened once. -/
import Derived.Test.YtgpeefedboomoabDoorPView2
import Derived.Test.YtgpeefedboomoabDoorP27
namespace Go.Proofs.YtgpeefedboomoabDoor
open Go.ChangeShapes Go.WideShapes Go.ChangeAt Go.RowKit
set_option maxRecDepth 100000

theorem cellsLy : Tryd.prog.cellsOf 40 = 20 := by kernel_rfl
theorem bytes3 : Tryd.prog.bytesOf 3 = 8 := by kernel_rfl
/-- A layout that came in. -/
theorem view_ly {H : Type} {enc : TypeId × Value → H} {W : World} {fuel : Nat} {cs : List Value} {y : DataW H × List MemPlace}
    (hf : DataW.trod enc Tryd.prog W 0 (fun _ => true) true fuel 40 cs = some y) :
    ∃ l : Lay, cs = [.int .i64 l.bo, .int .i64 l.jr, .int .i64 l.jl, .int .i64 l.le, .int .i64 l.ll, .int .i64 l.bi, .int .i64 l.bl, .int .i64 l.ta, .int .i64 l.tl, .int .i64 l.dt, .int .i64 l.dl, .int .i64 l.to, .int .i64 l.sh.cl, .int .i64 l.sh.wi, .int .i64 l.sh.pl, .int .i64 l.sh.ca, .int .i64 l.sh.ino, .int .i64 l.sh.qu, .int .i64 l.sh.da, .int .i64 l.sh.jo] ∧ True := by
  obtain ⟨xs, n, _, hx, hl, hn, hfs⟩ := DataW.trod_struct Tryd.underlying40 hf
  rw [cellsLy] at hl
  match cs, hl with
  | [c0, c1, c2, c3, c4, c5, c6, c7, c8, c9, c10, c11, c12, c13, c14, c15, c16, c17, c18, c19], _ =>
    match xs, hn with
    | [y0, y1, y2, y3, y4, y5, y6, y7, y8, y9, y10, y11, y12], _ =>
      have f0 : DataW.trod enc Tryd.prog W 0 (fun _ => true) true n 3 (([c0, c1, c2, c3, c4, c5, c6, c7, c8, c9, c10, c11, c12, c13, c14, c15, c16, c17, c18, c19].drop 0).take (Tryd.prog.cellsOf 3)) = some y0 := hfs 0 _ rfl
      have f1 : DataW.trod enc Tryd.prog W 0 (fun _ => true) true n 3 (([c0, c1, c2, c3, c4, c5, c6, c7, c8, c9, c10, c11, c12, c13, c14, c15, c16, c17, c18, c19].drop 1).take (Tryd.prog.cellsOf 3)) = some y1 := hfs 1 _ rfl
      have f2 : DataW.trod enc Tryd.prog W 0 (fun _ => true) true n 3 (([c0, c1, c2, c3, c4, c5, c6, c7, c8, c9, c10, c11, c12, c13, c14, c15, c16, c17, c18, c19].drop 2).take (Tryd.prog.cellsOf 3)) = some y2 := hfs 2 _ rfl
      have f3 : DataW.trod enc Tryd.prog W 0 (fun _ => true) true n 3 (([c0, c1, c2, c3, c4, c5, c6, c7, c8, c9, c10, c11, c12, c13, c14, c15, c16, c17, c18, c19].drop 3).take (Tryd.prog.cellsOf 3)) = some y3 := hfs 3 _ rfl
      have f4 : DataW.trod enc Tryd.prog W 0 (fun _ => true) true n 3 (([c0, c1, c2, c3, c4, c5, c6, c7, c8, c9, c10, c11, c12, c13, c14, c15, c16, c17, c18, c19].drop 4).take (Tryd.prog.cellsOf 3)) = some y4 := hfs 4 _ rfl
      have f5 : DataW.trod enc Tryd.prog W 0 (fun _ => true) true n 3 (([c0, c1, c2, c3, c4, c5, c6, c7, c8, c9, c10, c11, c12, c13, c14, c15, c16, c17, c18, c19].drop 5).take (Tryd.prog.cellsOf 3)) = some y5 := hfs 5 _ rfl
      have f6 : DataW.trod enc Tryd.prog W 0 (fun _ => true) true n 3 (([c0, c1, c2, c3, c4, c5, c6, c7, c8, c9, c10, c11, c12, c13, c14, c15, c16, c17, c18, c19].drop 6).take (Tryd.prog.cellsOf 3)) = some y6 := hfs 6 _ rfl
      have f7 : DataW.trod enc Tryd.prog W 0 (fun _ => true) true n 3 (([c0, c1, c2, c3, c4, c5, c6, c7, c8, c9, c10, c11, c12, c13, c14, c15, c16, c17, c18, c19].drop 7).take (Tryd.prog.cellsOf 3)) = some y7 := hfs 7 _ rfl
      have f8 : DataW.trod enc Tryd.prog W 0 (fun _ => true) true n 3 (([c0, c1, c2, c3, c4, c5, c6, c7, c8, c9, c10, c11, c12, c13, c14, c15, c16, c17, c18, c19].drop 8).take (Tryd.prog.cellsOf 3)) = some y8 := hfs 8 _ rfl
      have f9 : DataW.trod enc Tryd.prog W 0 (fun _ => true) true n 3 (([c0, c1, c2, c3, c4, c5, c6, c7, c8, c9, c10, c11, c12, c13, c14, c15, c16, c17, c18, c19].drop 9).take (Tryd.prog.cellsOf 3)) = some y9 := hfs 9 _ rfl
      have f10 : DataW.trod enc Tryd.prog W 0 (fun _ => true) true n 3 (([c0, c1, c2, c3, c4, c5, c6, c7, c8, c9, c10, c11, c12, c13, c14, c15, c16, c17, c18, c19].drop 10).take (Tryd.prog.cellsOf 3)) = some y10 := hfs 10 _ rfl
      have f11 : DataW.trod enc Tryd.prog W 0 (fun _ => true) true n 3 (([c0, c1, c2, c3, c4, c5, c6, c7, c8, c9, c10, c11, c12, c13, c14, c15, c16, c17, c18, c19].drop 11).take (Tryd.prog.cellsOf 3)) = some y11 := hfs 11 _ rfl
      have f12 : DataW.trod enc Tryd.prog W 0 (fun _ => true) true n 33 (([c0, c1, c2, c3, c4, c5, c6, c7, c8, c9, c10, c11, c12, c13, c14, c15, c16, c17, c18, c19].drop 12).take (Tryd.prog.cellsOf 33)) = some y12 := hfs 12 _ rfl
      rw [cells3] at f0 f1 f2 f3 f4 f5 f6 f7 f8 f9 f10 f11
      rw [cellsSh] at f12
      obtain ⟨X0, e0, _, _⟩ := DataW.trod_int Tryd.underlying3 f0
      obtain ⟨X1, e1, _, _⟩ := DataW.trod_int Tryd.underlying3 f1
      obtain ⟨X2, e2, _, _⟩ := DataW.trod_int Tryd.underlying3 f2
      obtain ⟨X3, e3, _, _⟩ := DataW.trod_int Tryd.underlying3 f3
      obtain ⟨X4, e4, _, _⟩ := DataW.trod_int Tryd.underlying3 f4
      obtain ⟨X5, e5, _, _⟩ := DataW.trod_int Tryd.underlying3 f5
      obtain ⟨X6, e6, _, _⟩ := DataW.trod_int Tryd.underlying3 f6
      obtain ⟨X7, e7, _, _⟩ := DataW.trod_int Tryd.underlying3 f7
      obtain ⟨X8, e8, _, _⟩ := DataW.trod_int Tryd.underlying3 f8
      obtain ⟨X9, e9, _, _⟩ := DataW.trod_int Tryd.underlying3 f9
      obtain ⟨X10, e10, _, _⟩ := DataW.trod_int Tryd.underlying3 f10
      obtain ⟨X11, e11, _, _⟩ := DataW.trod_int Tryd.underlying3 f11
      obtain ⟨s, hs, _⟩ := view_sh f12
      simp at e0 e1 e2 e3 e4 e5 e6 e7 e8 e9 e10 e11 hs
      obtain ⟨s0, s1, s2, s3, s4, s5, s6, s7⟩ := hs
      subst e0 e1 e2 e3 e4 e5 e6 e7 e8 e9 e10 e11 s0 s1 s2 s3 s4 s5 s6 s7
      exact ⟨⟨X0, X1, X2, X3, X4, X5, X6, X7, X8, X9, X10, X11, s⟩, rfl, trivial⟩
/-- A list of numbers that came in. -/
theorem view_ints {H : Type} {enc : TypeId × Value → H} {W : World} {fuel : Nat} {a0 : Option Addr} {len cap : Nat} {d : DataW H} {p : List MemPlace}
    (hf : DataW.trod enc Tryd.prog W 0 (fun _ => true) true fuel 41 (Value.slice a0 len cap).cells.toList = some (d, p)) :
    ∃ Z : List Int, ILies W a0 len cap Z ∧ (∀ x ∈ Z, -9223372036854775808 ≤ x ∧ x ≤ 9223372036854775807) ∧ (len = 0 ∨ ∃ sp, d = .slice (lits .i64 Z) sp) := by
  obtain ⟨Z, h1, h2, h3, h4, h5, h6⟩ := view Tryd.underlying41 Tryd.underlying3 cells3 hf
  exact ⟨Z, ⟨h1, h2, h3, h4⟩, fun x hx => bounds_i64 (h5 x hx), h6⟩
theorem ints_reach {H : Type} {ts : List TypeId} {ds : List (DataW H)} {len : Nat} {Z : List Int} {d : DataW H} {j : Nat} (hsz : (DataW.weightsEach Tryd.prog ts ds).all (· ≤ reachBytes) = true) (ht : ts[j]? = some 41) (hd : ds[j]? = some d) (hZ : Z.length = len) (h : len = 0 ∨ ∃ sp, d = .slice (lits .i64 Z) sp) : len ≤ 140737488351232 := by
  rcases h with h | ⟨sa, h⟩
  · omega
  · have := sized_slice hsz (j := j) (t := 41) (e := 3) ht (by rw [hd, h]) Tryd.underlying41
    rw [bytes3] at this
    simp only [lits, List.length_map, hZ, reachBytes] at this
    omega
end Go.Proofs.YtgpeefedboomoabDoor
