/- last by its contract. -/
import Derived.Test.YtejfbjjhnhlagaaDC
import Derived.Deep.RegionHeld3
namespace Go.Proofs.Ytejfbjjhnhlagaa
open Go.RowKit Go.Maps
open Go.MuLone
set_option maxRecDepth 100000

theorem DevX.laid {w w' : World} {db : Nat} {S : DevS} {k N gl bm : Nat} {q st : Int} {pv : Value} {gs : List Nat} {Dm : DataW Value} (h : DevX w db st S k N gl bm q pv gs Dm) (b : Nat) (d : List Int) (hb : b < k) (hd : d.length = 512) (hy : ∀ x ∈ d, 0 ≤ x ∧ x ≤ 255)
    (hT : Turns (fun i => i = gl) w w') (hw : w'.heap[gl]? = some (bl (layB S.last (b, d)))) : DevX w' db st { S with last := layB S.last (b, d) } k N gl bm q pv gs Dm := by
  refine ⟨⟨lay_len h.good.len hb hd, h.good.pos, h.good.top, fun x hx => ?_, h.good.pend, h.good.fuse⟩, ?_, hw, ?_, h.gsl, h.pn, ?_, ?_, h.at_, h.a1, h.a2, h.a3, h.a4, h.a5, h.a6⟩
  · rcases splice_mem hx with hx | hx
    · exact h.good.by_ x hx
    · exact hy x hx
  · exact (hT.block db (heap_lt h.blk) h.a1).trans h.blk
  · exact own_turns h.row hT (fun x hx e => h.a5 (by rw [hx, e]))
  · exact dat_turns h.dat hT (fun x hx e => h.a3 (by rw [← e]; exact hx))
  · exact map_turns h.map hT h.mgl
theorem lay_cells (l : List Int) (b : Nat) (d : List Int) (_hd : d.length = 512) : splice (l.map (Value.int .u8)) (512 * b) (d.map (Value.int .u8)) = (layB l (b, d)).map (Value.int .u8) := by
  simp [splice, layB, List.map_take, List.map_drop]

/-- copy, into a row that is known whole, as one step of a region that draws its order: only that row turns. -/
theorem step_copy_set {P : Program} {ops : Array Oper} {o : Oper} {a : Act} {w : World} {K : Act → World → Prop} {Q : Exit → Act → World → Prop} {E : Prop} (hgd : o.guard = none) (d s : Operand) (dT sT : TypeId)
    (ho : o.op = .call { callee := .builtin .copy, args := #[d, s], argTypes := #[dT, sT] }) (elem : TypeId) (hu : P.underlying dT = some (.slice elem)) (hsz : (P.info? elem).map (·.size) = some 1)
    (g off dLen dCap : Nat) (ad : Addr) (sLen sCap : Nat) (hd : a.eval d = .slice (some ⟨g, off, none⟩) dLen dCap) (hs : a.eval s = .slice (some ad) sLen sCap)
    (cur : List Value) (t : TypeId) (hg : w.heap[g]? = some (.cells cur.toArray t (0, 0))) (cs : List Value) (hn : cs.length = Nat.min sLen dLen)
    (hsrc : ∀ j v, cs[j]? = some v → w.cell? (ad.add j) = some v) (hfit : off + cs.length ≤ cur.length) (h1 : ∀ v ∈ cs, v.oneCell' = true)
    (h : ∀ w', Hid (w'.heap[g]? = some (.cells (splice cur off cs).toArray t (0, 0))) → w.grownBy w' (some g) → K (a.put o.dst (goInt cs.length)) w') :
    if Region.wanted o (yielded ops a.tmps) = true then Oper.wp P o a w K Q else E := by
  have hw : Region.wanted o (yielded ops a.tmps) = true := by simp [Region.wanted, hgd]
  rw [if_pos hw]
  have hrun := run_copy_row (P := P) w dT sT o.type elem g off dLen dCap ad sLen sCap cur.toArray t cs hu hsz hg hn hsrc (by simpa using hfit) h1
  unfold Oper.wp
  simp [execOp, ho, resolve, invoke, builtin, hd, hs, hrun, Result.andThen]
  exact h _ (show _ = _ by simpa [splice] using setRow_heap w g _ _ t _ hg) ⟨rfl, rfl, rfl, by simp [World.setRow], fun i _ hi => setRow_other w g i _ (fun e => hi (by rw [e]))⟩

set_option maxHeartbeats 4000000 in
theorem last_any {w : World} {db : Nat} {S : DevS} {k N gl bm : Nat} {q st : Int} {pv : Value} {gs : List Nat} {Dm : DataW Value} (h : DevX w db st S k N gl bm q pv gs Dm) (b g : Nat) (d : List Int) (hb : b < k)
    (hg : w.heap[g]? = some (bl d)) (hd : d.length = 512) (hy : ∀ x ∈ d, 0 ≤ x ∧ x ≤ 255) :
    Calls Try.prog 49 #[.pointer (some ⟨db, 0, none⟩), .agg #[.int .i64 b, hv g]] w fun e w' => e = .returned (.tuple #[]) ∧ DevX w' db st { S with last := layB S.last (b, d) } k N gl bm q pv gs Dm ∧ Turns (fun i => i = gl) w w' := by
  have hsz : (Try.prog.info? 5).map (·.size) = some 1 := by kernel_rfl
  obtain ⟨c0, c2, c3, c4, c5, c6, fz⟩ := h.cells
  have htop := h.good.top
  have hlen := h.good.len
  have hlst := h.lst
  have hllt := heap_lt hlst
  have hdlt := heap_lt h.blk
  have hglt := heap_lt hg
  have HX : Hid (DevX w db st S k N gl bm q pv gs Dm) := h
  clear h c0 c3 c4 c5 c6 fz
  obtain ⟨W, hW⟩ : ∃ W, w.alloc (.cells #[.int .i64 b, hv g] 69) = W := ⟨_, rfl⟩
  have hbW : Below w.heap.size w W := by rw [← hW]; exact (Below.refl _ w).alloc (Nat.le_refl _) _
  have k2 : W.cell? ⟨db, 2, none⟩ = some (.slice (some ⟨gl, 0, none⟩) (512 * k) (512 * k)) := (hbW.cell hdlt).trans c2
  have x0 : W.cell? ⟨w.heap.size, 0, none⟩ = some (.int .i64 b) := by rw [← hW]; simp
  have x1 : W.cell? ⟨w.heap.size, 1, none⟩ = some (hv g) := by rw [← hW]; simp
  have klst : W.heap[gl]? = some (.cells (S.last.map (Value.int .u8)).toArray 5 (0, 0)) := (hbW.block gl hllt).trans hlst
  have kg : Lies W (some ⟨g, 0, none⟩) 512 512 d := Lies.full ((hbW.block g hglt).trans hg) hd
  go_enter Try.func49, Try.ntmps49
  go_wp2_with fail
  try rw [hW]
  go_region_held3 (fun w' => w'.cell? ⟨w.heap.size, 0, none⟩ = some (.int .i64 b) ∧ w'.cell? ⟨w.heap.size, 1, none⟩ = some (hv g))
    (first | exact ⟨x0, x1⟩ | exact ⟨y0, y1⟩)
    (first
      | (go_at_call 48; refine (block_any db k gl b _ hb htop (by simpa using k2)).mono ?_; rintro e wn ⟨rfl, hwn⟩; subst wn)
      | (refine step_copy_set rfl (.tmp 7) (.tmp 9) 33 33 rfl 5 Try.underlying33 hsz gl (512 * b) 512 (512 * k - 512 * b) ⟨g, 0, none⟩ 512 512 rfl rfl (S.last.map (Value.int .u8)) 5 klst (d.map (Value.int .u8)) (by simp [hd]) (kg.hcells _ rfl) (by simp [hd]; omega) (ints_oneCell _ _) ?_; intro w2 HG2 hgr2; have y0 : w2.cell? ⟨w.heap.size, 0, none⟩ = some (.int .i64 b) := hgr2.cell x0 (by simp; omega); have y1 : w2.cell? ⟨w.heap.size, 1, none⟩ = some (hv g) := hgr2.cell x1 (by simp; omega)))
  have hT : Turns (fun i => i = gl) w w2 := ((Below.turns hbW _).trans (Turns.drewN (fun i => i = gl) W 1) (fun _ _ h => h)).trans (Turns.grown (F := fun i => i = gl) hgr2 (fun b hb => (Option.some.inj hb).symm)) (fun _ _ h => h)
  have hw := HG2.out
  rw [lay_cells S.last b d hd] at hw
  clear HG2
  have HE : Hid _ := HX.out.laid b d hb hd hy hT hw
  go_wp2
  first | go_end0 | refine bodyPost_ret (results_none rfl _ _ _) rfl ?_
  exact ⟨rfl, HE.out, hT⟩
end Go.Proofs.Ytejfbjjhnhlagaa
