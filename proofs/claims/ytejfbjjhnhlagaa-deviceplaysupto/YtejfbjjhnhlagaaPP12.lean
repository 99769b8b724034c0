/- DevicePlays, walked. -/
import Derived.Test.YtejfbjjhnhlagaaPP11
namespace Go.Proofs.Ytejfbjjhnhlagaa
open Go.RowKit Go.Maps
set_option maxRecDepth 100000

/-- A step that came in. -/
structure OpR where
  kind : Int
  who : Int
  b : Int
  k : Int
  da : Option Addr
  dn : Nat
  dc : Nat
  bs : List Int
  ka : Option Addr
  kn : Nat
  kc : Nat
  ks : List Bool
def OpR.cells (o : OpR) : List Value := [.int .i64 o.kind, .int .i64 o.who, .int .i64 o.b, .int .i64 o.k, .slice o.da o.dn o.dc, .slice o.ka o.kn o.kc]
structure OpIn (w : World) (o : OpR) : Prop where
  d : Lies w o.da o.dn o.dc o.bs
  dy : ∀ x ∈ o.bs, 0 ≤ x ∧ x ≤ 255
  k : KLies w o.ka o.kn o.kc o.ks
  kz : o.ka = none → o.kn = 0 ∧ o.kc = 0
  dm : o.dn ≤ 2000000
  km : o.kn ≤ 2000000
  kk : o.k ≤ 9223372036854775807
/-- The slice reads as these steps. -/
structure SLies (w : World) (ao : Option Addr) (n : Nat) (os : List OpR) : Prop where
  hlen : os.length = n
  hcells : ∀ (j : Nat) o, os[j]? = some o → OpIn w o ∧ ∃ g p, ao = some ⟨g, p, none⟩ ∧ ∀ t v, o.cells[t]? = some v → w.cell? ⟨g, p + j * 6 + t, none⟩ = some v
theorem OpIn.ok {w : World} {o : OpR} (h : OpIn w o) (hd : o.dn ≤ 1000000) : OpOk w w.heap.size o.da o.dn o.dc o.bs o.ka o.kn o.kc o.ks := by
  refine ⟨h.d, h.dy, fun ad had h0 => ?_, h.k, fun ad had h0 => ?_, h.kz, hd, h.km⟩
  · obtain ⟨b, o', e, hc⟩ := h.d.at h0
    rw [had] at e
    cases e
    exact World.block_lt_of_cell? w _ (hc 0 h0)
  · have hl := h.k.hlen
    obtain ⟨g, o', e, hc⟩ := h.k.hcells 0 (o.ks[0]'(by omega)) (List.getElem?_eq_getElem _)
    rw [had] at e
    cases e
    exact World.block_lt_of_cell? w _ hc
theorem Pz.start (w w1 : World) (hb : Below w.heap.size w w1) : Pz (w1.alloc (.cells #[.pointer none, .pointer none, .pointer none, .pointer none, .slice none 0 0, .int .i64 0] 32)) w.heap.size w1.heap.size 0 0 (fun _ => .pointer none) (fun _ => .pointer none) (fun _ => none) (.slice none 0 0) [] (fun _ => False) := by
  refine ⟨fun i => if i = w1.heap.size then 5 else 0, ⟨(MapKept.heap_alloc w1 _).1, by simp, fun i hi => ?_, Bk.nil _ _, fun q _ => ⟨rfl, rfl⟩, fun i hi => ?_, by have := hb.size; simp; omega, fun i cs ty h => by cases h⟩, fun _ h => h.elim⟩
  · by_cases e : i = w1.heap.size
    · exact e
    · simp [e] at hi
  · by_cases e : i = w1.heap.size
    · subst e; exact ⟨hb.size, by simp⟩
    · simp [e] at hi

set_option maxHeartbeats 16000000 in
theorem plays_any (ao : Option Addr) (n c : Nat) (os : List OpR) (w : World) (hn : n ≤ 150000) (hS : SLies w ao n os) :
    Calls Try.prog 3 #[.slice ao n c] w fun e w' => e = .returned (.bool true) ∧ Below w.heap.size w w' := by
  have hni : (n : Int) ≤ 150000 := by omega
  go_enter Try.func3, Try.ntmps3
  go_wp2_with fail
  refine (known_any w).mono ?_
  rintro e w1 ⟨rfl, b1⟩
  have z0 := Pz.start w w1 b1
  have B0 : Below w.heap.size w (w1.alloc (.cells #[.pointer none, .pointer none, .pointer none, .pointer none, .slice none 0 0, .int .i64 0] 32)) := b1.alloc b1.size _
  obtain ⟨yb, hyb⟩ : ∃ yb, w1.heap.size = yb := ⟨_, rfl⟩
  rw [hyb] at z0
  go_wp2_with fail
  try rw [hyb]
  clear hyb
  obtain ⟨base, hbase⟩ : ∃ base, w.heap.size = base := ⟨_, rfl⟩
  have HBS : Hid (w.heap.size = base) := hbase
  rw [hbase] at z0 B0
  have hA0 : Aft w (w1.alloc (.cells #[.pointer none, .pointer none, .pointer none, .pointer none, .slice none 0 0, .int .i64 0] 32)) base yb 0 0 (fun _ => .pointer none) (fun _ => .pointer none) 0 := ⟨⟨_, _, _, z0, fun q t h => (by cases h), rfl, Nat.le_refl _⟩, B0⟩
  clear hbase z0 b1
  go_loopw [3, 5] (fun okv i wr => ∃ (j : Nat) (s : Int) (a b : Nat → Value), j ≤ n ∧ okv = .bool true ∧ i = .int .i64 j ∧ Aft w wr base yb s (2 * j) a b (j * 1000000)) (fun _ i _ => n - (intOf i).toNat)
  case atStart => exact ⟨0, 0, _, _, Nat.zero_le _, rfl, rfl, by simpa using hA0⟩
  case round =>
    clear hA0 B0
    obtain ⟨j, s, a, b, hj, rfl, rfl, hA⟩ := hrel
    by_cases hlt : j < n
    case neg =>
      obtain rfl : j = n := by omega
      have hji : ¬ (j : Int) < j := by omega
      have hB := hA.2
      go_wp2_with fail
      refine (known_any wr).mono ?_
      rintro e wE ⟨rfl, bE⟩
      go_wp2_with fail
      go_ret
      have hsz : base ≤ wr.heap.size := Nat.le_trans (by rw [← HBS.out]; exact Nat.le_refl _) hB.size
      exact ⟨rfl, by rw [HBS.out]; exact hB.trans (bE.mono hsz)⟩
    have hji : (j : Int) < n := by omega
    obtain ⟨o, ho⟩ : ∃ o, os[j]? = some o := ⟨_, List.getElem?_eq_getElem (by rw [hS.hlen]; exact hlt)⟩
    obtain ⟨hin, sg, sp, rfl, hcs⟩ := hS.hcells j o ho
    obtain ⟨⟨T, bv, es, z, bal, hT2, hlen⟩, hB⟩ := hA
    have hsg : sg < base := by rw [← HBS.out]; exact World.block_lt_of_cell? w _ (hcs 0 _ rfl)
    have hcr : ∀ t v, o.cells[t]? = some v → wr.cell? ⟨sg, sp + j * 6 + t, none⟩ = some v := fun t v h => (hB.cell hsg).trans (hcs t v h)
    have s0 := hcr 0 _ rfl
    have s1 := hcr 1 _ rfl
    have s2 := hcr 2 _ rfl
    have s3 := hcr 3 _ rfl
    have s4 := hcr 4 _ rfl
    have s5 := hcr 5 _ rfl
    simp only [Nat.add_zero] at s0
    have hdm := hin.dm
    have HIN : Hid (OpIn w o) := hin
    have hkk := hin.kk
    clear hcs hcr hin ho
    obtain ⟨kind, who, ob, ok', da, dn, dc, bs, ka, kn, kc, ks⟩ := o
    simp only at s0 s1 s2 s3 s4 s5 hdm hkk
    obtain ⟨W, hW⟩ : ∃ W, wr.alloc (.cells #[.int .i64 kind, .int .i64 who, .int .i64 ob, .int .i64 ok', .slice da dn dc, .slice ka kn kc] 36) = W := ⟨_, rfl⟩
    have hbW : Below wr.heap.size wr W := by rw [← hW]; exact (Below.refl _ wr).alloc (Nat.le_refl _) _
    obtain ⟨Bo, hBo⟩ : ∃ Bo, wr.heap.size = Bo := ⟨_, rfl⟩
    have bO : W.heap[wr.heap.size]? = some (.cells #[.int .i64 kind, .int .i64 who, .int .i64 ob, .int .i64 ok', .slice da dn dc, .slice ka kn kc] 36 (0, 0)) := by rw [← hW]; exact (MapKept.heap_alloc wr _).1
    have hsW : W.heap.size = wr.heap.size + 1 := by rw [← hW]; simp
    obtain ⟨z1, f1⟩ := z.below hbW
    replace z1 := z1.less (P' := fun i => i = wr.heap.size) (fun i hi => Or.inr (by omega))
    rw [hBo] at bO z1
    have B1 := hB.trans f1.blw
    have y5 : W.cell? ⟨yb, 5, none⟩ = some (.int .i64 s) := z1.cells.2.2.2.2.2.1
    have yf := z1.cells.2.2.2.2.2.2 5
    have o0 : W.cell? ⟨Bo, 0, none⟩ = some (.int .i64 kind) := by simp [World.cell?, bO]
    obtain ⟨z2, f2⟩ := z1.step (j : Int)
    have B2 := B1.trans f2.blw
    have bO2 := f2.blk rfl bO
    obtain ⟨W2, hW2⟩ : ∃ W2, W.setCell ⟨yb, 5, none⟩ (.int .i64 (j : Int)) = W2 := ⟨_, rfl⟩
    rw [hW2] at z2 B2 bO2
    have HBo : Hid (wr.heap.size = Bo) := hBo
    have c4 : W2.cell? ⟨Bo, 4, none⟩ = some (.slice da dn dc) := by simp [World.cell?, bO2]
    clear z z1 f1 f2 hlt o0 bO
    by_cases hbig : 1000000 < dn
    · have hbi : (1000000 : Int) < dn := by omega
      have hm1 : es.length ≤ (j + 1) * 1000000 := Nat.le_trans hlen (Nat.mul_le_mul_right _ (Nat.le_succ j))
      have hn1 : 2 * j ≤ 2 * (j + 1) := by omega
      have hAE := Aft.none z2 bal hT2 hm1 hn1 B2
      clear z2 bO2
      go_wp2_with fail
      go_roundw
      case rel => exact ⟨j + 1, _, a, b, by omega, rfl, by go_num, hAE⟩
      case measure => simp [intOf]; omega
    have hbi : ¬ (1000000 : Int) < dn := by omega
    have hok0 : OpOk w base da dn dc bs ka kn kc ks := by rw [← HBS.out]; exact HIN.out.ok (by simp only; omega)
    obtain ⟨q, hq, hwq⟩ := and_one who
    obtain ⟨pa, pb, epa, epb⟩ := z2.ptr hq
    obtain ⟨ya, yb'⟩ := z2.cell2 hq
    rw [epa] at ya
    rw [epb] at yb'
    have hyl := z2.lt
    have c1 : W2.cell? ⟨Bo, 1, none⟩ = some (.int .i64 who) := by simp [World.cell?, bO2]
    have hoL := heap_lt bO2
    have hbX : ∀ o, Below W2.heap.size W2 (W2.alloc o) := fun o => (Below.refl _ W2).alloc (Nat.le_refl _) o
    have xo1 : ∀ o, (W2.alloc o).cell? ⟨Bo, 1, none⟩ = some (.int .i64 who) := fun o => ((hbX o).cell hoL).trans c1
    have xya : ∀ o, (W2.alloc o).cell? ⟨yb, q * 2, none⟩ = some (.pointer pa) := fun o => ((hbX o).cell hyl.1).trans ya
    have xyb : ∀ o, (W2.alloc o).cell? ⟨yb, q * 2 + 1, none⟩ = some (.pointer pb) := fun o => ((hbX o).cell hyl.1).trans yb'
    have hqi : (q : Int) < 2 := by omega
    have hqi0 : (0 : Int) ≤ q := by omega
    go_wp2_with fail
    go_region_held3 (fun w' => w'.cell? ⟨Bo, 1, none⟩ = some (.int .i64 who) ∧ w'.cell? ⟨yb, q * 2, none⟩ = some (.pointer pa) ∧ w'.cell? ⟨yb, q * 2 + 1, none⟩ = some (.pointer pb)) (first | exact ⟨c1, ya, yb'⟩ | exact ⟨xo1 _, xya _, xyb _⟩) (fail)
    obtain ⟨X, hX⟩ : ∃ X, (W2.alloc (.cells #[.pointer pa, .pointer pb] 28)).drew = X := ⟨_, rfl⟩
    have hbX1 : Below W2.heap.size W2 X := by rw [← hX]; exact ⟨rfl, rfl, rfl, by simp, fun i hi => (hbX _).block i hi⟩
    obtain ⟨Bp, hBp⟩ : ∃ Bp, W2.heap.size = Bp := ⟨_, rfl⟩
    have bP : X.heap[W2.heap.size]? = some (.cells #[.pointer pa, .pointer pb] 28 (0, 0)) := by rw [← hX]; exact (MapKept.heap_alloc W2 _).1
    have hsX : X.heap.size = W2.heap.size + 1 := by rw [← hX]; simp
    obtain ⟨z3, f3⟩ := z2.below hbX1
    replace z3 := z3.less (P' := fun i => i = Bo ∨ i = W2.heap.size) (fun i hi => hi.elim Or.inl (fun r => Or.inr (by omega)))
    have B3 := B2.trans f3.blw
    have bO3 := f3.blk rfl bO2
    rw [hBp] at bP z3 hoL
    try rw [hX]
    try rw [hBp]
    have hne : Bp ≠ Bo := by omega
    have z4 := ((z3.lend (Or.inl rfl) bO3).lend ⟨Or.inr rfl, hne⟩ bP).less (P' := fun _ => False) (fun _ h => h.elim)
    have HBp : Hid (W2.heap.size = Bp) := hBp
    have aO : upd (upd a (3 + Bo) (.agg #[.int .i64 kind, .int .i64 who, .int .i64 ob, .int .i64 ok', .slice da dn dc, .slice ka kn kc])) (3 + Bp) (.agg #[.pointer pa, .pointer pb]) (3 + Bo) = .agg #[.int .i64 kind, .int .i64 who, .int .i64 ob, .int .i64 ok', .slice da dn dc, .slice ka kn kc] := by rw [upd_other _ _ (by omega), upd_same]
    have aP : upd (upd a (3 + Bo) (.agg #[.int .i64 kind, .int .i64 who, .int .i64 ob, .int .i64 ok', .slice da dn dc, .slice ka kn kc])) (3 + Bp) (.agg #[.pointer pa, .pointer pb]) (3 + Bp) = .agg #[.pointer pa, .pointer pb] := upd_same _ _ _
    have cO : upd (upd b (3 + Bo) (.int .i64 ((36 : Nat) : Int))) (3 + Bp) (.int .i64 ((28 : Nat) : Int)) (3 + Bo) = .int .i64 ((36 : Nat) : Int) := by rw [upd_other _ _ (by omega), upd_same]
    have cP : upd (upd b (3 + Bo) (.int .i64 ((36 : Nat) : Int))) (3 + Bp) (.int .i64 ((28 : Nat) : Int)) (3 + Bp) = .int .i64 ((28 : Nat) : Int) := upd_same _ _ _
    have epa' : upd (upd a (3 + Bo) (.agg #[.int .i64 kind, .int .i64 who, .int .i64 ob, .int .i64 ok', .slice da dn dc, .slice ka kn kc])) (3 + Bp) (.agg #[.pointer pa, .pointer pb]) q = .pointer pa := by rw [upd_other _ _ (by omega), upd_other _ _ (by omega)]; exact epa
    have epb' : upd (upd b (3 + Bo) (.int .i64 ((36 : Nat) : Int))) (3 + Bp) (.int .i64 ((28 : Nat) : Int)) q = .pointer pb := by rw [upd_other _ _ (by omega), upd_other _ _ (by omega)]; exact epb
    generalize upd (upd a (3 + Bo) (.agg #[.int .i64 kind, .int .i64 who, .int .i64 ob, .int .i64 ok', .slice da dn dc, .slice ka kn kc])) (3 + Bp) (.agg #[.pointer pa, .pointer pb]) = a4 at *
    generalize upd (upd b (3 + Bo) (.int .i64 ((36 : Nat) : Int))) (3 + Bp) (.int .i64 ((28 : Nat) : Int)) = b4 at *
    have hok3 := hok0.below B3
    have l0 : X.cell? ⟨Bo, 0, none⟩ = some (.int .i64 kind) := by simp [World.cell?, bO3]
    have l1 : X.cell? ⟨Bo, 1, none⟩ = some (.int .i64 who) := by simp [World.cell?, bO3]
    have l2 : X.cell? ⟨Bo, 2, none⟩ = some (.int .i64 ob) := by simp [World.cell?, bO3]
    have l3 : X.cell? ⟨Bo, 3, none⟩ = some (.int .i64 ok') := by simp [World.cell?, bO3]
    have l4 : X.cell? ⟨Bo, 4, none⟩ = some (.slice da dn dc) := by simp [World.cell?, bO3]
    have l5 : X.cell? ⟨Bo, 5, none⟩ = some (.slice ka kn kc) := by simp [World.cell?, bO3]
    have m0 : X.cell? ⟨Bp, 0, none⟩ = some (.pointer pa) := by simp [World.cell?, bP]
    have m1 : X.cell? ⟨Bp, 1, none⟩ = some (.pointer pb) := by simp [World.cell?, bP]
    clear z2 z3 f3 hX hbX xo1 xya xyb ya yb' c1 c4 bO2 bO3 bP s0 s1 s2 s3 s4 s5 y5 yf hW hW2 epa epb hbX1 hsX hbW hsW
    have h2j : 2 * j ≤ 1000000000 := by omega
    have hes : es.length ≤ 900000000000 := by omega
    by_cases hk : kind = 1 ∨ kind = 2 ∨ kind = 10
    · rcases hk with rfl | rfl | rfl
      · go_wp2_with fail
        refine (made_all z4 bal hT2 who hq hwq h2j hes (1 : Int) ok' (by omega) (.int .i64 ob) da dn dc bs ka kn kc ks hok3).mono ?_
        rintro e wE ⟨rfl, aE, bE, ⟨⟨TE, bvE, esE, zE, balE, hT2E, hlenE0⟩, BE0⟩⟩
        have hlenE : esE.length ≤ (j + 1) * 1000000 := by omega
        have hNE : 2 * j + 1 ≤ 2 * (j + 1) := by omega
        have BE := B3.trans BE0
        clear l0 l1 l2 l3 l4 l5 m0 m1 z4
        have c4E : wE.cell? ⟨yb, 4, none⟩ = some bvE := zE.cells.2.2.2.2.1
        by_cases h8 : j % 8 = 0
        case pos =>
          have h8i : (j : Int) % 8 = 0 := by omega
          go_wp2_with fail
          refine (holds_py zE (by omega)).mono ?_
          rintro e wH ⟨rfl, mH, rfl⟩
          have zH := zE.drewN mH
          have BH : Below base w (wE.drewN mH) := below_drewN BE mH
          have cH : (wE.drewN mH).cell? ⟨yb, 4, none⟩ = some bvE := c4E
          obtain ⟨wH, hwH⟩ : ∃ wH, wE.drewN mH = wH := ⟨_, rfl⟩
          rw [hwH] at zH BH cH ⊢
          clear hwH c4E zE
          go_wp2_with fail
          refine (lately_py zH (by omega)).mono ?_
          rintro e wF ⟨va, vn, vc, rfl, cF, fF, ⟨es', hle, zF⟩, frF⟩
          have hAE := Aft.none zF balE hT2E (Nat.le_trans hle hlenE) hNE (BH.trans frF.blw)
          clear zF zH cH frF
          go_wp2_with fail
          go_roundw
          case rel => exact ⟨j + 1, _, aE, bE, by omega, rfl, by go_num, hAE⟩
          case measure => simp [intOf]; omega
        case neg =>
          have h8i : ¬ (j : Int) % 8 = 0 := by omega
          by_cases hl : j + 1 = n
          case pos =>
            have hli : (j : Int) + 1 = n := by omega
            go_wp2_with fail
            refine (holds_py zE (by omega)).mono ?_
            rintro e wH ⟨rfl, mH, rfl⟩
            have zH := zE.drewN mH
            have BH : Below base w (wE.drewN mH) := below_drewN BE mH
            have cH : (wE.drewN mH).cell? ⟨yb, 4, none⟩ = some bvE := c4E
            obtain ⟨wH, hwH⟩ : ∃ wH, wE.drewN mH = wH := ⟨_, rfl⟩
            rw [hwH] at zH BH cH ⊢
            clear hwH c4E zE
            go_wp2_with fail
            refine (lately_py zH (by omega)).mono ?_
            rintro e wF ⟨va, vn, vc, rfl, cF, fF, ⟨es', hle, zF⟩, frF⟩
            have hAE := Aft.none zF balE hT2E (Nat.le_trans hle hlenE) hNE (BH.trans frF.blw)
            clear zF zH cH frF
            go_wp2_with fail
            go_roundw
            case rel => exact ⟨j + 1, _, aE, bE, by omega, rfl, by go_num, hAE⟩
            case measure => simp [intOf]; omega
          case neg =>
            have hli : ¬ (j : Int) + 1 = n := by omega
            have hlb : ((j : Int) + 1 == (n : Int)) = false := by simpa using hli
            have hAE := Aft.none zE balE hT2E hlenE hNE BE
            clear zE c4E
            go_wp2_with fail
            go_roundw
            case rel => exact ⟨j + 1, _, aE, bE, by omega, rfl, by go_num, hAE⟩
            case measure => simp [intOf]; omega
      · go_wp2_with fail
        refine (made_all z4 bal hT2 who hq hwq h2j hes (2 : Int) ok' (by omega) (.int .i64 ob) da dn dc bs ka kn kc ks hok3).mono ?_
        rintro e wE ⟨rfl, aE, bE, ⟨⟨TE, bvE, esE, zE, balE, hT2E, hlenE0⟩, BE0⟩⟩
        have hlenE : esE.length ≤ (j + 1) * 1000000 := by omega
        have hNE : 2 * j + 1 ≤ 2 * (j + 1) := by omega
        have BE := B3.trans BE0
        clear l0 l1 l2 l3 l4 l5 m0 m1 z4
        have c4E : wE.cell? ⟨yb, 4, none⟩ = some bvE := zE.cells.2.2.2.2.1
        by_cases h8 : j % 8 = 0
        case pos =>
          have h8i : (j : Int) % 8 = 0 := by omega
          go_wp2_with fail
          refine (holds_py zE (by omega)).mono ?_
          rintro e wH ⟨rfl, mH, rfl⟩
          have zH := zE.drewN mH
          have BH : Below base w (wE.drewN mH) := below_drewN BE mH
          have cH : (wE.drewN mH).cell? ⟨yb, 4, none⟩ = some bvE := c4E
          obtain ⟨wH, hwH⟩ : ∃ wH, wE.drewN mH = wH := ⟨_, rfl⟩
          rw [hwH] at zH BH cH ⊢
          clear hwH c4E zE
          go_wp2_with fail
          refine (lately_py zH (by omega)).mono ?_
          rintro e wF ⟨va, vn, vc, rfl, cF, fF, ⟨es', hle, zF⟩, frF⟩
          have hAE := Aft.none zF balE hT2E (Nat.le_trans hle hlenE) hNE (BH.trans frF.blw)
          clear zF zH cH frF
          go_wp2_with fail
          go_roundw
          case rel => exact ⟨j + 1, _, aE, bE, by omega, rfl, by go_num, hAE⟩
          case measure => simp [intOf]; omega
        case neg =>
          have h8i : ¬ (j : Int) % 8 = 0 := by omega
          by_cases hl : j + 1 = n
          case pos =>
            have hli : (j : Int) + 1 = n := by omega
            go_wp2_with fail
            refine (holds_py zE (by omega)).mono ?_
            rintro e wH ⟨rfl, mH, rfl⟩
            have zH := zE.drewN mH
            have BH : Below base w (wE.drewN mH) := below_drewN BE mH
            have cH : (wE.drewN mH).cell? ⟨yb, 4, none⟩ = some bvE := c4E
            obtain ⟨wH, hwH⟩ : ∃ wH, wE.drewN mH = wH := ⟨_, rfl⟩
            rw [hwH] at zH BH cH ⊢
            clear hwH c4E zE
            go_wp2_with fail
            refine (lately_py zH (by omega)).mono ?_
            rintro e wF ⟨va, vn, vc, rfl, cF, fF, ⟨es', hle, zF⟩, frF⟩
            have hAE := Aft.none zF balE hT2E (Nat.le_trans hle hlenE) hNE (BH.trans frF.blw)
            clear zF zH cH frF
            go_wp2_with fail
            go_roundw
            case rel => exact ⟨j + 1, _, aE, bE, by omega, rfl, by go_num, hAE⟩
            case measure => simp [intOf]; omega
          case neg =>
            have hli : ¬ (j : Int) + 1 = n := by omega
            have hlb : ((j : Int) + 1 == (n : Int)) = false := by simpa using hli
            have hAE := Aft.none zE balE hT2E hlenE hNE BE
            clear zE c4E
            go_wp2_with fail
            go_roundw
            case rel => exact ⟨j + 1, _, aE, bE, by omega, rfl, by go_num, hAE⟩
            case measure => simp [intOf]; omega
      · go_wp2_with fail
        refine (made_all z4 bal hT2 who hq hwq h2j hes (10 : Int) ok' (by omega) (.int .i64 ob) da dn dc bs ka kn kc ks hok3).mono ?_
        rintro e wE ⟨rfl, aE, bE, ⟨⟨TE, bvE, esE, zE, balE, hT2E, hlenE0⟩, BE0⟩⟩
        have hlenE : esE.length ≤ (j + 1) * 1000000 := by omega
        have hNE : 2 * j + 1 ≤ 2 * (j + 1) := by omega
        have BE := B3.trans BE0
        clear l0 l1 l2 l3 l4 l5 m0 m1 z4
        have c4E : wE.cell? ⟨yb, 4, none⟩ = some bvE := zE.cells.2.2.2.2.1
        by_cases h8 : j % 8 = 0
        case pos =>
          have h8i : (j : Int) % 8 = 0 := by omega
          go_wp2_with fail
          refine (holds_py zE (by omega)).mono ?_
          rintro e wH ⟨rfl, mH, rfl⟩
          have zH := zE.drewN mH
          have BH : Below base w (wE.drewN mH) := below_drewN BE mH
          have cH : (wE.drewN mH).cell? ⟨yb, 4, none⟩ = some bvE := c4E
          obtain ⟨wH, hwH⟩ : ∃ wH, wE.drewN mH = wH := ⟨_, rfl⟩
          rw [hwH] at zH BH cH ⊢
          clear hwH c4E zE
          go_wp2_with fail
          refine (lately_py zH (by omega)).mono ?_
          rintro e wF ⟨va, vn, vc, rfl, cF, fF, ⟨es', hle, zF⟩, frF⟩
          have hAE := Aft.none zF balE hT2E (Nat.le_trans hle hlenE) hNE (BH.trans frF.blw)
          clear zF zH cH frF
          go_wp2_with fail
          go_roundw
          case rel => exact ⟨j + 1, _, aE, bE, by omega, rfl, by go_num, hAE⟩
          case measure => simp [intOf]; omega
        case neg =>
          have h8i : ¬ (j : Int) % 8 = 0 := by omega
          by_cases hl : j + 1 = n
          case pos =>
            have hli : (j : Int) + 1 = n := by omega
            go_wp2_with fail
            refine (holds_py zE (by omega)).mono ?_
            rintro e wH ⟨rfl, mH, rfl⟩
            have zH := zE.drewN mH
            have BH : Below base w (wE.drewN mH) := below_drewN BE mH
            have cH : (wE.drewN mH).cell? ⟨yb, 4, none⟩ = some bvE := c4E
            obtain ⟨wH, hwH⟩ : ∃ wH, wE.drewN mH = wH := ⟨_, rfl⟩
            rw [hwH] at zH BH cH ⊢
            clear hwH c4E zE
            go_wp2_with fail
            refine (lately_py zH (by omega)).mono ?_
            rintro e wF ⟨va, vn, vc, rfl, cF, fF, ⟨es', hle, zF⟩, frF⟩
            have hAE := Aft.none zF balE hT2E (Nat.le_trans hle hlenE) hNE (BH.trans frF.blw)
            clear zF zH cH frF
            go_wp2_with fail
            go_roundw
            case rel => exact ⟨j + 1, _, aE, bE, by omega, rfl, by go_num, hAE⟩
            case measure => simp [intOf]; omega
          case neg =>
            have hli : ¬ (j : Int) + 1 = n := by omega
            have hlb : ((j : Int) + 1 == (n : Int)) = false := by simpa using hli
            have hAE := Aft.none zE balE hT2E hlenE hNE BE
            clear zE c4E
            go_wp2_with fail
            go_roundw
            case rel => exact ⟨j + 1, _, aE, bE, by omega, rfl, by go_num, hAE⟩
            case measure => simp [intOf]; omega
    · have n1 : ¬ kind = 1 := fun e => hk (Or.inl e)
      have n2 : ¬ kind = 2 := fun e => hk (Or.inr (Or.inl e))
      have n10 : ¬ kind = 10 := fun e => hk (Or.inr (Or.inr e))
      have e1 : (kind == 1) = false := by simpa using n1
      have e2 : (kind == 2) = false := by simpa using n2
      have e10 : (kind == 10) = false := by simpa using n10
      clear hk n1 n2 n10
      cases ht : T q with
      | none =>
        obtain rfl : pa = none := by have := (z4.nil (by omega) ht).1; rw [epa'] at this; cases this; rfl
        obtain ⟨wE, hwE⟩ : ∃ wE, X = wE := ⟨_, rfl⟩
        subst hwE
        obtain ⟨aE, haE⟩ : ∃ aE, aE = a4 := ⟨_, rfl⟩
        subst haE
        obtain ⟨bE, hbE⟩ : ∃ bE, bE = b4 := ⟨_, rfl⟩
        subst hbE
        obtain ⟨bvE, hvE⟩ : ∃ bvE, bvE = bv := ⟨_, rfl⟩
        subst hvE
        have zE := z4
        have balE := bal
        have hT2E := hT2
        have hlenE : es.length ≤ (j + 1) * 1000000 := Nat.le_trans hlen (Nat.mul_le_mul_right _ (Nat.le_succ j))
        have hNE : 2 * j ≤ 2 * (j + 1) := by omega
        have BE := B3
        clear l1 l2 l3 l4 l5 m1 z4
        have c4E : X.cell? ⟨yb, 4, none⟩ = some bvE := zE.cells.2.2.2.2.1
        by_cases h8 : j % 8 = 0
        case pos =>
          have h8i : (j : Int) % 8 = 0 := by omega
          go_wp2_with fail
          refine (holds_py zE (by omega)).mono ?_
          rintro e wH ⟨rfl, mH, rfl⟩
          have zH := zE.drewN mH
          have BH : Below base w (X.drewN mH) := below_drewN BE mH
          have cH : (X.drewN mH).cell? ⟨yb, 4, none⟩ = some bvE := c4E
          obtain ⟨wH, hwH⟩ : ∃ wH, X.drewN mH = wH := ⟨_, rfl⟩
          rw [hwH] at zH BH cH ⊢
          clear hwH c4E zE
          go_wp2_with fail
          refine (lately_py zH (by omega)).mono ?_
          rintro e wF ⟨va, vn, vc, rfl, cF, fF, ⟨es', hle, zF⟩, frF⟩
          have hAE := Aft.none zF balE hT2E (Nat.le_trans hle hlenE) hNE (BH.trans frF.blw)
          clear zF zH cH frF
          go_wp2_with fail
          go_roundw
          case rel => exact ⟨j + 1, _, aE, bE, by omega, rfl, by go_num, hAE⟩
          case measure => simp [intOf]; omega
        case neg =>
          have h8i : ¬ (j : Int) % 8 = 0 := by omega
          by_cases hl : j + 1 = n
          case pos =>
            have hli : (j : Int) + 1 = n := by omega
            go_wp2_with fail
            refine (holds_py zE (by omega)).mono ?_
            rintro e wH ⟨rfl, mH, rfl⟩
            have zH := zE.drewN mH
            have BH : Below base w (X.drewN mH) := below_drewN BE mH
            have cH : (X.drewN mH).cell? ⟨yb, 4, none⟩ = some bvE := c4E
            obtain ⟨wH, hwH⟩ : ∃ wH, X.drewN mH = wH := ⟨_, rfl⟩
            rw [hwH] at zH BH cH ⊢
            clear hwH c4E zE
            go_wp2_with fail
            refine (lately_py zH (by omega)).mono ?_
            rintro e wF ⟨va, vn, vc, rfl, cF, fF, ⟨es', hle, zF⟩, frF⟩
            have hAE := Aft.none zF balE hT2E (Nat.le_trans hle hlenE) hNE (BH.trans frF.blw)
            clear zF zH cH frF
            go_wp2_with fail
            go_roundw
            case rel => exact ⟨j + 1, _, aE, bE, by omega, rfl, by go_num, hAE⟩
            case measure => simp [intOf]; omega
          case neg =>
            have hli : ¬ (j : Int) + 1 = n := by omega
            have hlb : ((j : Int) + 1 == (n : Int)) = false := by simpa using hli
            have hAE := Aft.none zE balE hT2E hlenE hNE BE
            clear zE c4E
            go_wp2_with fail
            go_roundw
            case rel => exact ⟨j + 1, _, aE, bE, by omega, rfl, by go_num, hAE⟩
            case measure => simp [intOf]; omega
      | some t =>
        obtain ⟨ea, eb, _⟩ := z4.two (by omega) ht
        rw [epa'] at ea
        rw [epb'] at eb
        cases ea
        cases eb
        go_wp2_with fail
        refine (looked_all z4 bal hT2 hq ht h2j hes kind ob (.int .i64 who) (.int .i64 ok') (.slice da dn dc) (.slice ka kn kc)).mono ?_
        rintro e w5 ⟨rfl, ⟨⟨T5, bv5, es5, z5, bal5, hT25, hlen5⟩, B50⟩⟩
        have hb5 := z5.lent aO cO
        have hp5 := z5.lent aP cP
        have B5 := B3.trans B50
        have hok5 := hok0.below B5
        have l0' : w5.cell? ⟨Bo, 0, none⟩ = some (.int .i64 kind) := by simp [World.cell?, hb5]
        have l1' : w5.cell? ⟨Bo, 1, none⟩ = some (.int .i64 who) := by simp [World.cell?, hb5]
        have l2' : w5.cell? ⟨Bo, 2, none⟩ = some (.int .i64 ob) := by simp [World.cell?, hb5]
        have l3' : w5.cell? ⟨Bo, 3, none⟩ = some (.int .i64 ok') := by simp [World.cell?, hb5]
        have l4' : w5.cell? ⟨Bo, 4, none⟩ = some (.slice da dn dc) := by simp [World.cell?, hb5]
        have l5' : w5.cell? ⟨Bo, 5, none⟩ = some (.slice ka kn kc) := by simp [World.cell?, hb5]
        have m0' : w5.cell? ⟨Bp, 0, none⟩ = some (.pointer (some ⟨t.db, 0, none⟩)) := by simp [World.cell?, hp5]
        have m1' : w5.cell? ⟨Bp, 1, none⟩ = some (.pointer (some ⟨t.rb, 0, none⟩)) := by simp [World.cell?, hp5]
        obtain ⟨t5, ht5, et1, et2⟩ : ∃ t5, T5 q = some t5 ∧ t5.db = t.db ∧ t5.rb = t.rb := by
          cases h5 : T5 q with
          | none =>
            have := (z5.nil (by omega) h5).1
            rw [epa'] at this
            cases this
          | some t5 =>
            obtain ⟨x1, x2, _⟩ := z5.two (by omega) h5
            rw [epa'] at x1
            rw [epb'] at x2
            refine ⟨t5, rfl, ?_, ?_⟩
            · have := congrArg (fun v => match v with | Value.pointer (some ad) => ad.block | _ => 0) x1
              exact this.symm
            · have := congrArg (fun v => match v with | Value.pointer (some ad) => ad.block | _ => 0) x2
              exact this.symm
        have HD := done_all z5 bal5 hT25 hq ht5 (by omega) (by omega) kind ob ok' hkk (.int .i64 who) da dn dc bs ka kn kc ks hok5
        rw [et1, et2] at HD
        clear l0 l1 l2 l3 l4 l5 m0 m1 z4 z5 hb5 hp5
        go_wp2_with fail
        refine HD.mono ?_
        rintro e wE ⟨rfl, ⟨⟨TE, bvE, esE, zE, balE, hT2E, hlenE0⟩, BE0⟩⟩
        obtain ⟨aE, haE⟩ : ∃ aE, aE = a4 := ⟨_, rfl⟩
        subst haE
        obtain ⟨bE, hbE⟩ : ∃ bE, bE = b4 := ⟨_, rfl⟩
        subst hbE
        have hlenE : esE.length ≤ (j + 1) * 1000000 := by omega
        have hNE : 2 * j + 1 + 1 ≤ 2 * (j + 1) := by omega
        have BE := B5.trans BE0
        clear l0' l1' l2' l3' l4' l5' m0' m1' HD
        have c4E : wE.cell? ⟨yb, 4, none⟩ = some bvE := zE.cells.2.2.2.2.1
        by_cases h8 : j % 8 = 0
        case pos =>
          have h8i : (j : Int) % 8 = 0 := by omega
          go_wp2_with fail
          refine (holds_py zE (by omega)).mono ?_
          rintro e wH ⟨rfl, mH, rfl⟩
          have zH := zE.drewN mH
          have BH : Below base w (wE.drewN mH) := below_drewN BE mH
          have cH : (wE.drewN mH).cell? ⟨yb, 4, none⟩ = some bvE := c4E
          obtain ⟨wH, hwH⟩ : ∃ wH, wE.drewN mH = wH := ⟨_, rfl⟩
          rw [hwH] at zH BH cH ⊢
          clear hwH c4E zE
          go_wp2_with fail
          refine (lately_py zH (by omega)).mono ?_
          rintro e wF ⟨va, vn, vc, rfl, cF, fF, ⟨es', hle, zF⟩, frF⟩
          have hAE := Aft.none zF balE hT2E (Nat.le_trans hle hlenE) hNE (BH.trans frF.blw)
          clear zF zH cH frF
          go_wp2_with fail
          go_roundw
          case rel => exact ⟨j + 1, _, aE, bE, by omega, rfl, by go_num, hAE⟩
          case measure => simp [intOf]; omega
        case neg =>
          have h8i : ¬ (j : Int) % 8 = 0 := by omega
          by_cases hl : j + 1 = n
          case pos =>
            have hli : (j : Int) + 1 = n := by omega
            go_wp2_with fail
            refine (holds_py zE (by omega)).mono ?_
            rintro e wH ⟨rfl, mH, rfl⟩
            have zH := zE.drewN mH
            have BH : Below base w (wE.drewN mH) := below_drewN BE mH
            have cH : (wE.drewN mH).cell? ⟨yb, 4, none⟩ = some bvE := c4E
            obtain ⟨wH, hwH⟩ : ∃ wH, wE.drewN mH = wH := ⟨_, rfl⟩
            rw [hwH] at zH BH cH ⊢
            clear hwH c4E zE
            go_wp2_with fail
            refine (lately_py zH (by omega)).mono ?_
            rintro e wF ⟨va, vn, vc, rfl, cF, fF, ⟨es', hle, zF⟩, frF⟩
            have hAE := Aft.none zF balE hT2E (Nat.le_trans hle hlenE) hNE (BH.trans frF.blw)
            clear zF zH cH frF
            go_wp2_with fail
            go_roundw
            case rel => exact ⟨j + 1, _, aE, bE, by omega, rfl, by go_num, hAE⟩
            case measure => simp [intOf]; omega
          case neg =>
            have hli : ¬ (j : Int) + 1 = n := by omega
            have hlb : ((j : Int) + 1 == (n : Int)) = false := by simpa using hli
            have hAE := Aft.none zE balE hT2E hlenE hNE BE
            clear zE c4E
            go_wp2_with fail
            go_roundw
            case rel => exact ⟨j + 1, _, aE, bE, by omega, rfl, by go_num, hAE⟩
            case measure => simp [intOf]; omega
end Go.Proofs.Ytejfbjjhnhlagaa
