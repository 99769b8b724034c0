/- A slice that may begin in the middle of its block: append, and what else the book wants. -/
import Derived.Test.YtpbanjgjljdepaaK2
import Derived.Test.YtpbanjgjljdepaaSplit
namespace Go.Proofs.Ytpbanjgjljdepaa
open Go.RowKit Go.Maps
set_option maxRecDepth 100000

/-- The slice's elements: xs; its block is all cells of one type. -/
def Tl (w : World) (T : TypeId) (s : Nat) (v : Value) (n : Nat) (xs : List Value) : Prop :=
  xs.length = n * s ∧ ((v = .slice none 0 0 ∧ n = 0) ∨
    ∃ g off cap cur, v = .slice (some ⟨g, off, none⟩) n cap ∧ w.heap[g]? = some (.cells cur T (0, 0)) ∧ n ≤ cap ∧ cap ≤ maxLen ∧ off + cap * s = cur.size ∧ (cur.toList.drop off).take (n * s) = xs)
theorem Tl.of {w : World} {base s n : Nat} {T : TypeId} {v : Value} {xs : List Value} (h : w.ownsRow base T s v n xs) : Tl w T s v n xs :=
  ⟨h.1, h.2.imp id fun ⟨g, cap, cur, h1, _, h3, h4, h5, h6, h7⟩ => ⟨g, 0, cap, cur, h1, h3, h4, h5, by omega, by simpa using h7⟩⟩
theorem tl_lt {w : World} {s n : Nat} {T : TypeId} {v : Value} {xs : List Value} (h : Tl w T s v n xs) {b : Nat} (hb : v.ownBlock = some b) : b < w.heap.size := by
  rcases h.2 with ⟨rfl, _⟩ | ⟨g, off, cap, cur, rfl, hh, _⟩
  · cases hb
  · cases hb; exact heap_lt hh
theorem tl_slice {w : World} {s n : Nat} {T : TypeId} {v : Value} {xs : List Value} (h : Tl w T s v n xs) : ∃ a c, v = .slice a n c := by
  rcases h.2 with ⟨rfl, rfl⟩ | ⟨g, off, cap, cur, rfl, _⟩
  · exact ⟨_, _, rfl⟩
  · exact ⟨_, _, rfl⟩
theorem tl_turns {F : Nat → Prop} {w w' : World} {s n : Nat} {T : TypeId} {v : Value} {xs : List Value} (h : Tl w T s v n xs) (t : Turns F w w') (hF : ∀ b, v.ownBlock = some b → ¬ F b) : Tl w' T s v n xs :=
  ⟨h.1, h.2.imp id fun ⟨g, off, cap, cur, h1, h3, h4⟩ => ⟨g, off, cap, cur, h1, (t.block g (heap_lt h3) (hF g (by rw [h1]; rfl))).trans h3, h4⟩⟩
theorem tl_alloc {w : World} {s n : Nat} {T : TypeId} {v : Value} {xs : List Value} (h : Tl w T s v n xs) (o : Obj) : Tl (w.alloc o) T s v n xs :=
  tl_turns h (Turns.alloc (fun _ => False) w o) (fun _ _ q => q)
theorem tl_typ {w : World} {s n hb t : Nat} {T : TypeId} {v : Value} {xs : List Value} {cs : Array Value} {f : Nat × Nat} (h : Tl w T s v n xs) (hb' : w.heap[hb]? = some (.cells cs t f)) (hne : T ≠ t) : v.ownBlock ≠ some hb := by
  rcases h.2 with ⟨rfl, _⟩ | ⟨g, off, cap, cur, rfl, hh, _⟩
  · intro q; cases q
  · intro q; cases q
    rw [hh] at hb'
    cases hb'
    exact hne rfl
theorem tl_apart {w : World} {b1 e1 s1 s2 n m : Nat} {T : TypeId} {v u : Value} {xs ys : List Value} (h : w.ownsRow b1 e1 s1 v n xs) (k : Tl w T s2 u m ys) (hne : e1 ≠ T) : ∀ b, v.ownBlock = some b → u.ownBlock ≠ some b := fun b hb hu => by
  rcases k.2 with ⟨rfl, _⟩ | ⟨g, off, cap, cur, rfl, hh, _⟩
  · cases hu
  · cases hu
    exact own_typ h hh hne hb
theorem tl_cell {w : World} {s n c g off : Nat} {T : TypeId} {xs : List Value} (h : Tl w T s (.slice (some ⟨g, off, none⟩) n c) n xs) (j : Nat) (hj : j < n * s) : w.cell? ⟨g, off + j, none⟩ = xs[j]? := by
  rcases h.2 with ⟨q, _⟩ | ⟨g', off', cap, cur, q, hh, h1, h2, h3, h4⟩
  · cases q
  · cases q
    rw [← h4, List.getElem?_take, if_pos hj, List.getElem?_drop]
    simp only [World.cell?, hh]
    simp
theorem tl_cells {w : World} {s n c g off : Nat} {T : TypeId} {xs : List Value} (h : Tl w T s (.slice (some ⟨g, off, none⟩) n c) n xs) : ∀ j u, xs[j]? = some u → w.cell? ((⟨g, off, none⟩ : Addr).add j) = some u := fun j u hu => by
  have hj : j < n * s := by rw [← h.1]; exact (List.getElem?_eq_some_iff.1 hu).1
  rw [Addr.add_lit, tl_cell h j hj]; exact hu
theorem tl_some {w : World} {s n : Nat} {T : TypeId} {v : Value} {xs : List Value} (h : Tl w T s v n xs) (hn : 0 < n) : ∃ g off c, v = .slice (some ⟨g, off, none⟩) n c ∧ n ≤ c := by
  rcases h.2 with ⟨_, q⟩ | ⟨g, off, cap, cur, rfl, _, h1, _⟩
  · omega
  · exact ⟨g, off, cap, rfl, h1⟩
/-- Its front is cut off. -/
theorem tl_cut {w : World} {s n c g off : Nat} {T : TypeId} {xs : List Value} (h : Tl w T s (.slice (some ⟨g, off, none⟩) n c) n xs) (q : Nat) (hq : q ≤ n) : Tl w T s (.slice (some ⟨g, off + q * s, none⟩) (n - q) (c - q)) (n - q) (xs.drop (q * s)) := by
  rcases h.2 with ⟨r, _⟩ | ⟨g', off', cap, cur, r, hh, h1, h2, h3, h4⟩
  · cases r
  · cases r
    refine ⟨by rw [List.length_drop, h.1, Nat.sub_mul], Or.inr ⟨g, off + q * s, c - q, cur, rfl, hh, by omega, by omega, ?_, ?_⟩⟩
    · rw [← h3, Nat.sub_mul]
      have : q * s ≤ c * s := Nat.mul_le_mul_right _ (by omega)
      omega
    · rw [← h4, List.drop_take, List.drop_drop, Nat.sub_mul]
section
variable {P : Program} (w : World)
theorem run_append_room_off (t ty e : TypeId) (i : TypeInfo) (ht : P.underlying t = some (.slice e)) (hi : P.info? e = some i)
    (g off sLen sCap : Nat) (cur : Array Value) (hg : w.heap[g]? = some (.cells cur e (0, 0)))
    (a : Addr) (m c : Nat) (news : List Value) (hl : news.length = m * i.size) (hnews : ∀ j u, news[j]? = some u → w.cell? (a.add j) = some u) (h1 : ∀ u ∈ news, u.oneCell' = true)
    (hroom : sLen + m ≤ sCap) (hfit : off + sLen * i.size + news.length ≤ cur.size) :
    (Builtin.append_ #[t, t] ty #[.slice (some ⟨g, off, none⟩) sLen sCap, .slice (some a) m c]).run P w =
      .ok (.slice (some ⟨g, off, none⟩) (sLen + m) sCap) (w.setRow g (cur.toList.take (off + sLen * i.size) ++ news ++ cur.toList.drop (off + sLen * i.size + news.length)).toArray) := by
  have hf := run_firstCells_some (P := P) w i.size m a m c news hl hnews
  have hst := run_storeCells_at P g (off + sLen * i.size) e news 0 cur w hg (by simpa using hfit) h1
  simp only [Nat.add_zero] at hst
  simp [Builtin.append_, run_underlying ht, sizeOf, typeInfo, hi, Builtin.lenOf, hroom, hf, Addr.add_lit, hst]
theorem run_append_tl (t ty e : TypeId) (i : TypeInfo) (z : Value) (size bytes : Nat) (ht : P.underlying t = some (.slice e)) (hi : P.info? e = some i) (hz : i.zero = some z)
    (hsize : i.size = size) (hby : i.bytes = bytes) (hzs : z.cells.size = size) (hsz : 0 < size)
    (v : Value) (n : Nat) (xs : List Value) (hown : Tl w e size v n xs)
    (a : Addr) (m c : Nat) (news : List Value) (hl : news.length = m * size) (hnews : ∀ j u, news[j]? = some u → w.cell? (a.add j) = some u) (h1 : ∀ u ∈ news, u.oneCell' = true)
    (h63 : n + m ≤ maxLen) (hbytes : (n + m) * bytes ≤ 140737488355328) :
    ∃ v' w', (Builtin.append_ #[t, t] ty #[v, .slice (some a) m c]).run P w = .ok v' w' ∧ Tl w' e size v' (n + m) (xs ++ news) ∧ w.grownBy w' v.ownBlock ∧ (v'.ownBlock = v.ownBlock ∨ v'.ownBlock = some w.heap.size) := by
  rcases hown.2 with ⟨rfl, rfl⟩ | ⟨g, off, cap, cur, rfl, hg, hnc, hcm, hcs, htake⟩
  · have h0 : w.ownsRow w.heap.size e size (.slice none 0 0) 0 xs := ⟨hown.1, Or.inl ⟨rfl, rfl⟩⟩
    obtain ⟨v', w', hr, h2, h3, _, h5⟩ := run_append_own_at (P := P) w w.heap.size t ty e i z size bytes ht hi hz hsize hby hzs hsz _ 0 xs h0 a m c news hl hnews h1 h63 hbytes (Nat.le_refl _)
    exact ⟨v', w', hr, Tl.of h2, h3, h5⟩
  · subst hsize
    subst hby
    have hsmall : n + m ≤ 9223372036854775807 := by simp only [maxLen] at h63; omega
    have hlen : (xs ++ news).length = (n + m) * i.size := by rw [List.length_append, hown.1, hl, Nat.add_mul]
    by_cases hroom : n + m ≤ cap
    · have hle : (n + m) * i.size ≤ cap * i.size := Nat.mul_le_mul_right _ hroom
      rw [Nat.add_mul] at hle
      have hfit : off + n * i.size + news.length ≤ cur.size := by rw [hl]; omega
      have hr := run_append_room_off (P := P) w t ty e i ht hi g off n cap cur hg a m c news hl hnews h1 hroom hfit
      refine ⟨_, _, hr, ⟨hlen, Or.inr ⟨g, off, cap, _, rfl, setRow_heap w g cur _ e _ hg, hroom, hcm, ?_, ?_⟩⟩, ⟨rfl, rfl, rfl, by simp, fun k _ hk => setRow_other w g k _ (fun e => hk (by simp [Value.ownBlock, e]))⟩, Or.inl rfl⟩
      · simp only [List.size_toArray, List.length_append, List.length_take, List.length_drop, Array.length_toList]
        omega
      · have hT : cur.toList.take (off + n * i.size) = cur.toList.take off ++ xs := by
          rw [← htake, List.take_add]
        show ((cur.toList.take (off + n * i.size) ++ news ++ cur.toList.drop (off + n * i.size + news.length)).drop off).take _ = _
        have hol : (cur.toList.take off).length = off := by rw [List.length_take, Array.length_toList]; omega
        rw [hT, List.append_assoc, List.append_assoc, List.drop_left' hol, ← List.append_assoc, ← hlen]
        exact List.take_left
    · have holds := tl_cells hown
      have hr := run_append_grow (P := P) w t ty e i z ht hi hz ⟨g, off, none⟩ n cap xs hown.1 holds a m c news hl hnews (by omega) (by omega) (growslice_fits (by omega) hbytes)
      have hge := grownCap_ge w (n + m) cap e
      have hcm2 : grownCap w (n + m) cap e ≤ maxLen := grownCap_le_maxLen w (n + m) cap e h63
      refine ⟨_, _, hr, ⟨hlen, Or.inr ⟨w.heap.size, 0, _, _, rfl, heap_alloc_new w.drew _, hge, hcm2, ?_, ?_⟩⟩, ⟨rfl, rfl, rfl, by simp, fun k hk _ => Below.heap_alloc w.drew _ k hk⟩, Or.inr rfl⟩
      · simp only [Array.size_append, List.size_toArray, size_zeroCells, hzs, hown.1, hl, ← Nat.add_mul, Nat.zero_add]
        congr 1
        omega
      · simp only [Array.toList_append, List.append_assoc, List.drop_zero]
        rw [← List.append_assoc, ← hlen]
        exact List.take_left
/-- At the operation, for the walk. -/
theorem wpList_append_tl {ops : Array Oper} {rest : List Oper} {o : Oper} {a : Act} {Q : Exit → Act → World → Prop} (hgd : o.guard = none) (s x : Operand) (t : TypeId)
    (ho : o.op = .call { callee := .builtin .append, args := #[s, x], argTypes := #[t, t] })
    (e : TypeId) (i : TypeInfo) (z : Value) (size bytes : Nat) (ht : P.underlying t = some (.slice e)) (hi : P.info? e = some i) (hz : i.zero = some z)
    (hsize : i.size = size) (hby : i.bytes = bytes) (hzs : z.cells.size = size) (hsz : 0 < size)
    (v : Value) (n : Nat) (xs : List Value) (hs : a.eval s = v) (hown : Tl w e size v n xs)
    (ad : Addr) (m c : Nat) (news : List Value) (hx : a.eval x = .slice (some ad) m c) (hl : news.length = m * size) (hnews : ∀ j u, news[j]? = some u → w.cell? (ad.add j) = some u) (h1 : ∀ u ∈ news, u.oneCell' = true)
    (h63 : n + m ≤ maxLen) (hbytes : (n + m) * bytes ≤ 140737488355328)
    (h : ∀ v' w', Tl w' e size v' (n + m) (xs ++ news) → w.grownBy w' v.ownBlock → (v'.ownBlock = v.ownBlock ∨ v'.ownBlock = some w.heap.size) → wpList P ops Q rest (a.put o.dst v') w') :
    wpList P ops Q (o :: rest) a w := by
  refine wpList_plain hgd fun K hK => ?_
  obtain ⟨v', w', hr, h2, h3, h5⟩ := run_append_tl (P := P) w t o.type e i z size bytes ht hi hz hsize hby hzs hsz v n xs hown ad m c news hl hnews h1 h63 hbytes
  unfold Oper.wp execOp
  simp only [ho, resolve, invoke, builtin, Sem.run_bind, Sem.run_pure, Result.andThen_ok, List.map_toArray, List.map_cons, List.map_nil, hs, hx, hr]
  exact hK _ _ (h v' w' h2 h3 h5)
end
end Go.Proofs.Ytpbanjgjljdepaa
