/- annexlaw21.PlayTexts by its walk. -/
import Derived.Test.YtcpaikladeiifaaPF
namespace Go.Proofs.Ytcpaikladeiifaa
open Go.RowKit
set_option maxRecDepth 100000

theorem text_ab : tx (textT (bs ⟨#[97, 32, 98]⟩)) = ⟨#[34, 97, 32, 98, 34]⟩ := by decide +kernel
set_option maxHeartbeats 1000000 in
theorem playTexts_any (s : ByteArray) (w : World) (hs : s.size ≤ 30000000000000) : Calls Try.prog 3 #[.string s] w fun e w' => e = .returned (.bool true) ∧ Below w.heap.size w w' := by
  have h1 := Text_any s w hs
  have h2 := fun w => RText_any s w hs
  have h3 := fun w => Text_any ⟨#[97, 32, 98]⟩ w (by decide)
  rw [text_ab] at h3
  generalize tx (textT (bs s)) = T at h1 h2
  go_enter Try.func3, Try.ntmps3
  go_wp2_with fail
  refine h1.mono ?_
  rintro e w1 ⟨rfl, b1⟩
  clear h1
  go_wp2_with fail
  refine (h2 w1).mono ?_
  rintro e w2 ⟨rfl, b2⟩
  clear h2
  have hTT : (T.toList == T.toList) = true := by simp
  have b12 : Below w.heap.size w w2 := b1.trans (b2.mono b1.size)
  clear b1 b2
  go_wp2_with fail
  refine (h3 w2).mono ?_
  rintro e w3 ⟨rfl, b3⟩
  clear h3
  have b13 : Below w.heap.size w w3 := b12.trans (b3.mono b12.size)
  clear b12 b3
  go_wp2_with fail
  go_ret
  exact ⟨rfl, b13⟩
end Go.Proofs.Ytcpaikladeiifaa
