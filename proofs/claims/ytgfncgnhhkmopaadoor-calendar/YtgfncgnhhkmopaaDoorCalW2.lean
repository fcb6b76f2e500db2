/-
  The walk of the law Calendar, a part.
-/
import Derived.Test.YtgfncgnhhkmopaaDoorCalW0
namespace Go.Proofs.YtgfncgnhhkmopaaDoor
open Go.RowKit Cal

set_option maxRecDepth 100000 in
set_option maxHeartbeats 8000000 in
theorem calendar_core2 (c f n k y m d y2 m2 d2 a b p q : Int) (w : World) (HT : Hid (Tab w))
    (c1 : -9223372036854775807 ≤ c + 1) (c2 : c ≤ 9223372036854775807) (f1 : -9223372036854775807 ≤ f + 1) (f2 : f ≤ 9223372036854775807)
    (P1 : pk c 109570 = n + 25567) (P2 : pk f 7 = k)
    (D1 : dY n = y) (D2 : dM n = m) (D3 : dD n = d) (D4 : dE n = 0) (F1 : dY (n + 1) = y2) (F2 : dM (n + 1) = m2) (F3 : dD (n + 1) = d2) (F4 : dE (n + 1) = 0)
    (N1 : numV y m d = n) (N2 : numE y m d = 0)
    (W1 : wY n k = a) (W2 : wW n k = b) (W3 : wE n k = 0) (V1 : wY (n + 1) k = p) (V2 : wW (n + 1) k = q) (V3 : wE (n + 1) k = 0)
    (h1 : -25567 ≤ n) (h2 : n ≤ 84004) (k1 : 0 ≤ k) (k2 : k ≤ 6)
    (y1 : 1900 ≤ y) (y3 : y ≤ 2199) (m1 : 1 ≤ m) (m3 : m ≤ 12) (d1 : 1 ≤ d) (d3 : d ≤ 31) (b1 : 1 ≤ b) (b2 : b ≤ 53) (a1 : 1899 ≤ a) (a2 : a ≤ 2200)
    (nx : (y2 = y ∧ m2 = m + 1 ∧ d2 = 1 ∧ 28 ≤ d))
    (wx : ((n + 1 + 3 - k).tmod 7 ≠ 0 ∧ p = a ∧ q = b) ∨ ((n + 1 + 3 - k).tmod 7 = 0 ∧ p = a ∧ q = b + 1) ∨ ((n + 1 + 3 - k).tmod 7 = 0 ∧ p = a + 1 ∧ q = 1 ∧ 52 ≤ b)) :
    Calls Tryd.prog 4 #[.int .i64 c, .int .i64 f] w fun e w' => e = .returned (.bool true) ∧ Below w.heap.size w w' := by
  obtain ⟨rfl, rfl, rfl, x1⟩ := nx
  rcases wx with ⟨t, rfl, rfl⟩ | ⟨t, rfl, rfl⟩ | ⟨t, rfl, rfl, u⟩
  all_goals
    go_enter Tryd.func4, Tryd.ntmps4
    go_wp2_with (go_at_call 11; refine (pick_any _ _ _ (by omega) (by omega) (by omega) (by omega)).mono ?_; rintro e w' ⟨rfl, rfl⟩)
    refine (date_any _ _ HT.out).mono ?_
    rintro e w1 ⟨rfl, hb1⟩
    have HT1 : Hid (Tab w1) := HT.out.below hb1
    go_wp2_with (go_at_call 5; refine (number_any _ _ _ _ HT1.out).mono ?_; rintro e w' ⟨rfl, rfl⟩)
    refine (date_any _ _ HT1.out).mono ?_
    rintro e w2 ⟨rfl, hb2⟩
    have hb3 := hb1.trans (hb2.mono hb1.size)
    clear hb1 hb2
    go_wp2_with (first | (go_at_call 11; refine (pick_any _ _ _ (by omega) (by omega) (by omega) (by omega)).mono ?_; rintro e w' ⟨rfl, rfl⟩) | (go_at_call 9; refine (week_any _ _ _).mono ?_; rintro e w' ⟨rfl, rfl⟩))
    go_ret
    exact ⟨rfl, hb3⟩

end Go.Proofs.YtgfncgnhhkmopaaDoor
