/-
  The walk of the law Calendar.
-/
import Derived.Test.YtgfncgnhhkmopaaDoorCalW1
import Derived.Test.YtgfncgnhhkmopaaDoorCalW2
import Derived.Test.YtgfncgnhhkmopaaDoorCalW3
namespace Go.Proofs.YtgfncgnhhkmopaaDoor
open Go.RowKit Cal

theorem calendar_core (c f n k y m d y2 m2 d2 a b p q : Int) (w : World) (HT : Hid (Tab w))
    (c1 : -9223372036854775807 ≤ c + 1) (c2 : c ≤ 9223372036854775807) (f1 : -9223372036854775807 ≤ f + 1) (f2 : f ≤ 9223372036854775807)
    (P1 : pk c 109570 = n + 25567) (P2 : pk f 7 = k)
    (D1 : dY n = y) (D2 : dM n = m) (D3 : dD n = d) (D4 : dE n = 0) (F1 : dY (n + 1) = y2) (F2 : dM (n + 1) = m2) (F3 : dD (n + 1) = d2) (F4 : dE (n + 1) = 0)
    (N1 : numV y m d = n) (N2 : numE y m d = 0)
    (W1 : wY n k = a) (W2 : wW n k = b) (W3 : wE n k = 0) (V1 : wY (n + 1) k = p) (V2 : wW (n + 1) k = q) (V3 : wE (n + 1) k = 0)
    (h1 : -25567 ≤ n) (h2 : n ≤ 84004) (k1 : 0 ≤ k) (k2 : k ≤ 6)
    (y1 : 1900 ≤ y) (y3 : y ≤ 2199) (m1 : 1 ≤ m) (m3 : m ≤ 12) (d1 : 1 ≤ d) (d3 : d ≤ 31) (b1 : 1 ≤ b) (b2 : b ≤ 53) (a1 : 1899 ≤ a) (a2 : a ≤ 2200)
    (nx : (y2 = y ∧ m2 = m ∧ d2 = d + 1) ∨ (y2 = y ∧ m2 = m + 1 ∧ d2 = 1 ∧ 28 ≤ d) ∨ (y2 = y + 1 ∧ m2 = 1 ∧ d2 = 1 ∧ 28 ≤ d ∧ m = 12))
    (wx : ((n + 1 + 3 - k).tmod 7 ≠ 0 ∧ p = a ∧ q = b) ∨ ((n + 1 + 3 - k).tmod 7 = 0 ∧ p = a ∧ q = b + 1) ∨ ((n + 1 + 3 - k).tmod 7 = 0 ∧ p = a + 1 ∧ q = 1 ∧ 52 ≤ b)) :
    Calls Tryd.prog 4 #[.int .i64 c, .int .i64 f] w fun e w' => e = .returned (.bool true) ∧ Below w.heap.size w w' := by
  rcases nx with h | h | h
  · exact calendar_core1 c f n k y m d y2 m2 d2 a b p q w HT c1 c2 f1 f2 P1 P2 D1 D2 D3 D4 F1 F2 F3 F4 N1 N2 W1 W2 W3 V1 V2 V3 h1 h2 k1 k2 y1 y3 m1 m3 d1 d3 b1 b2 a1 a2 h wx
  · exact calendar_core2 c f n k y m d y2 m2 d2 a b p q w HT c1 c2 f1 f2 P1 P2 D1 D2 D3 D4 F1 F2 F3 F4 N1 N2 W1 W2 W3 V1 V2 V3 h1 h2 k1 k2 y1 y3 m1 m3 d1 d3 b1 b2 a1 a2 h wx
  · exact calendar_core3 c f n k y m d y2 m2 d2 a b p q w HT c1 c2 f1 f2 P1 P2 D1 D2 D3 D4 F1 F2 F3 F4 N1 N2 W1 W2 W3 V1 V2 V3 h1 h2 k1 k2 y1 y3 m1 m3 d1 d3 b1 b2 a1 a2 h wx

theorem calendar_walk (c f : Int) (w : World) (ht : Tab w) (c1 : -9223372036854775807 ≤ c + 1) (c2 : c ≤ 9223372036854775807) (f1 : -9223372036854775807 ≤ f + 1) (f2 : f ≤ 9223372036854775807) :
    Calls Tryd.prog 4 #[.int .i64 c, .int .i64 f] w fun e w' => e = .returned (.bool true) ∧ Below w.heap.size w w' := by
  have hn := pk_bd (c := c) (n := 109570) (by omega)
  have hk := pk_bd (c := f) (n := 7) (by omega)
  have g1 : -25567 ≤ pk c 109570 - 25567 := by omega
  have g2 : pk c 109570 - 25567 + 1 ≤ 84005 := by omega
  have d1 := day_mk g1 (by omega)
  have d2 := day_mk (n := pk c 109570 - 25567 + 1) (by omega) g2
  obtain ⟨a1, a2, _⟩ := date_back d1
  obtain ⟨v1, v2, v3, v4, v5, v6⟩ := vld_get a1
  have db := dim_bd (dY (pk c 109570 - 25567)) (dM (pk c 109570 - 25567))
  obtain ⟨w1, w2, w3, w4, w5⟩ := week_bd (n := pk c 109570 - 25567) (f := pk f 7) g1 (by omega) hk.1 (by omega)
  obtain ⟨_, _, x3, _, _⟩ := week_bd (n := pk c 109570 - 25567 + 1) (f := pk f 7) (by omega) g2 hk.1 (by omega)
  refine calendar_core c f (pk c 109570 - 25567) (pk f 7) _ _ _ _ _ _ _ _ _ _ w ht c1 c2 f1 f2 (by omega) rfl rfl rfl rfl (day_is d1).2.2.2 rfl rfl rfl (day_is d2).2.2.2
    (by rw [numV_yes a1]; exact a2) (numE_yes a1) rfl rfl w3 rfl rfl x3 g1 (by omega) hk.1 (by omega) v1 v2 v3 v4 v5 (by omega) w1 w2 w4 w5 (date_next g1 g2) ?_
  rcases week_next (n := pk c 109570 - 25567) (f := pk f 7) g1 g2 hk.1 (by omega) with ⟨t, h⟩ | ⟨t, h⟩ | ⟨t, h⟩
  · exact .inl ⟨tm_nonzero t, h⟩
  · exact .inr (.inl ⟨tm_zero t, h⟩)
  · exact .inr (.inr ⟨tm_zero t, h⟩)
end Go.Proofs.YtgfncgnhhkmopaaDoor
