/-
  The contract of pick, and the walk of the law Calendar.
-/
import Derived.Test.YtgfncgnhhkmopaaDoorCivD
import Derived.Test.YtgfncgnhhkmopaaDoorCalNext
namespace Go.Proofs.YtgfncgnhhkmopaaDoor
open Go.RowKit Cal

def pk (c n : Int) : Int := if c < 0 then (-(c + 1)) % n else c % n
theorem pk_bd {c n : Int} (h : 1 ≤ n) : 0 ≤ pk c n ∧ pk c n < n := by
  unfold pk; split
  · exact ⟨Int.emod_nonneg _ (by omega), Int.emod_lt_of_pos _ (by omega)⟩
  · exact ⟨Int.emod_nonneg _ (by omega), Int.emod_lt_of_pos _ (by omega)⟩

theorem pick_any (c n : Int) (w : World) (h1 : -9223372036854775807 ≤ c + 1) (h2 : c ≤ 9223372036854775807) (h3 : 1 ≤ n) (h4 : n ≤ 1000000) :
    Calls Tryd.prog 11 #[.int .i64 c, .int .i64 n] w fun e w' => e = .returned (.int .i64 (pk c n)) ∧ w' = w := by
  by_cases hc : c < 0
  · have e : pk c n = (-(c + 1)) % n := by simp [pk, hc]
    rw [e]; clear e
    go_enter Tryd.func11, Tryd.ntmps11
    go_wp2
    go_ret
    exact ⟨ret_int (by rw [← Int.neg_tmod, Int.tmod_eq_emod_of_nonneg (by omega)]), rfl⟩
  · have e : pk c n = c % n := by simp [pk, hc]
    rw [e]; clear e
    go_enter Tryd.func11, Tryd.ntmps11
    go_wp2
    go_ret
    exact ⟨rfl, rfl⟩

end Go.Proofs.YtgfncgnhhkmopaaDoor
