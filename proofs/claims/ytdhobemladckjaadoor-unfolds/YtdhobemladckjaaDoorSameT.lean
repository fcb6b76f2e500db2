/- The law's harness: sameTexts; the reference's Unfold at any text. -/
import Derived.Test.YtdhobemladckjaaDoorRefU
import Derived.Test.YtdhobemladckjaaDoorLnA
namespace Go.Proofs.YtdhobemladckjaaDoor
open Go.RowKit
set_option linter.unusedVariables false

set_option maxRecDepth 100000 in
set_option maxHeartbeats 2000000 in
theorem same_any (xa xb : Option Addr) (g g' cap cap' : Nat) (ms : List ByteArray) (w : World) (h : Sl w xa g ms) (h' : Sl w xb g' ms) (hn : ms.length ≤ 4000) :
    Calls Tryd.prog 8 #[.slice xa ms.length cap, .slice xb ms.length cap'] w fun e w' => e = .returned (.bool true) ∧ ∃ n, w' = w.drewN n := by
  have hn' : (ms.length : Int) ≤ 4000 := by omega
  go_enter Tryd.func8, Tryd.ntmps8
  go_wp2
  go_loopw [5] (fun i wr => ∃ k c : Nat, k ≤ ms.length ∧ i = .int .i64 k ∧ wr = w.drewN c) (fun i _ => ms.length - (intOf i).toNat)
  case atStart => exact ⟨0, 0, Nat.zero_le _, rfl, rfl⟩
  case round =>
    obtain ⟨k, c, hk, rfl, rfl⟩ := hrel
    by_cases hlt : k < ms.length
    · have hlt' : (k : Int) < ms.length := by omega
      obtain rfl := h.at' (by omega)
      obtain rfl := h'.at' (by omega)
      have hc1 := h.cell k hlt
      have hc2 := h'.cell k hlt
      rw [Nat.zero_add] at hc1 hc2
      generalize ms[k] = S at *
      go_wp2
      go_quiet (fail)
      go_wp2
      go_roundw
      case rel => go_light; exact ⟨k + 1, _, by omega, by go_num, rfl⟩
      case measure => go_light; simp [intOf]; omega
    · go_wp2
      go_ret
      exact ⟨rfl, c, rfl⟩

set_option maxRecDepth 100000 in
set_option maxHeartbeats 2000000 in
theorem rUnfold_any (s : ByteArray) (w : World) (hs : s.size ≤ maxLen) :
    Calls Tryd.prog 7 #[.string s] w fun e w' => Below w.heap.size w w' ∧
      ((unBad s.data.toList = true ∧ e = .returned (.tuple #[.slice none 0 0, .int .i64 2, .int .i64 (unN s.data.toList)])) ∨
       (unBad s.data.toList = false ∧ ∃ (v : Value) (ms : List ByteArray), e = .returned (.tuple #[v, .int .i64 0, .int .i64 0]) ∧ lns ms = (un 1 [] s.data.toList).2 ∧ w'.ownsRow w.heap.size 9 1 v ms.length (ms.map Value.string))) := by
  have hlen := len_data s
  by_cases hl : (4000 : Int) < s.size
  · have HB : Hid (unBad s.data.toList = true) := by show _ = _; unfold unBad; rw [hlen, decide_eq_true (by omega)]; rfl
    have HN : Hid (unN s.data.toList = 0) := by show _ = _; unfold unN; rw [hlen, if_pos (by omega)]
    clear hlen
    unfold maxLen at hs
    go_enter Tryd.func7, Tryd.ntmps7
    go_wp2
    go_ret3
    exact ⟨Below.refl _ _, .inl ⟨HB.out, by rw [HN.out]; rfl⟩⟩
  · have hN1 : unN s.data.toList = (un 1 [] s.data.toList).1 := by unfold unN; rw [hlen, if_neg (by omega)]
    have hB1 : unBad s.data.toList = decide ((un 1 [] s.data.toList).1 ≠ 0) := by unfold unBad; rw [hlen, decide_eq_false (by omega), Bool.false_or]
    rw [hN1, hB1]
    refine (rUnfold_short s w (by omega)).mono ?_
    rintro e w' ⟨h1, h2⟩
    refine ⟨h1, ?_⟩
    rcases h2 with ⟨h, rfl⟩ | ⟨h, h3⟩
    · exact .inl ⟨decide_eq_true h, rfl⟩
    · exact .inr ⟨decide_eq_false (by simpa using h), h3⟩
end Go.Proofs.YtdhobemladckjaaDoor
