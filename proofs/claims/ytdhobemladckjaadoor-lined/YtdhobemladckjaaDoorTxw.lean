/- Plain mathematics of texts: a line at the front, by Cut and CutSuffix. No program is named. -/
import Derived.Test.YtdhobemladckjaaDoorTxv
import Derived.Lib.CutLaws
import Derived.Lib.Strings
set_option linter.unusedVariables false
namespace Go.Proofs.YtdhobemladckjaaDoor

theorem lf_le (L : List UInt8) : lf L ≤ L.length := List.findIdx_le_length
theorem lf_cons (b : UInt8) (l : List UInt8) : lf (b :: l) = if b = 10 then 0 else lf l + 1 := by
  unfold lf
  rw [List.findIdx_cons]
  by_cases h : b = 10
  · subst h; rfl
  · have : (b == 10) = false := by simpa using h
    rw [this, if_neg h]; rfl
theorem index_lf : ∀ (L : List UInt8), Lib.index L [10] = if lf L < L.length then (lf L : Int) else -1
  | [] => rfl
  | b :: l => by
    have ih := index_lf l
    have hle := lf_le l
    rw [lf_cons]
    unfold Lib.index
    by_cases h : b = 10
    · subst h
      have : ([10] : List UInt8).isPrefixOf (10 :: l) = true := by simp [List.isPrefixOf]
      rw [if_pos this]; simp
    · have : ([10] : List UInt8).isPrefixOf (b :: l) = false := by simp [List.isPrefixOf]; exact fun e => h e.symm
      rw [this, if_neg (by simp), if_neg h, ih]
      by_cases h2 : lf l < l.length
      · have e1 : (((lf l : Int)) == -1) = false := by simp only [beq_eq_false_iff_ne, ne_eq]; omega
        rw [if_pos h2, e1]
        have e2 : lf l + 1 < (b :: l).length := by rw [List.length_cons]; omega
        rw [if_pos e2, if_neg (by simp)]; omega
      · have e2 : ¬ lf l + 1 < (b :: l).length := by rw [List.length_cons]; omega
        rw [if_neg h2, if_neg e2]; rfl
theorem cut_hit (L : List UInt8) (h : lf L < L.length) : Lib.cut L [10] = (L.take (lf L), L.drop (lf L + 1), true) := by
  unfold Lib.cut
  rw [index_lf, if_pos h, if_pos (by omega)]
  simp
theorem cut_miss (L : List UInt8) (h : lf L = L.length) : Lib.cut L [10] = (L, [], false) := by
  unfold Lib.cut
  have e : Lib.index L [10] = -1 := by rw [index_lf, if_neg (by omega)]
  rw [e]; rfl

theorem hasSuffix_one (M : List UInt8) : Lib.hasSuffix M [13] = (!decide (M.length = 0) && (M.getD (M.length - 1) 0 == 13)) := by
  unfold Lib.hasSuffix
  rcases List.eq_nil_or_concat M with rfl | ⟨i, a, rfl⟩
  · rfl
  · simp [List.isSuffixOf, List.isPrefixOf, List.getD, Bool.beq_eq_decide_eq]
    by_cases h : a = 13
    · subst h; simp
    · simp [h]; exact fun e => h e.symm

/-- a line that does not end -/
theorem bad_open {num : Nat} {L : List UInt8} (h : lf L = L.length) : badLine num L = true := by
  unfold badLine; rw [decide_eq_true h]; rfl
theorem take_getD (L : List UInt8) (n : Nat) (h0 : 0 < n) (h : n ≤ L.length) : (L.take n).getD (n - 1) 0 = L.getD (n - 1) 0 := by
  simp only [List.getD, List.getElem?_take]
  rw [if_pos (by omega)]
theorem pair_eq (L : List UInt8) (h : lf L < L.length) : Lib.hasSuffix (L.take (lf L)) [13] = (!decide (lf L = 0) && (L.getD (lf L - 1) 0 == 13)) := by
  have hl : (L.take (lf L)).length = lf L := by rw [List.length_take]; omega
  rw [hasSuffix_one, hl]
  by_cases h0 : lf L = 0
  · rw [decide_eq_true h0]; rfl
  · rw [take_getD L _ (by omega) (by omega)]
theorem bad_pair {num : Nat} {L : List UInt8} (h : lf L < L.length) (hp : Lib.hasSuffix (L.take (lf L)) [13] = false) : badLine num L = true := by
  rw [pair_eq L h] at hp
  unfold badLine
  cases h0 : decide (lf L = 0)
  · rw [h0] at hp
    simp only [Bool.not_false, Bool.true_and] at hp
    rw [hp]; simp
  · simp
theorem trim_eq (L : List UInt8) (h : lf L < L.length) (hp : Lib.hasSuffix (L.take (lf L)) [13] = true) : Lib.trimSuffix (L.take (lf L)) [13] = L.take (lf L - 1) ∧ 0 < lf L := by
  have h0 : 0 < lf L := by
    rw [pair_eq L h] at hp
    rcases Nat.eq_zero_or_pos (lf L) with e | e
    · rw [decide_eq_true e] at hp; simp at hp
    · exact e
  unfold Lib.trimSuffix
  rw [if_pos hp, List.take_take]
  refine ⟨?_, h0⟩
  congr 1
  have hl : (L.take (lf L)).length = lf L := by rw [List.length_take]; omega
  rw [hl]
  simp only [List.length_cons, List.length_nil]; omega
/-- a line that ends as it must -/
theorem bad_rest {num : Nat} {L : List UInt8} (h : lf L < L.length) (hp : Lib.hasSuffix (L.take (lf L)) [13] = true) :
    badLine num L = (!cln (L.take (lf L - 1)) || decide (75 < lf L - 1) || (goes (L.take (lf L - 1)) && decide (num = 1))) := by
  rw [pair_eq L h] at hp
  simp only [Bool.and_eq_true, Bool.not_eq_true', decide_eq_false_iff_not] at hp
  unfold badLine
  rw [decide_eq_false (show ¬ lf L = L.length by omega), decide_eq_false hp.1, hp.2]
  simp
end Go.Proofs.YtdhobemladckjaaDoor
