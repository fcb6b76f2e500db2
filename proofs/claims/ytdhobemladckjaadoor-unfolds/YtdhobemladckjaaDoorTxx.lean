/- Plain mathematics of texts: how many lines; what may be refused. No program is named. -/
import Derived.Test.YtdhobemladckjaaDoorTxv
set_option linter.unusedVariables false
namespace Go.Proofs.YtdhobemladckjaaDoor

theorem onLast_length : ∀ (a : List (List UInt8)) (l : List UInt8), (onLast a l).length = a.length
  | [], l => rfl
  | [y], l => rfl
  | y :: z :: t, l => by simp only [onLast, List.length_cons, onLast_length (z :: t) l]
theorem un_count_n : ∀ (k num : Nat) (acc : List (List UInt8)) (s : List UInt8), s.length ≤ k → (un num acc s).2.length ≤ acc.length + s.length
  | k, num, acc, [], _ => by rw [un_nil]; simp
  | 0, _, _, a :: t, h => by simp at h
  | k + 1, num, acc, a :: t, h => by
    have hne : a :: t ≠ [] := by simp
    generalize hL : a :: t = L at *
    have hp : 0 < L.length := List.length_pos_iff.2 hne
    rw [un_step _ _ _ hne]
    by_cases hb : badLine num L = true
    · rw [if_pos hb]; simp
    · rw [if_neg hb]
      have := un_count_n k (num + 1) (if goes (L.take (lf L - 1)) = true then onLast acc ((L.take (lf L - 1)).drop 1) else acc ++ [L.take (lf L - 1)]) (L.drop (lf L + 1)) (by rw [List.length_drop]; omega)
      rw [List.length_drop] at this
      by_cases hg : goes (L.take (lf L - 1)) = true
      · rw [if_pos hg] at this ⊢; rw [onLast_length] at this; omega
      · rw [if_neg hg] at this ⊢; rw [List.length_append] at this; simp only [List.length_cons, List.length_nil] at this; omega
theorem un_count (s : List UInt8) : (un 1 [] s).2.length ≤ s.length := by
  have := un_count_n _ 1 [] s (Nat.le_refl _); simpa using this
theorem bnd_le : ∀ (ls : List (List UInt8)), bnd ls ≤ 2 * tot ls + 2 * ls.length
  | [] => by simp [bnd, tot]
  | x :: xs => by
    have := bnd_le xs
    simp only [bnd, tot, List.length_cons]; omega
theorem bnd_append : ∀ (a b : List (List UInt8)), bnd (a ++ b) = bnd a + bnd b
  | [], b => by simp [bnd]
  | x :: xs, b => by simp only [List.cons_append, bnd, bnd_append xs b]; omega
theorem tot_take : ∀ (ls : List (List UInt8)) (k : Nat), tot (ls.take k) ≤ tot ls
  | [], k => by simp [tot]
  | x :: xs, 0 => by simp [tot]
  | x :: xs, k + 1 => by have := tot_take xs k; simp only [List.take_succ_cons, tot]; omega

/-- may lines be refused? -/
def mor (ls : List (List UInt8)) : Bool := ls.any goes || decide (3900 < bnd ls)

/-- lines of a right text that Fold refuses: one goes on, or they are long -/
theorem mor_of {s : List UInt8} {ls : List (List UInt8)} (h : un 1 [] s = (0, ls)) (hs : s.length ≤ 4000) (hf : fo [] ls = none) : mor ls = true := by
  obtain ⟨hc, ht⟩ := un_clean s ls h
  unfold mor
  cases hg : ls.any goes
  · have := fo_none ls [] (fun x hx => ⟨hc x hx, by
      have h9 := List.any_eq_false.1 hg x hx; simpa using h9, by have := tot_mem ls x hx; omega⟩) hf
    simp at this
    simp; omega
  · rfl
end Go.Proofs.YtdhobemladckjaaDoor
