/- Plain mathematics of texts: what is unfolded has clean lines. No program is named. -/
import Derived.Test.YtdhobemladckjaaDoorTxu
set_option linter.unusedVariables false
namespace Go.Proofs.YtdhobemladckjaaDoor

theorem rsz_append (y l : List UInt8) (hne : y ≠ []) (hz : rsz y ≠ 0) : rsz (y ++ l) = rsz y := by
  have hle := rsz_le y hne
  have key : ∀ j, j < rsz y → (y ++ l).getD j 0 = y.getD j 0 := by
    intro j hj
    simp only [List.getD]
    rw [List.getElem?_append_left (by omega)]
  have hlen : (y ++ l).length = y.length + l.length := List.length_append
  unfold rsz at hz hle key ⊢
  rw [key 0 (by omega)]
  generalize (y.getD 0 0).toNat = b0 at *
  have g1 : 1 < rszN y.length b0 (y.getD 1 0).toNat (y.getD 2 0).toNat (y.getD 3 0).toNat → (y ++ l).getD 1 0 = y.getD 1 0 := key 1
  have g2 : 2 < rszN y.length b0 (y.getD 1 0).toNat (y.getD 2 0).toNat (y.getD 3 0).toNat → (y ++ l).getD 2 0 = y.getD 2 0 := key 2
  have g3 : 3 < rszN y.length b0 (y.getD 1 0).toNat (y.getD 2 0).toNat (y.getD 3 0).toNat → (y ++ l).getD 3 0 = y.getD 3 0 := key 3
  clear key
  generalize (y ++ l).getD 1 0 = c1 at *
  generalize (y ++ l).getD 2 0 = c2 at *
  generalize (y ++ l).getD 3 0 = c3 at *
  generalize y.getD 1 0 = b1 at *
  generalize y.getD 2 0 = b2 at *
  generalize y.getD 3 0 = b3 at *
  rw [hlen]
  generalize y.length = n at *
  have hr : rszN n b0 b1.toNat b2.toNat b3.toNat = 1 ∨ rszN n b0 b1.toNat b2.toNat b3.toNat = 2 ∨ rszN n b0 b1.toNat b2.toNat b3.toNat = 3 ∨ rszN n b0 b1.toNat b2.toNat b3.toNat = 4 := by omega
  rcases hr with hr | hr | hr | hr
  · rw [hr]; exact rszN_1' _ _ _ _ _ ((rszN_f n b0 _ _ _).1 hr)
  · have e1 := g1 (by omega); subst e1; rw [hr]
    have := (rszN_f n b0 _ _ _).2.1 hr
    exact rszN_2' _ _ _ _ _ ⟨this.1, this.2.1, by omega, this.2.2.2⟩
  · have e1 := g1 (by omega); have e2 := g2 (by omega); subst e1 e2; rw [hr]
    have := (rszN_f n b0 _ _ _).2.2.1 hr
    exact rszN_3' _ _ _ _ _ ⟨this.1, this.2.1, by omega, this.2.2.2⟩
  · have e1 := g1 (by omega); have e2 := g2 (by omega); have e3 := g3 (by omega); subst e1 e2 e3; rw [hr]
    have := (rszN_f n b0 _ _ _).2.2.2 hr
    exact rszN_4' _ _ _ _ _ ⟨this.1, this.2.1, by omega, this.2.2.2⟩

theorem validD_append_n : ∀ (k : Nat) (y l : List UInt8), y.length ≤ k → Lib.validD y = true → Lib.validD l = true → Lib.validD (y ++ l) = true
  | _, [], l, _, _, h => h
  | 0, a :: t, _, h, _, _ => by simp at h
  | k + 1, a :: t, l, h, hv, hw => by
    have hne : a :: t ≠ [] := by simp
    obtain ⟨hz, hv'⟩ := validD_first _ hne hv
    have hle := rsz_le _ hne
    generalize hL : a :: t = L at *
    have hn2 : L ++ l ≠ [] := by simp [hne]
    rw [validD_rsz _ hn2, rsz_append L l hne hz, if_neg hz, List.drop_append_of_le_length hle.2]
    exact validD_append_n k _ l (by simp; omega) hv' hw
theorem cln_append (y l : List UInt8) (h1 : cln y = true) (h2 : cln l = true) : cln (y ++ l) = true :=
  cln_mk (validD_append_n _ y l (Nat.le_refl _) (cln_valid h1).1 (cln_valid h2).1) (by simp [(cln_valid h1).2, (cln_valid h2).2])
theorem cln_tail (l : List UInt8) (h : cln l = true) (hg : goes l = true) : cln (l.drop 1) = true := by
  obtain ⟨h1, h2⟩ := cln_valid h
  refine cln_mk ?_ (all_drop l 1 h2)
  cases l with
  | nil => exact absurd hg (by decide)
  | cons a t =>
    have : a.toNat < 128 := by simp [goes] at hg; omega
    rw [Lib.validD_cons a t this] at h1
    exact h1

/-- bytes of lines together -/
def tot : List (List UInt8) → Nat
  | [] => 0
  | x :: xs => x.length + tot xs
theorem tot_append : ∀ (a b : List (List UInt8)), tot (a ++ b) = tot a + tot b
  | [], b => by simp [tot]
  | x :: xs, b => by simp only [List.cons_append, tot, tot_append xs b]; omega
theorem tot_mem : ∀ (a : List (List UInt8)) (x : List UInt8), x ∈ a → x.length ≤ tot a
  | [], x, h => by simp at h
  | y :: ys, x, h => by
    simp only [List.mem_cons] at h
    simp only [tot]
    rcases h with rfl | h
    · omega
    · have := tot_mem ys x h; omega
theorem tot_onLast : ∀ (a : List (List UInt8)) (l : List UInt8), tot (onLast a l) ≤ tot a + l.length
  | [], l => by simp [onLast, tot]
  | [y], l => by simp [onLast, tot]
  | y :: z :: t, l => by
    have := tot_onLast (z :: t) l
    simp only [onLast, tot] at this ⊢; omega
theorem cln_onLast : ∀ (a : List (List UInt8)) (l : List UInt8), (∀ x ∈ a, cln x = true) → cln l = true → ∀ x ∈ onLast a l, cln x = true
  | [], l, _, _, x, h => by simp [onLast] at h
  | [y], l, ha, hl, x, h => by
    simp only [onLast, List.mem_singleton] at h
    subst h; exact cln_append y l (ha y (by simp)) hl
  | y :: z :: t, l, ha, hl, x, h => by
    simp only [onLast, List.mem_cons] at h
    rcases h with rfl | h
    · exact ha _ (by simp)
    · exact cln_onLast (z :: t) l (fun q hq => ha q (List.mem_cons_of_mem _ hq)) hl x h

theorem badLine_cln {num : Nat} {s : List UInt8} (h : badLine num s = false) : cln (s.take (lf s - 1)) = true ∧ lf s < s.length ∧ 0 < lf s := by
  unfold badLine at h
  simp only [Bool.or_eq_false_iff, decide_eq_false_iff_not, Bool.not_eq_false'] at h
  refine ⟨h.1.1.2, ?_, by omega⟩
  have : lf s ≤ s.length := List.findIdx_le_length
  omega

theorem un_clean_n : ∀ (k num : Nat) (acc m : List (List UInt8)) (s : List UInt8), s.length ≤ k → 1 ≤ num → (∀ x ∈ acc, cln x = true) → un num acc s = (0, m) →
    (∀ x ∈ m, cln x = true) ∧ tot m ≤ tot acc + s.length
  | k, num, acc, m, [], _, _, ha, h => by
    rw [un_nil] at h
    have : acc = m := (Prod.mk.inj h).2
    subst this; exact ⟨ha, by simp⟩
  | 0, _, _, _, a :: t, h, _, _, _ => by simp at h
  | k + 1, num, acc, m, a :: t, h, h1, ha, hu => by
    have hne : a :: t ≠ [] := by simp
    generalize hL : a :: t = L at *
    rw [un_step _ _ _ hne] at hu
    by_cases hb : badLine num L = true
    · rw [if_pos hb] at hu; have := (Prod.mk.inj hu).1; omega
    · rw [if_neg hb] at hu
      have hq := badLine_cln (num := num) (s := L) (by simpa using hb)
      have hlen : (L.take (lf L - 1)).length ≤ lf L - 1 := List.length_take_le _ _
      have := un_clean_n k (num + 1) _ m (L.drop (lf L + 1)) (by simp; omega) (by omega) (by
        by_cases hg : goes (L.take (lf L - 1)) = true
        · rw [if_pos hg]; exact cln_onLast acc _ ha (cln_tail _ hq.1 hg)
        · rw [if_neg hg]; intro x hx; simp only [List.mem_append, List.mem_singleton] at hx
          rcases hx with hx | hx
          · exact ha x hx
          · rw [hx]; exact hq.1) hu
      refine ⟨this.1, ?_⟩
      have h2 := this.2
      rw [List.length_drop] at h2
      by_cases hg : goes (L.take (lf L - 1)) = true
      · rw [if_pos hg] at h2
        have h3 := tot_onLast acc ((L.take (lf L - 1)).drop 1)
        rw [List.length_drop] at h3
        omega
      · rw [if_neg hg, tot_append] at h2
        simp only [tot] at h2
        omega
theorem un_clean (s : List UInt8) (m : List (List UInt8)) (h : un 1 [] s = (0, m)) : (∀ x ∈ m, cln x = true) ∧ tot m ≤ s.length := by
  have := un_clean_n _ 1 [] m s (Nat.le_refl _) (by omega) (by simp) h
  simpa [tot] using this


end Go.Proofs.YtdhobemladckjaaDoor
