/- Plain mathematics of texts: unfolding, and that it takes folding back. No program is named. -/
import Derived.Test.YtmmnbdefkailpaaGreatDoorTxt
import Derived.Lib.CutLaws
import Derived.Lib.Strings

set_option linter.unusedVariables false
namespace Go.Proofs.YtmmnbdefkailpaaGreatDoor

/-! ### lengths of what is folded -/
theorem fit_low_n : ∀ (k room : Nat) (l : List UInt8), l.length ≤ k → Lib.validD l = true → room ≤ l.length → room ≤ fit l room + 3
  | _, room, [], _, _, h => by simp at h; omega
  | 0, _, a :: t, h, _, _ => by simp at h
  | k + 1, room, a :: t, h, hv, hr => by
    have hne : a :: t ≠ [] := by simp
    obtain ⟨hz, hv'⟩ := validD_first _ hne hv
    have hle := rsz_le _ hne
    generalize hL : a :: t = L at *
    by_cases c : room < rsz L
    · omega
    · rw [fit_add L hne hv room (by omega)]
      have := fit_low_n k (room - rsz L) (L.drop (rsz L)) (by simp; omega) hv' (by simp; omega)
      omega
theorem fit_low (room : Nat) (l : List UInt8) (hv : Lib.validD l = true) (hr : room ≤ l.length) : room ≤ fit l room + 3 := fit_low_n _ room l (Nat.le_refl _) hv hr

theorem fit_all (room : Nat) (l : List UInt8) (h : l.length ≤ room) : fit l room = l.length := by unfold fit; rw [if_pos h]
theorem gr_all (room : Nat) (l : List UInt8) (hv : Lib.validD l = true) (h : l.length ≤ room) : gr room l = l := by
  rw [gr_fit room l hv, fit_all room l h]; simp [rest]

theorem gr_len_n : ∀ (k room : Nat) (l : List UInt8), l.length ≤ k → Lib.validD l = true → 74 ≤ room → (gr room l).length ≤ l.length + 3 * (l.length / 70)
  | 0, room, l, h, hv, _ => by
    have : l = [] := List.length_eq_zero_iff.1 (by omega)
    subst this; simp [gr_nil]
  | k + 1, room, l, h, hv, hr => by
    by_cases c : l.length ≤ room
    · rw [gr_all room l hv c]; omega
    · have h1 := fit_low room l hv (by omega)
      have h2 := fit_le l room
      have h3 := fit_room l room
      rw [gr_fit room l hv]
      unfold rest
      rw [if_pos (by omega)]
      have ih := gr_len_n k 74 (l.drop (fit l room)) (by simp; omega) (validD_fit room l hv) (by omega)
      simp only [List.length_append, List.length_take, List.length_drop, sep, List.length_cons, List.length_nil] at ih ⊢
      omega
theorem gr_len (l : List UInt8) (hv : Lib.validD l = true) : (gr 75 l).length ≤ l.length + 3 * (l.length / 70) := gr_len_n _ 75 l (Nat.le_refl _) hv (by omega)

/-- the bound that is asked of lines that are refused -/
def bnd : List (List UInt8) → Nat
  | [] => 0
  | x :: xs => x.length + 2 + 3 * (x.length / 70) + bnd xs

theorem fo_none : ∀ (ls : List (List UInt8)) (acc : List UInt8), (∀ x ∈ ls, cln x = true ∧ goes x = false ∧ x.length ≤ 4000) → fo acc ls = none → 4000 < acc.length + bnd ls
  | [], acc, _, h => by simp [fo] at h
  | x :: xs, acc, hx, h => by
    have h0 := hx x (by simp)
    have hv : Lib.validD x = true := by have := h0.1; rw [cln_eq] at this; simp at this; exact this.1
    have hl := gr_len x hv
    have ho : okl x = true := by simp [okl, h0.1, h0.2.1, h0.2.2]
    simp only [fo, ho, if_true] at h
    by_cases c : 4000 < (acc ++ (gr 75 x ++ [13, 10])).length
    · simp only [List.length_append, List.length_cons, List.length_nil] at c; simp only [bnd]; omega
    · rw [if_neg c] at h
      have := fo_none xs _ (fun y hy => hx y (by simp [hy])) h
      simp only [List.length_append, List.length_cons, List.length_nil] at this; simp only [bnd]; omega

/-! ### unfolding -/
/-- where the first LF stands; the length, if there is none -/
def lf (s : List UInt8) : Nat := s.findIdx (fun b => b == 10)

/-- a piece is put behind the last line -/
def onLast : List (List UInt8) → List UInt8 → List (List UInt8)
  | [], _ => []
  | [y], l => [y ++ l]
  | y :: z :: t, l => y :: onLast (z :: t) l

/-- one line at the front is as it must be: it stands there, with its CR and LF -/
def badLine (num : Nat) (s : List UInt8) : Bool :=
  decide (lf s = s.length) || decide (lf s = 0) || !(s.getD (lf s - 1) 0 == 13) || !cln (s.take (lf s - 1)) || decide (75 < lf s - 1) || (goes (s.take (lf s - 1)) && decide (num = 1))

def unGo : Nat → Nat → List (List UInt8) → List UInt8 → Nat × List (List UInt8)
  | 0, _, acc, _ => (0, acc)
  | k + 1, num, acc, s => if s = [] then (0, acc) else if badLine num s = true then (num, []) else
      unGo k (num + 1) (if goes (s.take (lf s - 1)) = true then onLast acc ((s.take (lf s - 1)).drop 1) else acc ++ [s.take (lf s - 1)]) (s.drop (lf s + 1))
/-- 0 and the lines, or the number of the wrong line -/
def un (num : Nat) (acc : List (List UInt8)) (s : List UInt8) : Nat × List (List UInt8) := unGo s.length num acc s

theorem unGo_nil : ∀ k num acc, unGo k num acc [] = (0, acc)
  | 0, _, _ => rfl
  | k + 1, _, _ => by simp [unGo]
theorem unGo_fuel : ∀ (n m num : Nat) (acc : List (List UInt8)) (l : List UInt8), l.length ≤ n → l.length ≤ m → unGo n num acc l = unGo m num acc l
  | n, m, num, acc, [], _, _ => by rw [unGo_nil, unGo_nil]
  | 0, m, _, _, a :: t, h, _ => by simp at h
  | n + 1, 0, _, _, a :: t, _, h => by simp at h
  | n + 1, m + 1, num, acc, a :: t, h1, h2 => by
    simp only [unGo]
    rw [unGo_fuel n m _ _ ((a :: t).drop (lf (a :: t) + 1)) (by simp at h1 ⊢; omega) (by simp at h2 ⊢; omega)]
theorem un_nil (num : Nat) (acc : List (List UInt8)) : un num acc [] = (0, acc) := rfl
theorem un_step (num : Nat) (acc : List (List UInt8)) (s : List UInt8) (hne : s ≠ []) :
    un num acc s = if badLine num s = true then (num, []) else
      un (num + 1) (if goes (s.take (lf s - 1)) = true then onLast acc ((s.take (lf s - 1)).drop 1) else acc ++ [s.take (lf s - 1)]) (s.drop (lf s + 1)) := by
  obtain ⟨a, t, rfl⟩ := List.exists_cons_of_ne_nil hne
  show unGo (t.length + 1) num acc (a :: t) = _
  simp only [unGo, if_neg hne]
  rw [unGo_fuel t.length ((a :: t).drop (lf (a :: t) + 1)).length _ _ _ (by simp) (Nat.le_refl _)]
  rfl

theorem onLast_snoc : ∀ (acc : List (List UInt8)) (y l : List UInt8), onLast (acc ++ [y]) l = acc ++ [y ++ l]
  | [], y, l => rfl
  | [a], y, l => rfl
  | a :: b :: t, y, l => by
    show a :: onLast ((b :: t) ++ [y]) l = _
    rw [onLast_snoc (b :: t) y l]; rfl

/-- the LF behind a clean line -/
theorem lf_clean (x t : List UInt8) (hx : x.all okb = true) : lf (x ++ 13 :: 10 :: t) = x.length + 1 := by
  unfold lf
  induction x with
  | nil => rfl
  | cons a u ih =>
    simp only [List.all_cons, Bool.and_eq_true] at hx
    have hne : (a == 10) = false := by
      have h := hx.1
      apply Bool.eq_false_iff.2
      intro hh
      have : a = 10 := by simpa using hh
      subst this; exact absurd h (by decide)
    rw [List.cons_append, List.findIdx_cons, hne]
    simp only [cond_false]
    rw [ih hx.2]; simp
theorem un_line (num : Nat) (acc : List (List UInt8)) (x t : List UInt8) (hx : cln x = true) (hl : x.length ≤ 75) (hg : goes x = false ∨ num ≠ 1) :
    un num acc (x ++ 13 :: 10 :: t) = un (num + 1) (if goes x = true then onLast acc (x.drop 1) else acc ++ [x]) t := by
  have ho : x.all okb = true := by have := hx; rw [cln_eq] at this; simp only [Bool.and_eq_true] at this; exact this.2
  have hlf := lf_clean x t ho
  have ht : (x ++ 13 :: 10 :: t).take x.length = x := by simp
  have hd : (x ++ 13 :: 10 :: t).drop (x.length + 1 + 1) = t := by
    rw [show x ++ 13 :: 10 :: t = (x ++ [13, 10]) ++ t by simp, List.drop_append_of_le_length (by simp), List.drop_of_length_le (by simp)]; rfl
  have hc : (x ++ 13 :: 10 :: t).getD x.length 0 = 13 := by simp [List.getD]
  rw [un_step _ _ _ (by simp)]
  have hb : badLine num (x ++ 13 :: 10 :: t) = false := by
    unfold badLine
    rw [hlf, Nat.add_sub_cancel, ht, hc, hx]
    have : decide (x.length + 1 = (x ++ 13 :: 10 :: t).length) = false := by simp
    rw [this]
    have h2 : decide (x.length + 1 = 0) = false := by simp
    have h3 : decide (75 < x.length) = false := by simp; omega
    rw [h2, h3]
    rcases hg with hg | hg
    · rw [hg]; rfl
    · have : decide (num = 1) = false := by simp [hg]
      rw [this]; simp
  rw [hb, hlf, Nat.add_sub_cancel, ht, hd]
  rfl

/-- clean pieces -/
theorem cln_valid {x : List UInt8} (h : cln x = true) : Lib.validD x = true ∧ x.all okb = true := by rw [cln_eq] at h; simpa using h
theorem cln_mk {x : List UInt8} (h : Lib.validD x = true) (h2 : x.all okb = true) : cln x = true := by rw [cln_eq, h, h2]; rfl
theorem cln_cons (x : List UInt8) (h : cln x = true) : cln (32 :: x) = true := by
  obtain ⟨h1, h2⟩ := cln_valid h
  refine cln_mk ?_ (by simp [h2]; decide)
  rw [Lib.validD_cons 32 x (by decide)]; exact h1
theorem all_take (x : List UInt8) (k : Nat) (h : x.all okb = true) : (x.take k).all okb = true := by
  rw [List.all_eq_true] at h ⊢; intro b hb; exact h b (List.mem_of_mem_take hb)
theorem all_drop (x : List UInt8) (k : Nat) (h : x.all okb = true) : (x.drop k).all okb = true := by
  rw [List.all_eq_true] at h ⊢; intro b hb; exact h b (List.mem_of_mem_drop hb)

theorem rszN_f (n b0 b1 b2 b3 : Nat) :
    (rszN n b0 b1 b2 b3 = 1 → b0 < 128) ∧
    (rszN n b0 b1 b2 b3 = 2 → 192 ≤ b0 ∧ b0 < 224 ∧ 2 ≤ n ∧ 128 ≤ b1 ∧ b1 ≤ 191 ∧ 128 + (64 * 192 + 128) ≤ 64 * b0 + b1) ∧
    (rszN n b0 b1 b2 b3 = 3 → 224 ≤ b0 ∧ b0 < 240 ∧ 3 ≤ n ∧ 128 ≤ b1 ∧ b1 ≤ 191 ∧ 128 ≤ b2 ∧ b2 ≤ 191 ∧ 2048 + (4096 * 224 + 64 * 128 + 128) ≤ 4096 * b0 + 64 * b1 + b2 ∧ ¬ (55296 + (4096 * 224 + 64 * 128 + 128) ≤ 4096 * b0 + 64 * b1 + b2 ∧ 4096 * b0 + 64 * b1 + b2 < 57344 + (4096 * 224 + 64 * 128 + 128))) ∧
    (rszN n b0 b1 b2 b3 = 4 → 240 ≤ b0 ∧ b0 < 248 ∧ 4 ≤ n ∧ 128 ≤ b1 ∧ b1 ≤ 191 ∧ 128 ≤ b2 ∧ b2 ≤ 191 ∧ 128 ≤ b3 ∧ b3 ≤ 191 ∧ 65536 + (262144 * 240 + 4096 * 128 + 64 * 128 + 128) ≤ 262144 * b0 + 4096 * b1 + 64 * b2 + b3 ∧ 262144 * b0 + 4096 * b1 + 64 * b2 + b3 ≤ 1114111 + (262144 * 240 + 4096 * 128 + 64 * 128 + 128)) := by
  unfold rszN
  repeat' split
  all_goals omega
theorem rszN_1' (n b0 b1 b2 b3 : Nat) (h : b0 < 128) : rszN n b0 b1 b2 b3 = 1 := by unfold rszN; rw [if_pos h]
theorem rszN_2' (n b0 b1 b2 b3 : Nat) (h : 192 ≤ b0 ∧ b0 < 224 ∧ 2 ≤ n ∧ 128 ≤ b1 ∧ b1 ≤ 191 ∧ 128 + (64 * 192 + 128) ≤ 64 * b0 + b1) : rszN n b0 b1 b2 b3 = 2 := by
  unfold rszN
  repeat' split
  all_goals first | rfl | (exfalso; omega)
theorem rszN_3' (n b0 b1 b2 b3 : Nat) (h : 224 ≤ b0 ∧ b0 < 240 ∧ 3 ≤ n ∧ 128 ≤ b1 ∧ b1 ≤ 191 ∧ 128 ≤ b2 ∧ b2 ≤ 191 ∧ 2048 + (4096 * 224 + 64 * 128 + 128) ≤ 4096 * b0 + 64 * b1 + b2 ∧ ¬ (55296 + (4096 * 224 + 64 * 128 + 128) ≤ 4096 * b0 + 64 * b1 + b2 ∧ 4096 * b0 + 64 * b1 + b2 < 57344 + (4096 * 224 + 64 * 128 + 128))) : rszN n b0 b1 b2 b3 = 3 := by
  unfold rszN
  repeat' split
  all_goals first | rfl | (exfalso; omega)
theorem rszN_4' (n b0 b1 b2 b3 : Nat) (h : 240 ≤ b0 ∧ b0 < 248 ∧ 4 ≤ n ∧ 128 ≤ b1 ∧ b1 ≤ 191 ∧ 128 ≤ b2 ∧ b2 ≤ 191 ∧ 128 ≤ b3 ∧ b3 ≤ 191 ∧ 65536 + (262144 * 240 + 4096 * 128 + 64 * 128 + 128) ≤ 262144 * b0 + 4096 * b1 + 64 * b2 + b3 ∧ 262144 * b0 + 4096 * b1 + 64 * b2 + b3 ≤ 1114111 + (262144 * 240 + 4096 * 128 + 64 * 128 + 128)) : rszN n b0 b1 b2 b3 = 4 := by
  unfold rszN
  repeat' split
  all_goals first | rfl | (exfalso; omega)
theorem rsz_take (l : List UInt8) (hne : l ≠ []) (hz : rsz l ≠ 0) (k : Nat) (hk : rsz l ≤ k) : rsz (l.take k) = rsz l := by
  have hle := rsz_le l hne
  have key : ∀ j, j < rsz l → (l.take k).getD j 0 = l.getD j 0 := by
    intro j hj
    simp only [List.getD, List.getElem?_take]
    rw [if_pos (by omega)]
  have hlen : (l.take k).length = min k l.length := List.length_take
  unfold rsz at hz hk hle key ⊢
  rw [key 0 (by omega)]
  generalize (l.getD 0 0).toNat = b0 at *
  have g1 : 1 < rszN l.length b0 (l.getD 1 0).toNat (l.getD 2 0).toNat (l.getD 3 0).toNat → (l.take k).getD 1 0 = l.getD 1 0 := key 1
  have g2 : 2 < rszN l.length b0 (l.getD 1 0).toNat (l.getD 2 0).toNat (l.getD 3 0).toNat → (l.take k).getD 2 0 = l.getD 2 0 := key 2
  have g3 : 3 < rszN l.length b0 (l.getD 1 0).toNat (l.getD 2 0).toNat (l.getD 3 0).toNat → (l.take k).getD 3 0 = l.getD 3 0 := key 3
  clear key
  generalize (l.take k).getD 1 0 = c1 at *
  generalize (l.take k).getD 2 0 = c2 at *
  generalize (l.take k).getD 3 0 = c3 at *
  generalize l.getD 1 0 = b1 at *
  generalize l.getD 2 0 = b2 at *
  generalize l.getD 3 0 = b3 at *
  rw [hlen]
  generalize l.length = n at *
  have hr : rszN n b0 b1.toNat b2.toNat b3.toNat = 1 ∨ rszN n b0 b1.toNat b2.toNat b3.toNat = 2 ∨ rszN n b0 b1.toNat b2.toNat b3.toNat = 3 ∨ rszN n b0 b1.toNat b2.toNat b3.toNat = 4 := by omega
  rcases hr with hr | hr | hr | hr
  · rw [hr] at hk ⊢; exact rszN_1' _ _ _ _ _ ((rszN_f n b0 _ _ _).1 hr)
  · have e1 := g1 (by omega); subst e1; rw [hr] at hk ⊢
    have := (rszN_f n b0 _ _ _).2.1 hr
    exact rszN_2' _ _ _ _ _ ⟨this.1, this.2.1, by omega, this.2.2.2⟩
  · have e1 := g1 (by omega); have e2 := g2 (by omega); subst e1 e2; rw [hr] at hk ⊢
    have := (rszN_f n b0 _ _ _).2.2.1 hr
    exact rszN_3' _ _ _ _ _ ⟨this.1, this.2.1, by omega, this.2.2.2⟩
  · have e1 := g1 (by omega); have e2 := g2 (by omega); have e3 := g3 (by omega); subst e1 e2 e3; rw [hr] at hk ⊢
    have := (rszN_f n b0 _ _ _).2.2.2 hr
    exact rszN_4' _ _ _ _ _ ⟨this.1, this.2.1, by omega, this.2.2.2⟩

theorem validD_take_n : ∀ (k room : Nat) (l : List UInt8), l.length ≤ k → Lib.validD l = true → Lib.validD (l.take (fit l room)) = true
  | _, room, [], _, _ => by simp; rfl
  | 0, _, a :: t, h, _ => by simp at h
  | k + 1, room, a :: t, h, hv => by
    have hne : a :: t ≠ [] := by simp
    obtain ⟨hz, hv'⟩ := validD_first _ hne hv
    have hle := rsz_le _ hne
    generalize hL : a :: t = L at *
    by_cases c : room < rsz L
    · rw [fit_small L hne room c]; simp; rfl
    · rw [fit_add L hne hv room (by omega)]
      have ih := validD_take_n k (room - rsz L) (L.drop (rsz L)) (by simp; omega) hv'
      have hr := rsz_take L hne hz (rsz L + fit (L.drop (rsz L)) (room - rsz L)) (by omega)
      have hn2 : L.take (rsz L + fit (L.drop (rsz L)) (room - rsz L)) ≠ [] := by
        intro hh; have h9 := congrArg List.length hh; rw [List.length_take, List.length_nil] at h9; omega
      rw [validD_rsz _ hn2, hr, if_neg hz, List.drop_take, Nat.add_sub_cancel_left]
      exact ih
theorem cln_take (room : Nat) (l : List UInt8) (h : cln l = true) : cln (l.take (fit l room)) = true :=
  cln_mk (validD_take_n _ room l (Nat.le_refl _) (cln_valid h).1) (all_take _ _ (cln_valid h).2)
theorem cln_drop (room : Nat) (l : List UInt8) (h : cln l = true) : cln (l.drop (fit l room)) = true :=
  cln_mk (validD_fit room l (cln_valid h).1) (all_drop _ _ (cln_valid h).2)

/-- what goes on -/
theorem un_on_n : ∀ (k num : Nat) (acc : List (List UInt8)) (y x t : List UInt8), x.length ≤ k → 2 ≤ num → cln x = true →
    ∃ m, 2 ≤ m ∧ un num (acc ++ [y]) ((32 :: gr 74 x) ++ 13 :: 10 :: t) = un m (acc ++ [y ++ x]) t
  | 0, num, acc, y, x, t, h, hn, hc => by
    have : x = [] := List.length_eq_zero_iff.1 (by omega)
    subst this
    refine ⟨num + 1, by omega, ?_⟩
    rw [gr_nil, un_line num _ [32] t (by decide) (by decide) (.inr (by omega))]
    rw [if_pos (by decide), onLast_snoc]; rfl
  | k + 1, num, acc, y, x, t, h, hn, hc => by
    have hv := (cln_valid hc).1
    by_cases c : x.length ≤ 74
    · refine ⟨num + 1, by omega, ?_⟩
      rw [gr_all 74 x hv c, un_line num _ (32 :: x) t (cln_cons x hc) (by simp; omega) (.inr (by omega))]
      rw [if_pos (by rfl), onLast_snoc]; rfl
    · have h1 := fit_low 74 x hv (by omega)
      have h2 := fit_le x 74
      have h3 := fit_room x 74
      have e : (32 :: gr 74 x) ++ 13 :: 10 :: t = (32 :: x.take (fit x 74)) ++ 13 :: 10 :: ((32 :: gr 74 (x.drop (fit x 74))) ++ 13 :: 10 :: t) := by
        rw [gr_fit 74 x hv]; unfold rest; rw [if_pos (by omega)]; simp [sep]
      rw [e, un_line num _ (32 :: x.take (fit x 74)) _ (cln_cons _ (cln_take 74 x hc)) (by simp; omega) (.inr (by omega))]
      rw [if_pos (by rfl), onLast_snoc]
      obtain ⟨m, hm, hq⟩ := un_on_n k (num + 1) acc (y ++ (32 :: x.take (fit x 74)).drop 1) (x.drop (fit x 74)) t (by simp; omega) (by omega) (cln_drop 74 x hc)
      refine ⟨m, hm, ?_⟩
      rw [hq]; simp

/-- a whole line that was folded -/
theorem un_fold (num : Nat) (acc : List (List UInt8)) (x t : List UInt8) (h1 : 1 ≤ num) (hc : cln x = true) (hg : goes x = false) :
    ∃ m, 2 ≤ m ∧ un num acc (gr 75 x ++ 13 :: 10 :: t) = un m (acc ++ [x]) t := by
  have hv := (cln_valid hc).1
  by_cases c : x.length ≤ 75
  · refine ⟨num + 1, by omega, ?_⟩
    rw [gr_all 75 x hv c, un_line num _ x t hc c (.inl hg), hg]; rfl
  · have h1 := fit_low 75 x hv (by omega)
    have h2 := fit_le x 75
    have h3 := fit_room x 75
    have e : gr 75 x ++ 13 :: 10 :: t = x.take (fit x 75) ++ 13 :: 10 :: ((32 :: gr 74 (x.drop (fit x 75))) ++ 13 :: 10 :: t) := by
      rw [gr_fit 75 x hv]; unfold rest; rw [if_pos (by omega)]; simp [sep]
    have hg' : goes (x.take (fit x 75)) = false := by
      obtain ⟨a, u, rfl⟩ := List.exists_cons_of_ne_nil (show x ≠ [] by intro hh; subst hh; simp at c)
      obtain ⟨q, hq⟩ : ∃ q, fit (a :: u) 75 = q + 1 := ⟨fit (a :: u) 75 - 1, by omega⟩
      rw [hq]; exact hg
    rw [e, un_line num _ _ _ (cln_take 75 x hc) (by simp; omega) (.inl hg'), hg']
    obtain ⟨m, hm, hq⟩ := un_on_n _ (num + 1) acc (x.take (fit x 75)) (x.drop (fit x 75)) t (Nat.le_refl _) (by omega) (cln_drop 75 x hc)
    refine ⟨m, hm, ?_⟩
    simp only [Bool.false_eq_true, if_false]
    rw [hq]; simp

theorem fo_app : ∀ (ls : List (List UInt8)) (acc out : List UInt8), fo acc ls = some out → ∃ t, out = acc ++ t ∧ ∀ num old, 1 ≤ num → un num old t = (0, old ++ ls)
  | [], acc, out, h => by
    simp only [fo, Option.some.injEq] at h
    exact ⟨[], by simp [h], fun num old _ => by rw [un_nil]; simp⟩
  | x :: xs, acc, out, h => by
    simp only [fo] at h
    by_cases ho : okl x = true
    · rw [if_pos ho] at h
      by_cases c : 4000 < (acc ++ (gr 75 x ++ [13, 10])).length
      · rw [if_pos c] at h; exact absurd h (by simp)
      · rw [if_neg c] at h
        obtain ⟨t, ht, hq⟩ := fo_app xs _ out h
        refine ⟨gr 75 x ++ [13, 10] ++ t, by rw [ht]; simp, ?_⟩
        intro num old hn
        simp only [okl, Bool.and_eq_true, Bool.not_eq_true', decide_eq_true_eq] at ho
        obtain ⟨m, hm, hu⟩ := un_fold num old x t hn ho.1.1 ho.1.2
        rw [show gr 75 x ++ [13, 10] ++ t = gr 75 x ++ 13 :: 10 :: t by simp, hu, hq m _ (by omega)]
        simp
    · rw [if_neg ho] at h; exact absurd h (by simp)
/-- what is folded is unfolded as it was -/
theorem un_fo (ls : List (List UInt8)) (out : List UInt8) (h : fo [] ls = some out) : un 1 [] out = (0, ls) := by
  obtain ⟨t, ht, hq⟩ := fo_app ls [] out h
  rw [ht, List.nil_append, hq 1 [] (Nat.le_refl _)]; simp
theorem fo_len : ∀ (ls : List (List UInt8)) (acc out : List UInt8), fo acc ls = some out → acc.length ≤ 4000 → out.length ≤ 4000
  | [], acc, out, h, ha => by simp only [fo, Option.some.injEq] at h; rw [← h]; exact ha
  | x :: xs, acc, out, h, ha => by
    simp only [fo] at h
    by_cases ho : okl x = true
    · rw [if_pos ho] at h
      by_cases c : 4000 < (acc ++ (gr 75 x ++ [13, 10])).length
      · rw [if_pos c] at h; exact absurd h (by simp)
      · rw [if_neg c] at h; exact fo_len xs _ out h (by omega)
    · rw [if_neg ho] at h; exact absurd h (by simp)

end Go.Proofs.YtmmnbdefkailpaaGreatDoor

/- Plain mathematics of texts: what is unfolded has clean lines. No program is named. -/
set_option linter.unusedVariables false
namespace Go.Proofs.YtmmnbdefkailpaaGreatDoor

theorem rsz_append (y l : List UInt8) (hne : y ≠ []) (hz : rsz y ≠ 0) : rsz (y ++ l) = rsz y := by
  have hle := rsz_le y hne
  have key : ∀ j, j < rsz y → (y ++ l).getD j 0 = y.getD j 0 := by
    intro j hj
    simp only [List.getD]
    rw [List.getElem?_append_left (by omega)]
  have hlen : (y ++ l).length = y.length + l.length := List.length_append
  unfold rsz at hz hle key ⊢
  rw [key 0 (by omega)]
  generalize (y.getD 0 0).toNat = b0 at *
  have g1 : 1 < rszN y.length b0 (y.getD 1 0).toNat (y.getD 2 0).toNat (y.getD 3 0).toNat → (y ++ l).getD 1 0 = y.getD 1 0 := key 1
  have g2 : 2 < rszN y.length b0 (y.getD 1 0).toNat (y.getD 2 0).toNat (y.getD 3 0).toNat → (y ++ l).getD 2 0 = y.getD 2 0 := key 2
  have g3 : 3 < rszN y.length b0 (y.getD 1 0).toNat (y.getD 2 0).toNat (y.getD 3 0).toNat → (y ++ l).getD 3 0 = y.getD 3 0 := key 3
  clear key
  generalize (y ++ l).getD 1 0 = c1 at *
  generalize (y ++ l).getD 2 0 = c2 at *
  generalize (y ++ l).getD 3 0 = c3 at *
  generalize y.getD 1 0 = b1 at *
  generalize y.getD 2 0 = b2 at *
  generalize y.getD 3 0 = b3 at *
  rw [hlen]
  generalize y.length = n at *
  have hr : rszN n b0 b1.toNat b2.toNat b3.toNat = 1 ∨ rszN n b0 b1.toNat b2.toNat b3.toNat = 2 ∨ rszN n b0 b1.toNat b2.toNat b3.toNat = 3 ∨ rszN n b0 b1.toNat b2.toNat b3.toNat = 4 := by omega
  rcases hr with hr | hr | hr | hr
  · rw [hr]; exact rszN_1' _ _ _ _ _ ((rszN_f n b0 _ _ _).1 hr)
  · have e1 := g1 (by omega); subst e1; rw [hr]
    have := (rszN_f n b0 _ _ _).2.1 hr
    exact rszN_2' _ _ _ _ _ ⟨this.1, this.2.1, by omega, this.2.2.2⟩
  · have e1 := g1 (by omega); have e2 := g2 (by omega); subst e1 e2; rw [hr]
    have := (rszN_f n b0 _ _ _).2.2.1 hr
    exact rszN_3' _ _ _ _ _ ⟨this.1, this.2.1, by omega, this.2.2.2⟩
  · have e1 := g1 (by omega); have e2 := g2 (by omega); have e3 := g3 (by omega); subst e1 e2 e3; rw [hr]
    have := (rszN_f n b0 _ _ _).2.2.2 hr
    exact rszN_4' _ _ _ _ _ ⟨this.1, this.2.1, by omega, this.2.2.2⟩

theorem validD_append_n : ∀ (k : Nat) (y l : List UInt8), y.length ≤ k → Lib.validD y = true → Lib.validD l = true → Lib.validD (y ++ l) = true
  | _, [], l, _, _, h => h
  | 0, a :: t, _, h, _, _ => by simp at h
  | k + 1, a :: t, l, h, hv, hw => by
    have hne : a :: t ≠ [] := by simp
    obtain ⟨hz, hv'⟩ := validD_first _ hne hv
    have hle := rsz_le _ hne
    generalize hL : a :: t = L at *
    have hn2 : L ++ l ≠ [] := by simp [hne]
    rw [validD_rsz _ hn2, rsz_append L l hne hz, if_neg hz, List.drop_append_of_le_length hle.2]
    exact validD_append_n k _ l (by simp; omega) hv' hw
theorem cln_append (y l : List UInt8) (h1 : cln y = true) (h2 : cln l = true) : cln (y ++ l) = true :=
  cln_mk (validD_append_n _ y l (Nat.le_refl _) (cln_valid h1).1 (cln_valid h2).1) (by simp [(cln_valid h1).2, (cln_valid h2).2])
theorem cln_tail (l : List UInt8) (h : cln l = true) (hg : goes l = true) : cln (l.drop 1) = true := by
  obtain ⟨h1, h2⟩ := cln_valid h
  refine cln_mk ?_ (all_drop l 1 h2)
  cases l with
  | nil => exact absurd hg (by decide)
  | cons a t =>
    have : a.toNat < 128 := by simp [goes] at hg; omega
    rw [Lib.validD_cons a t this] at h1
    exact h1

/-- bytes of lines together -/
def tot : List (List UInt8) → Nat
  | [] => 0
  | x :: xs => x.length + tot xs
theorem tot_append : ∀ (a b : List (List UInt8)), tot (a ++ b) = tot a + tot b
  | [], b => by simp [tot]
  | x :: xs, b => by simp only [List.cons_append, tot, tot_append xs b]; omega
theorem tot_mem : ∀ (a : List (List UInt8)) (x : List UInt8), x ∈ a → x.length ≤ tot a
  | [], x, h => by simp at h
  | y :: ys, x, h => by
    simp only [List.mem_cons] at h
    simp only [tot]
    rcases h with rfl | h
    · omega
    · have := tot_mem ys x h; omega
theorem tot_onLast : ∀ (a : List (List UInt8)) (l : List UInt8), tot (onLast a l) ≤ tot a + l.length
  | [], l => by simp [onLast, tot]
  | [y], l => by simp [onLast, tot]
  | y :: z :: t, l => by
    have := tot_onLast (z :: t) l
    simp only [onLast, tot] at this ⊢; omega
theorem cln_onLast : ∀ (a : List (List UInt8)) (l : List UInt8), (∀ x ∈ a, cln x = true) → cln l = true → ∀ x ∈ onLast a l, cln x = true
  | [], l, _, _, x, h => by simp [onLast] at h
  | [y], l, ha, hl, x, h => by
    simp only [onLast, List.mem_singleton] at h
    subst h; exact cln_append y l (ha y (by simp)) hl
  | y :: z :: t, l, ha, hl, x, h => by
    simp only [onLast, List.mem_cons] at h
    rcases h with rfl | h
    · exact ha _ (by simp)
    · exact cln_onLast (z :: t) l (fun q hq => ha q (List.mem_cons_of_mem _ hq)) hl x h

theorem badLine_cln {num : Nat} {s : List UInt8} (h : badLine num s = false) : cln (s.take (lf s - 1)) = true ∧ lf s < s.length ∧ 0 < lf s := by
  unfold badLine at h
  simp only [Bool.or_eq_false_iff, decide_eq_false_iff_not, Bool.not_eq_false'] at h
  refine ⟨h.1.1.2, ?_, by omega⟩
  have : lf s ≤ s.length := List.findIdx_le_length
  omega

theorem un_clean_n : ∀ (k num : Nat) (acc m : List (List UInt8)) (s : List UInt8), s.length ≤ k → 1 ≤ num → (∀ x ∈ acc, cln x = true) → un num acc s = (0, m) →
    (∀ x ∈ m, cln x = true) ∧ tot m ≤ tot acc + s.length
  | k, num, acc, m, [], _, _, ha, h => by
    rw [un_nil] at h
    have : acc = m := (Prod.mk.inj h).2
    subst this; exact ⟨ha, by simp⟩
  | 0, _, _, _, a :: t, h, _, _, _ => by simp at h
  | k + 1, num, acc, m, a :: t, h, h1, ha, hu => by
    have hne : a :: t ≠ [] := by simp
    generalize hL : a :: t = L at *
    rw [un_step _ _ _ hne] at hu
    by_cases hb : badLine num L = true
    · rw [if_pos hb] at hu; have := (Prod.mk.inj hu).1; omega
    · rw [if_neg hb] at hu
      have hq := badLine_cln (num := num) (s := L) (by simpa using hb)
      have hlen : (L.take (lf L - 1)).length ≤ lf L - 1 := List.length_take_le _ _
      have := un_clean_n k (num + 1) _ m (L.drop (lf L + 1)) (by simp; omega) (by omega) (by
        by_cases hg : goes (L.take (lf L - 1)) = true
        · rw [if_pos hg]; exact cln_onLast acc _ ha (cln_tail _ hq.1 hg)
        · rw [if_neg hg]; intro x hx; simp only [List.mem_append, List.mem_singleton] at hx
          rcases hx with hx | hx
          · exact ha x hx
          · rw [hx]; exact hq.1) hu
      refine ⟨this.1, ?_⟩
      have h2 := this.2
      rw [List.length_drop] at h2
      by_cases hg : goes (L.take (lf L - 1)) = true
      · rw [if_pos hg] at h2
        have h3 := tot_onLast acc ((L.take (lf L - 1)).drop 1)
        rw [List.length_drop] at h3
        omega
      · rw [if_neg hg, tot_append] at h2
        simp only [tot] at h2
        omega
theorem un_clean (s : List UInt8) (m : List (List UInt8)) (h : un 1 [] s = (0, m)) : (∀ x ∈ m, cln x = true) ∧ tot m ≤ s.length := by
  have := un_clean_n _ 1 [] m s (Nat.le_refl _) (by omega) (by simp) h
  simpa [tot] using this


end Go.Proofs.YtmmnbdefkailpaaGreatDoor

/- Plain mathematics of texts: a line at the front, by Cut and CutSuffix. No program is named. -/
set_option linter.unusedVariables false
namespace Go.Proofs.YtmmnbdefkailpaaGreatDoor

theorem lf_le (L : List UInt8) : lf L ≤ L.length := List.findIdx_le_length
theorem lf_cons (b : UInt8) (l : List UInt8) : lf (b :: l) = if b = 10 then 0 else lf l + 1 := by
  unfold lf
  rw [List.findIdx_cons]
  by_cases h : b = 10
  · subst h; rfl
  · have : (b == 10) = false := by simpa using h
    rw [this, if_neg h]; rfl
theorem index_lf : ∀ (L : List UInt8), Lib.index L [10] = if lf L < L.length then (lf L : Int) else -1
  | [] => rfl
  | b :: l => by
    have ih := index_lf l
    have hle := lf_le l
    rw [lf_cons]
    unfold Lib.index
    by_cases h : b = 10
    · subst h
      have : ([10] : List UInt8).isPrefixOf (10 :: l) = true := by simp [List.isPrefixOf]
      rw [if_pos this]; simp
    · have : ([10] : List UInt8).isPrefixOf (b :: l) = false := by simp [List.isPrefixOf]; exact fun e => h e.symm
      rw [this, if_neg (by simp), if_neg h, ih]
      by_cases h2 : lf l < l.length
      · have e1 : (((lf l : Int)) == -1) = false := by simp only [beq_eq_false_iff_ne, ne_eq]; omega
        rw [if_pos h2, e1]
        have e2 : lf l + 1 < (b :: l).length := by rw [List.length_cons]; omega
        rw [if_pos e2, if_neg (by simp)]; omega
      · have e2 : ¬ lf l + 1 < (b :: l).length := by rw [List.length_cons]; omega
        rw [if_neg h2, if_neg e2]; rfl
theorem cut_hit (L : List UInt8) (h : lf L < L.length) : Lib.cut L [10] = (L.take (lf L), L.drop (lf L + 1), true) := by
  unfold Lib.cut
  rw [index_lf, if_pos h, if_pos (by omega)]
  simp
theorem cut_miss (L : List UInt8) (h : lf L = L.length) : Lib.cut L [10] = (L, [], false) := by
  unfold Lib.cut
  have e : Lib.index L [10] = -1 := by rw [index_lf, if_neg (by omega)]
  rw [e]; rfl

theorem hasSuffix_one (M : List UInt8) : Lib.hasSuffix M [13] = (!decide (M.length = 0) && (M.getD (M.length - 1) 0 == 13)) := by
  unfold Lib.hasSuffix
  rcases List.eq_nil_or_concat M with rfl | ⟨i, a, rfl⟩
  · rfl
  · simp [List.isSuffixOf, List.isPrefixOf, List.getD, Bool.beq_eq_decide_eq]
    by_cases h : a = 13
    · subst h; simp
    · simp [h]; exact fun e => h e.symm

/-- a line that does not end -/
theorem bad_open {num : Nat} {L : List UInt8} (h : lf L = L.length) : badLine num L = true := by
  unfold badLine; rw [decide_eq_true h]; rfl
theorem take_getD (L : List UInt8) (n : Nat) (h0 : 0 < n) (h : n ≤ L.length) : (L.take n).getD (n - 1) 0 = L.getD (n - 1) 0 := by
  simp only [List.getD, List.getElem?_take]
  rw [if_pos (by omega)]
theorem pair_eq (L : List UInt8) (h : lf L < L.length) : Lib.hasSuffix (L.take (lf L)) [13] = (!decide (lf L = 0) && (L.getD (lf L - 1) 0 == 13)) := by
  have hl : (L.take (lf L)).length = lf L := by rw [List.length_take]; omega
  rw [hasSuffix_one, hl]
  by_cases h0 : lf L = 0
  · rw [decide_eq_true h0]; rfl
  · rw [take_getD L _ (by omega) (by omega)]
theorem bad_pair {num : Nat} {L : List UInt8} (h : lf L < L.length) (hp : Lib.hasSuffix (L.take (lf L)) [13] = false) : badLine num L = true := by
  rw [pair_eq L h] at hp
  unfold badLine
  cases h0 : decide (lf L = 0)
  · rw [h0] at hp
    simp only [Bool.not_false, Bool.true_and] at hp
    rw [hp]; simp
  · simp
theorem trim_eq (L : List UInt8) (h : lf L < L.length) (hp : Lib.hasSuffix (L.take (lf L)) [13] = true) : Lib.trimSuffix (L.take (lf L)) [13] = L.take (lf L - 1) ∧ 0 < lf L := by
  have h0 : 0 < lf L := by
    rw [pair_eq L h] at hp
    rcases Nat.eq_zero_or_pos (lf L) with e | e
    · rw [decide_eq_true e] at hp; simp at hp
    · exact e
  unfold Lib.trimSuffix
  rw [if_pos hp, List.take_take]
  refine ⟨?_, h0⟩
  congr 1
  have hl : (L.take (lf L)).length = lf L := by rw [List.length_take]; omega
  rw [hl]
  simp only [List.length_cons, List.length_nil]; omega
/-- a line that ends as it must -/
theorem bad_rest {num : Nat} {L : List UInt8} (h : lf L < L.length) (hp : Lib.hasSuffix (L.take (lf L)) [13] = true) :
    badLine num L = (!cln (L.take (lf L - 1)) || decide (75 < lf L - 1) || (goes (L.take (lf L - 1)) && decide (num = 1))) := by
  rw [pair_eq L h] at hp
  simp only [Bool.and_eq_true, Bool.not_eq_true', decide_eq_false_iff_not] at hp
  unfold badLine
  rw [decide_eq_false (show ¬ lf L = L.length by omega), decide_eq_false hp.1, hp.2]
  simp
end Go.Proofs.YtmmnbdefkailpaaGreatDoor

/- Plain mathematics of texts: how many lines; what may be refused. No program is named. -/
set_option linter.unusedVariables false
namespace Go.Proofs.YtmmnbdefkailpaaGreatDoor

theorem onLast_length : ∀ (a : List (List UInt8)) (l : List UInt8), (onLast a l).length = a.length
  | [], l => rfl
  | [y], l => rfl
  | y :: z :: t, l => by simp only [onLast, List.length_cons, onLast_length (z :: t) l]
theorem un_count_n : ∀ (k num : Nat) (acc : List (List UInt8)) (s : List UInt8), s.length ≤ k → (un num acc s).2.length ≤ acc.length + s.length
  | k, num, acc, [], _ => by rw [un_nil]; simp
  | 0, _, _, a :: t, h => by simp at h
  | k + 1, num, acc, a :: t, h => by
    have hne : a :: t ≠ [] := by simp
    generalize hL : a :: t = L at *
    have hp : 0 < L.length := List.length_pos_iff.2 hne
    rw [un_step _ _ _ hne]
    by_cases hb : badLine num L = true
    · rw [if_pos hb]; simp
    · rw [if_neg hb]
      have := un_count_n k (num + 1) (if goes (L.take (lf L - 1)) = true then onLast acc ((L.take (lf L - 1)).drop 1) else acc ++ [L.take (lf L - 1)]) (L.drop (lf L + 1)) (by rw [List.length_drop]; omega)
      rw [List.length_drop] at this
      by_cases hg : goes (L.take (lf L - 1)) = true
      · rw [if_pos hg] at this ⊢; rw [onLast_length] at this; omega
      · rw [if_neg hg] at this ⊢; rw [List.length_append] at this; simp only [List.length_cons, List.length_nil] at this; omega
theorem un_count (s : List UInt8) : (un 1 [] s).2.length ≤ s.length := by
  have := un_count_n _ 1 [] s (Nat.le_refl _); simpa using this
theorem bnd_le : ∀ (ls : List (List UInt8)), bnd ls ≤ 2 * tot ls + 2 * ls.length
  | [] => by simp [bnd, tot]
  | x :: xs => by
    have := bnd_le xs
    simp only [bnd, tot, List.length_cons]; omega
theorem bnd_append : ∀ (a b : List (List UInt8)), bnd (a ++ b) = bnd a + bnd b
  | [], b => by simp [bnd]
  | x :: xs, b => by simp only [List.cons_append, bnd, bnd_append xs b]; omega
theorem tot_take : ∀ (ls : List (List UInt8)) (k : Nat), tot (ls.take k) ≤ tot ls
  | [], k => by simp [tot]
  | x :: xs, 0 => by simp [tot]
  | x :: xs, k + 1 => by have := tot_take xs k; simp only [List.take_succ_cons, tot]; omega

/-- may lines be refused? -/
def mor (ls : List (List UInt8)) : Bool := ls.any goes || decide (3900 < bnd ls)

/-- lines of a right text that Fold refuses: one goes on, or they are long -/
theorem mor_of {s : List UInt8} {ls : List (List UInt8)} (h : un 1 [] s = (0, ls)) (hs : s.length ≤ 4000) (hf : fo [] ls = none) : mor ls = true := by
  obtain ⟨hc, ht⟩ := un_clean s ls h
  unfold mor
  cases hg : ls.any goes
  · have := fo_none ls [] (fun x hx => ⟨hc x hx, by
      have h9 := List.any_eq_false.1 hg x hx; simpa using h9, by have := tot_mem ls x hx; omega⟩) hf
    simp at this
    simp; omega
  · rfl
end Go.Proofs.YtmmnbdefkailpaaGreatDoor
