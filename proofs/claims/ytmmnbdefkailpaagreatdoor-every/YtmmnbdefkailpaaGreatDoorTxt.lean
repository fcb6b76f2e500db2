/- Plain mathematics of texts: sizes of runes, clean lines, folding. No program is named. -/
import Derived.Lib.ValidLaws
import Derived.Test.YtmmnbdefkailpaaGreatDoorProg
import Derived.WalkKit
import Derived.WalkSpells
import Derived.WalkLawsBesides
import Derived.Lib.Strings

set_option linter.unusedVariables false
namespace Go.Proofs.YtmmnbdefkailpaaGreatDoor

/-- how many bytes the rune at the front has, by its numbers; 0: none is there -/
def rszN (n b0 b1 b2 b3 : Nat) : Nat :=
  if b0 < 128 then 1
  else if 192 ≤ b0 ∧ b0 < 224 then
    (if n < 2 then 0 else if b1 < 128 ∨ 191 < b1 then 0 else if 64 * b0 + b1 < 128 + (64 * 192 + 128) then 0 else 2)
  else if 224 ≤ b0 ∧ b0 < 240 then
    (if n < 3 then 0 else if b1 < 128 ∨ 191 < b1 then 0 else if b2 < 128 ∨ 191 < b2 then 0
     else if 4096 * b0 + 64 * b1 + b2 < 2048 + (4096 * 224 + 64 * 128 + 128) then 0
     else if 55296 + (4096 * 224 + 64 * 128 + 128) ≤ 4096 * b0 + 64 * b1 + b2 ∧ 4096 * b0 + 64 * b1 + b2 < 57344 + (4096 * 224 + 64 * 128 + 128) then 0 else 3)
  else if 240 ≤ b0 ∧ b0 < 248 then
    (if n < 4 then 0 else if b1 < 128 ∨ 191 < b1 then 0 else if b2 < 128 ∨ 191 < b2 then 0 else if b3 < 128 ∨ 191 < b3 then 0
     else if 262144 * b0 + 4096 * b1 + 64 * b2 + b3 < 65536 + (262144 * 240 + 4096 * 128 + 64 * 128 + 128) then 0
     else if 1114111 + (262144 * 240 + 4096 * 128 + 64 * 128 + 128) < 262144 * b0 + 4096 * b1 + 64 * b2 + b3 then 0 else 4)
  else 0

set_option maxRecDepth 100000 in
set_option maxHeartbeats 8000000 in
theorem rsz_decodeN (n b0 b1 b2 b3 : Nat) (hn : 1 ≤ n) (h0 : b0 < 256) (h1 : b1 < 256) (h2 : b2 < 256) (h3 : b3 < 256) :
    (rszN n b0 b1 b2 b3 = 0 ∧ Lib.decodeN n b0 b1 b2 b3 = (65533, 1)) ∨
    (rszN n b0 b1 b2 b3 ≠ 0 ∧ (Lib.decodeN n b0 b1 b2 b3).2 = rszN n b0 b1 b2 b3 ∧ ¬ ((Lib.decodeN n b0 b1 b2 b3).1 = 65533 ∧ (Lib.decodeN n b0 b1 b2 b3).2 = 1)) := by
  unfold rszN Lib.decodeN
  by_cases c0 : b0 < 128
  · rw [if_pos c0, if_pos c0]; right; refine ⟨by omega, rfl, ?_⟩; intro hh; have := hh.1; change b0 = 65533 at this; omega
  · rw [if_neg c0, if_neg c0]
    by_cases c1 : 192 ≤ b0 ∧ b0 < 224
    · have e1 : ¬ b0 / 16 = 14 := by omega
      have e2 : ¬ b0 / 8 = 30 := by omega
      have e0 : b0 / 32 = 6 := by omega
      simp only [if_pos c1, e0, e1, e2, false_and, if_false, true_and]
      clear e0 e1 e2 h2 h3
      repeat' split
      all_goals first | (left; exact ⟨rfl, rfl⟩) | (exfalso; omega) | (right; exact ⟨by decide, rfl, fun hh => by have h9 := hh.2; simp at h9⟩)
    · have e0 : ¬ b0 / 32 = 6 := by omega
      simp only [if_neg c1, e0, false_and, if_false]
      clear e0 c1
      by_cases c2 : 224 ≤ b0 ∧ b0 < 240
      · have e1 : b0 / 16 = 14 := by omega
        have e2 : ¬ b0 / 8 = 30 := by omega
        simp only [if_pos c2, e1, e2, false_and, if_false, true_and]
        clear e1 e2 h3
        repeat' split
        all_goals first | (left; exact ⟨rfl, rfl⟩) | (exfalso; omega) | (right; exact ⟨by decide, rfl, fun hh => by have h9 := hh.2; simp at h9⟩)
      · have e1 : ¬ b0 / 16 = 14 := by omega
        simp only [if_neg c2, e1, false_and, if_false]
        clear e1 c2
        by_cases c3 : 240 ≤ b0 ∧ b0 < 248
        · have e2 : b0 / 8 = 30 := by omega
          simp only [if_pos c3, e2, true_and]
          clear e2
          repeat' split
          all_goals first | (left; exact ⟨rfl, rfl⟩) | (exfalso; omega) | (right; exact ⟨by decide, rfl, fun hh => by have h9 := hh.2; simp at h9⟩)
        · have e2 : ¬ b0 / 8 = 30 := by omega
          simp only [if_neg c3, e2, false_and, if_false]; left; exact ⟨trivial, trivial⟩

/-- of a list of bytes -/
def rsz (l : List UInt8) : Nat := rszN l.length (l.getD 0 0).toNat (l.getD 1 0).toNat (l.getD 2 0).toNat (l.getD 3 0).toNat

theorem rsz_decode (l : List UInt8) (hne : l ≠ []) :
    (rsz l = 0 ∧ Lib.decodeL l = (65533, 1)) ∨ (rsz l ≠ 0 ∧ (Lib.decodeL l).2 = rsz l ∧ ¬ ((Lib.decodeL l).1 = 65533 ∧ (Lib.decodeL l).2 = 1)) := by
  have hl : 0 < l.length := List.length_pos_iff.2 hne
  rw [Lib.decodeL_N]
  exact rsz_decodeN _ _ _ _ _ hl (UInt8.toNat_lt _) (UInt8.toNat_lt _) (UInt8.toNat_lt _) (UInt8.toNat_lt _)

theorem rszN_le (n b0 b1 b2 b3 : Nat) (hn : 1 ≤ n) : rszN n b0 b1 b2 b3 ≤ 4 ∧ rszN n b0 b1 b2 b3 ≤ n := by
  unfold rszN
  repeat' split
  all_goals omega
theorem rsz_le (l : List UInt8) (hne : l ≠ []) : rsz l ≤ 4 ∧ rsz l ≤ l.length :=
  rszN_le _ _ _ _ _ (List.length_pos_iff.2 hne)

/-- what a rune's bytes are: the first one is no follower, the others are -/
theorem rszN_bytes (n b0 b1 b2 b3 : Nat) :
    (1 < rszN n b0 b1 b2 b3 → 192 ≤ b0 ∧ 128 ≤ b1 ∧ b1 ≤ 191) ∧ (2 < rszN n b0 b1 b2 b3 → 128 ≤ b2 ∧ b2 ≤ 191) ∧ (3 < rszN n b0 b1 b2 b3 → 128 ≤ b3 ∧ b3 ≤ 191) ∧ (rszN n b0 b1 b2 b3 = 1 → b0 < 128) := by
  unfold rszN
  repeat' split
  all_goals omega

theorem validD_rsz (l : List UInt8) (hne : l ≠ []) : Lib.validD l = if rsz l = 0 then false else Lib.validD (l.drop (rsz l)) := by
  rw [Lib.validD_step l hne]
  rcases rsz_decode l hne with ⟨h, hd⟩ | ⟨h, hd, hv⟩
  · rw [if_pos h, hd]; simp
  · rw [if_neg h, if_neg hv, hd]

/-- a byte that may stand in a line -/
def okb (b : UInt8) : Bool := !((decide (b.toNat < 32) && decide (b.toNat ≠ 9)) || decide (b.toNat = 127))

def clnGo : Nat → List UInt8 → Bool
  | 0, _ => true
  | n + 1, l => if l = [] then true else if rsz l = 0 ∨ okb (l.getD 0 0) = false then false else clnGo n (l.drop (rsz l))
/-- a clean line, as the reference asks -/
def cln (l : List UInt8) : Bool := clnGo l.length l

theorem clnGo_nil : ∀ n, clnGo n [] = true
  | 0 => rfl
  | n + 1 => by simp [clnGo]
theorem clnGo_fuel : ∀ (n m : Nat) (l : List UInt8), l.length ≤ n → l.length ≤ m → clnGo n l = clnGo m l
  | n, m, [], _, _ => by rw [clnGo_nil, clnGo_nil]
  | 0, m, a :: t, h, _ => by simp at h
  | n + 1, 0, a :: t, _, h => by simp at h
  | n + 1, m + 1, a :: t, h1, h2 => by
    simp only [clnGo]
    by_cases hz : rsz (a :: t) = 0 ∨ okb ((a :: t).getD 0 0) = false
    · rw [if_pos hz, if_pos hz]
    · rw [if_neg hz, if_neg hz]
      have : 0 < rsz (a :: t) := by
        have : ¬ rsz (a :: t) = 0 := fun h => hz (.inl h)
        omega
      rw [clnGo_fuel n m ((a :: t).drop (rsz (a :: t))) (by simp at h1 ⊢; omega) (by simp at h2 ⊢; omega)]
theorem cln_nil : cln [] = true := rfl
theorem cln_step (l : List UInt8) (hne : l ≠ []) : cln l = if rsz l = 0 ∨ okb (l.getD 0 0) = false then false else cln (l.drop (rsz l)) := by
  obtain ⟨a, t, rfl⟩ := List.exists_cons_of_ne_nil hne
  show clnGo (t.length + 1) (a :: t) = _
  simp only [clnGo, if_neg hne]
  by_cases hz : rsz (a :: t) = 0 ∨ okb ((a :: t).getD 0 0) = false
  · rw [if_pos hz, if_pos hz]
  · rw [if_neg hz, if_neg hz]
    have : 0 < rsz (a :: t) := by
      have : ¬ rsz (a :: t) = 0 := fun h => hz (.inl h)
      omega
    exact clnGo_fuel _ _ _ (by simp; omega) (Nat.le_refl _)

theorem okb_high (b : UInt8) (h : 128 ≤ b.toNat) : okb b = true := by
  simp [okb]; omega

theorem getD_of (l : List UInt8) (j : Nat) (h : j < l.length) : l.getD j 0 = l[j] := by simp [List.getD, h]

theorem all_take_rsz (l : List UInt8) (hne : l ≠ []) (hz : rsz l ≠ 0) : (l.take (rsz l)).all okb = okb (l.getD 0 0) := by
  have hle := rsz_le l hne
  have hb := rszN_bytes l.length (l.getD 0 0).toNat (l.getD 1 0).toNat (l.getD 2 0).toNat (l.getD 3 0).toNat
  change (1 < rsz l → _) ∧ (2 < rsz l → _) ∧ (3 < rsz l → _) ∧ (rsz l = 1 → _) at hb
  generalize rsz l = k at *
  rcases l with _ | ⟨a, _ | ⟨b, _ | ⟨c, _ | ⟨d, t⟩⟩⟩⟩
  · exact absurd rfl hne
  · have : k = 1 := by simp at hle; omega
    subst this; simp
  · have : k = 1 ∨ k = 2 := by simp at hle; omega
    rcases this with rfl | rfl
    · simp
    · have := hb.1 (by omega); simp [okb_high b this.2.1]
  · have : k = 1 ∨ k = 2 ∨ k = 3 := by simp at hle; omega
    rcases this with rfl | rfl | rfl
    · simp
    · have := hb.1 (by omega); simp [okb_high b this.2.1]
    · have := hb.1 (by omega); have q := hb.2.1 (by omega); simp [okb_high b this.2.1, okb_high c q.1]
  · have : k = 1 ∨ k = 2 ∨ k = 3 ∨ k = 4 := by omega
    rcases this with rfl | rfl | rfl | rfl
    · simp
    · have := hb.1 (by omega); simp [okb_high b this.2.1]
    · have := hb.1 (by omega); have q := hb.2.1 (by omega); simp [okb_high b this.2.1, okb_high c q.1]
    · have := hb.1 (by omega); have q := hb.2.1 (by omega); have r := hb.2.2.1 (by omega); simp [okb_high b this.2.1, okb_high c q.1, okb_high d r.1]

theorem cln_eq_n : ∀ (n : Nat) (l : List UInt8), l.length ≤ n → cln l = (Lib.validD l && l.all okb)
  | _, [], _ => rfl
  | 0, a :: t, h => by simp at h
  | n + 1, a :: t, h => by
    have hne : a :: t ≠ [] := by simp
    rw [cln_step _ hne, validD_rsz _ hne]
    by_cases hz : rsz (a :: t) = 0
    · rw [if_pos (.inl hz), if_pos hz]; rfl
    · rw [if_neg hz]
      have hsp : (a :: t).all okb = (okb ((a :: t).getD 0 0) && ((a :: t).drop (rsz (a :: t))).all okb) := by
        rw [← all_take_rsz _ hne hz, ← List.all_append, List.take_append_drop]
      rw [hsp]
      by_cases ho : okb ((a :: t).getD 0 0) = false
      · rw [if_pos (.inr ho), ho]; simp
      · have ho' : okb ((a :: t).getD 0 0) = true := by simpa using ho
        rw [if_neg (by intro hh; rcases hh with hh | hh; exact hz hh; exact ho hh), ho', Bool.true_and]
        exact cln_eq_n n _ (by have := rsz_le _ hne; simp at h ⊢; omega)
theorem cln_eq (l : List UInt8) : cln l = (Lib.validD l && l.all okb) := cln_eq_n _ l (Nat.le_refl _)

/-! ### folding -/
def sep : List UInt8 := [13, 10, 32]

/-- greedy, rune by rune -/
def grGo : Nat → Nat → List UInt8 → List UInt8
  | 0, _, _ => []
  | n + 1, room, l => if l = [] ∨ rsz l = 0 then [] else
      if room < rsz l then sep ++ (l.take (rsz l) ++ grGo n (74 - rsz l) (l.drop (rsz l))) else l.take (rsz l) ++ grGo n (room - rsz l) (l.drop (rsz l))
def gr (room : Nat) (l : List UInt8) : List UInt8 := grGo l.length room l

theorem grGo_nil : ∀ n room, grGo n room [] = []
  | 0, _ => rfl
  | n + 1, _ => by simp [grGo]
theorem grGo_fuel : ∀ (n m room : Nat) (l : List UInt8), l.length ≤ n → l.length ≤ m → grGo n room l = grGo m room l
  | n, m, room, [], _, _ => by rw [grGo_nil, grGo_nil]
  | 0, m, _, a :: t, h, _ => by simp at h
  | n + 1, 0, _, a :: t, _, h => by simp at h
  | n + 1, m + 1, room, a :: t, h1, h2 => by
    simp only [grGo]
    by_cases hz : a :: t = [] ∨ rsz (a :: t) = 0
    · rw [if_pos hz, if_pos hz]
    · rw [if_neg hz, if_neg hz]
      have : 0 < rsz (a :: t) := by
        have : ¬ rsz (a :: t) = 0 := fun h => hz (.inr h)
        omega
      rw [grGo_fuel n m _ ((a :: t).drop (rsz (a :: t))) (by simp at h1 ⊢; omega) (by simp at h2 ⊢; omega), grGo_fuel n m _ ((a :: t).drop (rsz (a :: t))) (by simp at h1 ⊢; omega) (by simp at h2 ⊢; omega)]
theorem gr_nil (room : Nat) : gr room [] = [] := rfl
theorem gr_step (room : Nat) (l : List UInt8) (hne : l ≠ []) (hz : rsz l ≠ 0) :
    gr room l = if room < rsz l then sep ++ (l.take (rsz l) ++ gr (74 - rsz l) (l.drop (rsz l))) else l.take (rsz l) ++ gr (room - rsz l) (l.drop (rsz l)) := by
  obtain ⟨a, t, rfl⟩ := List.exists_cons_of_ne_nil hne
  show grGo (t.length + 1) room (a :: t) = _
  simp only [grGo, if_neg (show ¬ (a :: t = [] ∨ rsz (a :: t) = 0) from fun h => h.elim hne hz)]
  rw [grGo_fuel t.length ((a :: t).drop (rsz (a :: t))).length _ _ (by simp; omega) (Nat.le_refl _), grGo_fuel t.length ((a :: t).drop (rsz (a :: t))).length _ _ (by simp; omega) (Nat.le_refl _)]
  rfl

/-- a byte at which a rune may begin -/
def startB (b : UInt8) : Bool := !decide (128 ≤ b.toNat ∧ b.toNat ≤ 191)
theorem startB_no (b : UInt8) (h : 128 ≤ b.toNat ∧ b.toNat ≤ 191) : startB b = false := by unfold startB; rw [decide_eq_true h]; rfl
theorem startB_yes (b : UInt8) (h : b.toNat < 128 ∨ 191 < b.toNat) : startB b = true := by unfold startB; rw [decide_eq_false (by omega)]; rfl
/-- back from a place to one where a rune begins -/
def bk (l : List UInt8) : Nat → Nat
  | 0 => 0
  | p + 1 => if startB (l.getD (p + 1) 0) then p + 1 else bk l p
def fit (l : List UInt8) (room : Nat) : Nat := if l.length ≤ room then l.length else bk l room

theorem bk_le (l : List UInt8) : ∀ p, bk l p ≤ p
  | 0 => Nat.le_refl _
  | p + 1 => by simp only [bk]; split; omega; have := bk_le l p; omega
theorem fit_le (l : List UInt8) (room : Nat) : fit l room ≤ l.length := by
  unfold fit; split; omega; have := bk_le l room; omega
theorem fit_room (l : List UInt8) (room : Nat) : fit l room ≤ room := by
  unfold fit; split; omega; exact bk_le l room

theorem rsz_ends (l : List UInt8) (hne : l ≠ []) (j : Nat) (h1 : 0 < j) (h2 : j < rsz l) : startB (l.getD j 0) = false := by
  have hle := rsz_le l hne
  have hb := rszN_bytes l.length (l.getD 0 0).toNat (l.getD 1 0).toNat (l.getD 2 0).toNat (l.getD 3 0).toNat
  change (1 < rsz l → _) ∧ (2 < rsz l → _) ∧ (3 < rsz l → _) ∧ (rsz l = 1 → _) at hb
  have : j = 1 ∨ j = 2 ∨ j = 3 := by omega
  rcases this with rfl | rfl | rfl
  · exact startB_no _ (hb.1 h2).2
  · exact startB_no _ (hb.2.1 h2)
  · exact startB_no _ (hb.2.2.1 h2)
theorem rsz_begins (l : List UInt8) (hne : l ≠ []) (h : rsz l ≠ 0) : startB (l.getD 0 0) = true := by
  have hle := rsz_le l hne
  have hb := rszN_bytes l.length (l.getD 0 0).toNat (l.getD 1 0).toNat (l.getD 2 0).toNat (l.getD 3 0).toNat
  change (1 < rsz l → _) ∧ (2 < rsz l → _) ∧ (3 < rsz l → _) ∧ (rsz l = 1 → _) at hb
  by_cases c : rsz l = 1
  · exact startB_yes _ (.inl (hb.2.2.2 c))
  · exact startB_yes _ (.inr (by have := (hb.1 (by omega)).1; omega))

theorem bk_small (l : List UInt8) (hne : l ≠ []) : ∀ p, p < rsz l → bk l p = 0
  | 0, _ => rfl
  | p + 1, h => by
    simp only [bk, rsz_ends l hne (p + 1) (by omega) h]
    simp; exact bk_small l hne p (by omega)
theorem bk_add (l : List UInt8) (n : Nat) (h0 : n < l.length) (hs : startB (l.getD n 0) = true) : ∀ k, bk l (n + k) = n + bk (l.drop n) k
  | 0 => by
    cases n with
    | zero => rfl
    | succ m => simp only [Nat.add_zero, bk, hs, if_true]
  | k + 1 => by
    show bk l (n + k + 1) = _
    have e : (l.drop n).getD (k + 1) 0 = l.getD (n + k + 1) 0 := by simp [List.getD, List.getElem?_drop, Nat.add_assoc]
    simp only [bk, e]
    split
    · omega
    · exact bk_add l n h0 hs k

theorem validD_first (l : List UInt8) (hne : l ≠ []) (hv : Lib.validD l = true) : rsz l ≠ 0 ∧ Lib.validD (l.drop (rsz l)) = true := by
  rw [validD_rsz l hne] at hv
  by_cases h : rsz l = 0
  · rw [if_pos h] at hv; exact absurd hv (by simp)
  · rw [if_neg h] at hv; exact ⟨h, hv⟩

theorem fit_small (l : List UInt8) (hne : l ≠ []) (room : Nat) (h : room < rsz l) : fit l room = 0 := by
  have := rsz_le l hne
  unfold fit; rw [if_neg (by omega)]; exact bk_small l hne room h
theorem fit_add (l : List UInt8) (hne : l ≠ []) (hv : Lib.validD l = true) (room : Nat) (h : rsz l ≤ room) : fit l room = rsz l + fit (l.drop (rsz l)) (room - rsz l) := by
  have hle := rsz_le l hne
  obtain ⟨hz, hv'⟩ := validD_first l hne hv
  unfold fit
  by_cases c : l.length ≤ room
  · rw [if_pos c, if_pos (by simp; omega)]; simp; omega
  · rw [if_neg c, if_neg (by simp; omega)]
    have hlt : rsz l < l.length := by omega
    have hd : l.drop (rsz l) ≠ [] := by
      intro hh; have := congrArg List.length hh; simp at this; omega
    have hs := rsz_begins _ hd (validD_first _ hd hv').1
    have e : (l.drop (rsz l)).getD 0 0 = l.getD (rsz l) 0 := by simp [List.getD, List.getElem?_drop]
    rw [e] at hs
    have := bk_add l (rsz l) hlt hs (room - rsz l)
    rw [show rsz l + (room - rsz l) = room by omega] at this
    exact this

/-- what is written is what fits, and then the rest behind a break -/
def rest (l : List UInt8) (n : Nat) : List UInt8 := if n < l.length then sep ++ gr 74 (l.drop n) else []

theorem gr_fit_n : ∀ (k room : Nat) (l : List UInt8), l.length ≤ k → Lib.validD l = true →
    gr room l = l.take (fit l room) ++ rest l (fit l room) ∧ Lib.validD (l.drop (fit l room)) = true
  | _, room, [], _, _ => by simp [gr_nil, rest, fit]; rfl
  | 0, _, a :: t, h, _ => by simp at h
  | k + 1, room, a :: t, h, hv => by
    have hne : a :: t ≠ [] := by simp
    obtain ⟨hz, hv'⟩ := validD_first _ hne hv
    have hle := rsz_le _ hne
    generalize hL : a :: t = L at *
    rw [gr_step room L hne hz]
    by_cases c : room < rsz L
    · rw [if_pos c, fit_small L hne room c]
      simp only [List.take_zero, List.nil_append, List.drop_zero]
      refine ⟨?_, hv⟩
      unfold rest
      rw [if_pos (by omega), List.drop_zero, gr_step 74 L hne hz, if_neg (by omega)]
    · rw [if_neg c, fit_add L hne hv room (by omega)]
      have ih := gr_fit_n k (room - rsz L) (L.drop (rsz L)) (by simp; omega) hv'
      have e1 : L.drop (rsz L + fit (L.drop (rsz L)) (room - rsz L)) = (L.drop (rsz L)).drop (fit (L.drop (rsz L)) (room - rsz L)) := by rw [List.drop_drop]
      rw [e1]
      refine ⟨?_, ih.2⟩
      rw [ih.1, List.take_add, List.append_assoc]
      congr 2
      unfold rest
      rw [e1]
      by_cases d : fit (L.drop (rsz L)) (room - rsz L) < (L.drop (rsz L)).length
      · rw [if_pos d, if_pos (by simp at d; omega)]
      · rw [if_neg d, if_neg (by simp at d; omega)]
theorem gr_fit (room : Nat) (l : List UInt8) (hv : Lib.validD l = true) : gr room l = l.take (fit l room) ++ rest l (fit l room) := (gr_fit_n _ room l (Nat.le_refl _) hv).1
theorem validD_fit (room : Nat) (l : List UInt8) (hv : Lib.validD l = true) : Lib.validD (l.drop (fit l room)) = true := (gr_fit_n _ room l (Nat.le_refl _) hv).2
theorem fit_pos (room : Nat) (l : List UInt8) (hv : Lib.validD l = true) (hr : 4 ≤ room) (hne : l ≠ []) : 0 < fit l room := by
  obtain ⟨hz, hv'⟩ := validD_first _ hne hv
  have hle := rsz_le _ hne
  rw [fit_add l hne hv room (by omega)]; omega

/-- a line that goes on -/
def goes (l : List UInt8) : Bool := match l with
  | [] => false
  | a :: _ => decide (a.toNat = 32) || decide (a.toNat = 9)
/-- a line that may be folded -/
def okl (l : List UInt8) : Bool := cln l && !goes l && decide (l.length ≤ 4000)
/-- all lines, folded, behind what is there; none: it is refused -/
def fo : List UInt8 → List (List UInt8) → Option (List UInt8)
  | acc, [] => some acc
  | acc, x :: xs => if okl x = true then (if 4000 < (acc ++ (gr 75 x ++ [13, 10])).length then none else fo (acc ++ (gr 75 x ++ [13, 10])) xs) else none
/-- what Fold answers -/
def foT (ls : List (List UInt8)) : List UInt8 := (fo [] ls).getD []
def foE (ls : List (List UInt8)) : Int := if (fo [] ls).isSome then 0 else 1

end Go.Proofs.YtmmnbdefkailpaaGreatDoor

/- The reference's runeSize, clean, goesOn. -/
namespace Go.Proofs.YtmmnbdefkailpaaGreatDoor
open Go.RowKit
set_option linter.unusedVariables false

theorem ret_int {k : IntKind} {a b : Int} (h : a = b) : Ending.returned (.int k a) = .returned (.int k b) := by rw [h]
theorem ret_bool {a b : Bool} (h : a = b) : Ending.returned (.bool a) = .returned (.bool b) := by rw [h]
theorem getD_data (s : ByteArray) (i : Nat) (h : i < s.size) : s.data.toList.getD i 0 = s[i] := by
  rw [getD_of _ _ (by simpa using h)]; rfl
theorem len_data (s : ByteArray) : s.data.toList.length = s.size := by simp

end Go.Proofs.YtmmnbdefkailpaaGreatDoor
