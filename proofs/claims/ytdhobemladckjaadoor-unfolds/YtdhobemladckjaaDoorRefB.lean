/- The reference's runeSize at any text, clean, goesOn. -/
import Derived.Test.YtdhobemladckjaaDoorRefA
import Derived.Lib.IndexBytes
import Derived.Deep.Light
namespace Go.Proofs.YtdhobemladckjaaDoor
open Go.RowKit
set_option linter.unusedVariables false

theorem runeSize_any (s : ByteArray) (w : World) (hs : s.size ≤ maxLen) (h0 : 0 < s.size) :
    Calls Tryd.prog 20 #[.string s] w fun e w' => e = .returned (.int .i64 (rsz s.data.toList)) ∧ w' = w := by
  by_cases c1 : (s[0].toNat : Int) < 128
  · exact runeSize_1 s w hs h0 c1
  by_cases c2 : (s[0].toNat : Int) < 192
  · exact runeSize_0 s w hs h0 (by omega) (.inl c2)
  by_cases c3 : (s[0].toNat : Int) < 224
  · by_cases d : 1 < s.size
    · exact runeSize_2 s w hs h0 (by omega) c3 d
    · exact runeSize_short2 s w hs h0 (by omega) c3 (by omega)
  by_cases c4 : (s[0].toNat : Int) < 240
  · by_cases d : 2 < s.size
    · exact runeSize_3 s w hs h0 (by omega) c4 d
    · exact runeSize_short3 s w hs h0 (by omega) c4 (by omega)
  by_cases c5 : (s[0].toNat : Int) < 248
  · by_cases d : 3 < s.size
    · exact runeSize_4 s w hs h0 (by omega) c5 d
    · exact runeSize_short4 s w hs h0 (by omega) c5 (by omega)
  · exact runeSize_0 s w hs h0 (by omega) (.inr (by omega))

theorem data_extract (s : ByteArray) (a : Nat) : (s.extract a s.size).data.toList = s.data.toList.drop a := by
  have h := Lib.extract_to_end s a
  rw [h]
theorem data_ne (s : ByteArray) (h : 0 < s.size) : s.data.toList ≠ [] := by
  intro hh; have := congrArg List.length hh; rw [len_data, List.length_nil] at this; omega

theorem okb_cases (b : UInt8) : okb b = (!((decide ((b.toNat : Int) < 32) && !decide ((b.toNat : Int) = 9)) || decide ((b.toNat : Int) = 127))) := by
  unfold okb
  have e1 : decide (b.toNat < 32) = decide ((b.toNat : Int) < 32) := by congr 1; apply propext; omega
  have e2 : decide (b.toNat ≠ 9) = !decide ((b.toNat : Int) = 9) := by
    rw [← decide_not]; congr 1; apply propext; omega
  have e3 : decide (b.toNat = 127) = decide ((b.toNat : Int) = 127) := by congr 1; apply propext; omega
  rw [e1, e2, e3]
theorem okb_no {b : UInt8} (h : ((b.toNat : Int) < 32 ∧ (b.toNat : Int) ≠ 9) ∨ (b.toNat : Int) = 127) : okb b = false := by
  rw [okb_cases]; rcases h with ⟨h1, h2⟩ | h
  · simp [h1, h2]
  · simp [h]
theorem okb_yes {b : UInt8} (h : (32 ≤ (b.toNat : Int) ∨ (b.toNat : Int) = 9) ∧ (b.toNat : Int) ≠ 127) : okb b = true := by
  rw [okb_cases]
  have h3 : decide ((b.toNat : Int) = 127) = false := decide_eq_false h.2
  rw [h3]
  rcases h.1 with h1 | h1
  · have : decide ((b.toNat : Int) < 32) = false := decide_eq_false (by omega)
    rw [this]; rfl
  · have : decide ((b.toNat : Int) = 9) = true := decide_eq_true h1
    rw [this]; simp

theorem runeSize_at (s : ByteArray) (k : Nat) (w : World) (hs : s.size ≤ maxLen) (hk : k < s.size) :
    Calls Tryd.prog 20 #[.string (s.extract k s.size)] w fun e w' => e = .returned (.int .i64 (rsz (s.data.toList.drop k))) ∧ w' = w := by
  have hz : (s.extract k s.size).size = s.size - k := by simp
  have := runeSize_any (s.extract k s.size) w (by omega) (by omega)
  rw [data_extract] at this
  exact this

set_option maxRecDepth 100000 in
set_option maxHeartbeats 1000000 in
theorem clean_any (s : ByteArray) (w : World) (hs : s.size ≤ maxLen) :
    Calls Tryd.prog 16 #[.string s] w fun e w' => e = .returned (.bool (cln s.data.toList)) ∧ w' = w := by
  have hs' := hs
  unfold maxLen at hs
  go_enter Tryd.func16, Tryd.ntmps16
  go_wp2
  go_loop [3, 4] (fun i n => ∃ k : Nat, k ≤ s.size ∧ i = .int .i64 k ∧ cln s.data.toList = cln (s.data.toList.drop k)) (fun i _ => s.size - (intOf i).toNat)
  case atStart => exact ⟨0, Nat.zero_le _, rfl, by simp⟩
  case round =>
    obtain ⟨k, hk, rfl, hc⟩ := hrel
    by_cases hlt : k < s.size
    · have hd : (s.data.toList.drop k) ≠ [] := by
        intro hh; have := congrArg List.length hh; simp at this; omega
      have hst := cln_step _ hd
      have hle := rsz_le _ hd
      have h0 : (s.data.toList.drop k).getD 0 0 = s[k] := by
        rw [← getD_data s k hlt]; simp [List.getD, List.getElem?_drop]
      rw [h0] at hst
      have HC : Hid (cln s.data.toList = if rsz (s.data.toList.drop k) = 0 ∨ okb s[k] = false then false else cln ((s.data.toList.drop k).drop (rsz (s.data.toList.drop k)))) := hc.trans hst
      clear hc hst h0
      have HX : Hid ((s.extract k s.size).data.toList = s.data.toList.drop k) := data_extract s k
      have hu : (s[k].toNat : Int) < 256 := by have := UInt8.toNat_lt s[k]; omega
      have hlen : (s.data.toList.drop k).length = s.size - k := by simp
      generalize hR : rsz (s.data.toList.drop k) = R at *
      have HRR : Hid (rsz (s.data.toList.drop k) = R) := hR
      clear hR
      have hR2 : (R : Int) ≤ 4 := by omega
      have hR3 : (R : Int) + k ≤ s.size := by omega
      clear hle hlen
      go_wp2_with (go_at_call 20; refine (runeSize_at s k _ hs' hlt).mono ?_; rintro e w' ⟨rfl, rfl⟩; rw [HRR.out])
      all_goals first
        | (go_ret
           refine ⟨ret_bool ?_, rfl⟩
           go_light
           try simp only [beq_iff_eq] at *
           rw [HC.out, if_pos]
           first | exact .inl (by omega) | exact .inr (okb_no (by omega)))
        | (go_round
           case rel =>
             go_light
             try simp only [beq_eq_false_iff_ne, ne_eq] at *
             refine ⟨k + R, by omega, by go_num, ?_⟩
             rw [HC.out, if_neg (fun hh => hh.elim (by omega) (fun h9 => by rw [okb_yes (by omega)] at h9; simp at h9)), List.drop_drop]
           case measure =>
             go_light
             simp [intOf]; omega)
    · have hke : k = s.size := by omega
      have HC : Hid (cln s.data.toList = true) := by rw [hc, List.drop_of_length_le (by rw [len_data]; omega)]; exact rfl
      clear hc
      go_wp2
      go_ret
      exact ⟨ret_bool HC.out.symm, rfl⟩

set_option maxRecDepth 100000 in
set_option maxHeartbeats 1000000 in
theorem rgoesOn_any (s : ByteArray) (w : World) (hs : s.size ≤ maxLen) :
    Calls Tryd.prog 17 #[.string s] w fun e w' => e = .returned (.bool (goes s.data.toList)) ∧ w' = w := by
  by_cases h0 : 0 < s.size
  · have hg : goes s.data.toList = (decide ((s[0].toNat : Int) = 32) || decide ((s[0].toNat : Int) = 9)) := by
      have h1 := getD_data s 0 h0
      cases hl : s.data.toList with
      | nil => exact absurd hl (data_ne s h0)
      | cons a t =>
        rw [hl] at h1
        have : a = s[0] := h1
        subst this
        have e1 : decide (s[0].toNat = 32) = decide ((s[0].toNat : Int) = 32) := by congr 1; apply propext; omega
        have e2 : decide (s[0].toNat = 9) = decide ((s[0].toNat : Int) = 9) := by congr 1; apply propext; omega
        show (decide (s[0].toNat = 32) || decide (s[0].toNat = 9)) = _
        rw [e1, e2]
    have HG : Hid (goes s.data.toList = (decide ((s[0].toNat : Int) = 32) || decide ((s[0].toNat : Int) = 9))) := hg
    clear hg
    have hne : s.toList.isEmpty = false := by
      rw [Lib.toList_data]; exact List.isEmpty_eq_false_iff.2 (data_ne s h0)
    go_enter Tryd.func17, Tryd.ntmps17
    go_wp2
    · go_ret
      refine ⟨ret_bool ?_, rfl⟩
      rw [HG.out]; go_light; simp [*]
    · go_ret
      exact ⟨ret_bool (by rw [HG.out]; rfl), rfl⟩
  · have hl : s.data.toList = [] := List.length_eq_zero_iff.1 (by rw [len_data]; omega)
    have hg : Hid (goes s.data.toList = false) := by rw [hl]; exact rfl
    have hne : s.toList.isEmpty = true := by rw [Lib.toList_data, hl]; rfl
    clear hl
    go_enter Tryd.func17, Tryd.ntmps17
    go_wp2
    go_ret
    exact ⟨ret_bool (by rw [hg.out]), rfl⟩
end Go.Proofs.YtdhobemladckjaaDoor
