/- The reference's Fold. -/
import Derived.Test.YtdhobemladckjaaDoorRefB
import Derived.Test.YtdhobemladckjaaDoorTxu
namespace Go.Proofs.YtdhobemladckjaaDoor
open Go.RowKit
set_option linter.unusedVariables false

/-- the lines of texts in memory -/
abbrev lns (ss : List ByteArray) : List (List UInt8) := ss.map (fun s => s.data.toList)

theorem data_append (a b : ByteArray) : (a ++ b).data.toList = a.data.toList ++ b.data.toList := by simp
theorem data_mid (s : ByteArray) (a n : Nat) : (s.extract a (a + n)).data.toList = (s.data.toList.drop a).take n := by
  rw [Lib.extract_data]; congr 1; omega

theorem okl_parts {l : List UInt8} (h : okl l = true) : cln l = true ∧ goes l = false ∧ l.length ≤ 4000 := by
  simp only [okl, Bool.and_eq_true, Bool.not_eq_true', decide_eq_true_eq] at h; exact ⟨h.1.1, h.1.2, h.2⟩
theorem okl_no {l : List UInt8} (h : okl l = false) : cln l = false ∨ goes l = true ∨ 4000 < l.length := by
  unfold okl at h
  cases hc : cln l
  · exact .inl rfl
  · rw [hc] at h
    cases hg : goes l
    · rw [hg] at h; simp at h; exact .inr (.inr h)
    · exact .inr (.inl rfl)

theorem fo_drop (acc : List UInt8) (ss : List ByteArray) (k : Nat) (h : k < ss.length) :
    fo acc ((lns ss).drop k) = if okl (ss[k]).data.toList = true then (if 4000 < (acc ++ (gr 75 (ss[k]).data.toList ++ [13, 10])).length then none else fo (acc ++ (gr 75 (ss[k]).data.toList ++ [13, 10])) ((lns ss).drop (k + 1))) else none := by
  have e : (lns ss).drop k = (ss[k]).data.toList :: (lns ss).drop (k + 1) := by
    rw [List.drop_eq_getElem_cons (by simpa using h)]; simp
  rw [e]; rfl

/-- what Fold answers, told by its option -/
theorem fo_bad {ls : List (List UInt8)} (h : fo [] ls = none) : foT ls = [] ∧ foE ls = 1 := by unfold foT foE; rw [h]; exact ⟨rfl, rfl⟩
theorem fo_good {ls : List (List UInt8)} {t : List UInt8} (h : fo [] ls = some t) : foT ls = t ∧ foE ls = 0 := by unfold foT foE; rw [h]; exact ⟨rfl, rfl⟩

set_option maxRecDepth 100000 in
set_option maxHeartbeats 2000000 in
theorem rFold_any (xa : Option Addr) (xb xo xc : Nat) (ss : List ByteArray) (w : World) (hxa : 0 < ss.length → xa = some ⟨xb, xo, none⟩)
    (hn : ss.length ≤ maxLen) (hz : ∀ j (h : j < ss.length), (ss[j]).size ≤ maxLen) (hy : ∀ j (h : j < ss.length), w.cell? ⟨xb, xo + j, none⟩ = some (.string ss[j])) :
    Calls Tryd.prog 12 #[.slice xa ss.length xc] w fun e w' => e = .returned (.tuple #[.string ⟨(foT (lns ss)).toArray⟩, .int .i64 (foE (lns ss))]) ∧ w' = w := by
  have hn' := hn
  unfold maxLen at hn
  go_enter Tryd.func12, Tryd.ntmps12
  go_wp2
  go_loop [4, 5] (fun o i => ∃ (k : Nat) (t : ByteArray), k ≤ ss.length ∧ i = .int .i64 k ∧ o = .string t ∧ t.size ≤ 4000 ∧ fo [] (lns ss) = fo t.data.toList ((lns ss).drop k)) (fun _ i => ss.length - (intOf i).toNat)
  case atStart => exact ⟨0, ByteArray.empty, Nat.zero_le _, rfl, rfl, by decide, by simp⟩
  case round =>
    obtain ⟨k, t, hk, rfl, rfl, ht, hf⟩ := hrel
    by_cases hlt : k < ss.length
    · obtain rfl := hxa (by omega)
      have hcell := hy k hlt
      have hsz := hz k hlt
      rw [fo_drop _ _ _ hlt] at hf
      generalize hS : ss[k] = S at *
      have HF : Hid (fo [] (lns ss) = if okl S.data.toList = true then (if 4000 < (t.data.toList ++ (gr 75 S.data.toList ++ [13, 10])).length then none else fo (t.data.toList ++ (gr 75 S.data.toList ++ [13, 10])) ((lns ss).drop (k + 1))) else none) := hf
      clear hf hS hy hz
      have hsz' := hsz
      unfold maxLen at hsz
      cases hok : okl S.data.toList
      · have HB : Hid (foT (lns ss) = [] ∧ foE (lns ss) = 1) := fo_bad (ls := lns ss) (by rw [HF.out, hok]; rfl)
        rcases okl_no hok with h | h | h
        · go_wp2_with (first | (go_at_call 16; refine (clean_any _ _ hsz').mono ?_; rintro e w' ⟨rfl, rfl⟩) | (go_at_call 17; refine (rgoesOn_any _ _ hsz').mono ?_; rintro e w' ⟨rfl, rfl⟩))
          go_ret2
          rw [HB.out.1, HB.out.2]
          exact ⟨rfl, rfl⟩
        · cases h0 : cln S.data.toList
          all_goals
            go_wp2_with (first | (go_at_call 16; refine (clean_any _ _ hsz').mono ?_; rintro e w' ⟨rfl, rfl⟩) | (go_at_call 17; refine (rgoesOn_any _ _ hsz').mono ?_; rintro e w' ⟨rfl, rfl⟩))
            go_ret2
            rw [HB.out.1, HB.out.2]
            exact ⟨rfl, rfl⟩
        · have h' : (4000 : Int) < S.size := by rw [len_data] at h; omega
          cases h0 : cln S.data.toList
          all_goals cases h1 : goes S.data.toList
          all_goals
            go_wp2_with (first | (go_at_call 16; refine (clean_any _ _ hsz').mono ?_; rintro e w' ⟨rfl, rfl⟩) | (go_at_call 17; refine (rgoesOn_any _ _ hsz').mono ?_; rintro e w' ⟨rfl, rfl⟩))
            go_ret2
            rw [HB.out.1, HB.out.2]
            exact ⟨rfl, rfl⟩
      · obtain ⟨h1, h2, h3⟩ := okl_parts hok
        rw [len_data] at h3
        have hv := (cln_valid h1).1
        have hgl := gr_len _ hv
        rw [len_data] at hgl
        have hgl' : (gr 75 S.data.toList).length ≤ 4174 := by omega
        clear hgl
        have HV : Hid (Lib.validD S.data.toList = true) := hv
        clear hv
        have HF2 : Hid (fo [] (lns ss) = if 4000 < (t.data.toList ++ (gr 75 S.data.toList ++ [13, 10])).length then none else fo (t.data.toList ++ (gr 75 S.data.toList ++ [13, 10])) ((lns ss).drop (k + 1))) := by
          have := HF.out; rw [if_pos hok] at this; exact this
        clear HF
        have h3' : (S.size : Int) ≤ 4000 := by omega
        go_wp2_with (first | (go_at_call 16; refine (clean_any _ _ hsz').mono ?_; rintro e w' ⟨rfl, rfl⟩) | (go_at_call 17; refine (rgoesOn_any _ _ hsz').mono ?_; rintro e w' ⟨rfl, rfl⟩))
        go_loop [4, 8, 9] (fun o rm i => ∃ (j r : Nat) (q : ByteArray), j ≤ S.size ∧ r ≤ 75 ∧ o = .string q ∧ rm = .int .i64 r ∧ i = .int .i64 j ∧ q.data.toList ++ gr r (S.data.toList.drop j) = t.data.toList ++ gr 75 S.data.toList ∧ Lib.validD (S.data.toList.drop j) = true) (fun _ _ i => S.size - (intOf i).toNat)
        case atStart => exact ⟨0, 75, t, Nat.zero_le _, Nat.le_refl _, rfl, rfl, rfl, by simp, by simpa using HV.out⟩
        case round =>
          obtain ⟨j, r, q, hj, hr, rfl, rfl, rfl, hq, hvj⟩ := hrel
          have hqs : q.size ≤ 8174 := by
            have := congrArg List.length hq
            rw [List.length_append, List.length_append, len_data, len_data] at this; omega
          by_cases hjl : j < S.size
          · have hd : (S.data.toList.drop j) ≠ [] := by
              intro hh; have := congrArg List.length hh; simp at this; omega
            obtain ⟨hz0, hvn⟩ := validD_first _ hd hvj
            have hle := rsz_le _ hd
            have hgs := gr_step r _ hd hz0
            have hlen : (S.data.toList.drop j).length = S.size - j := by simp
            rw [hlen] at hle
            generalize hR : rsz (S.data.toList.drop j) = R at *
            have HRR : Hid (rsz (S.data.toList.drop j) = R) := hR
            clear hR
            have HQ : Hid (t.data.toList ++ gr 75 S.data.toList = q.data.toList ++ (if r < R then sep ++ ((S.data.toList.drop j).take R ++ gr (74 - R) ((S.data.toList.drop j).drop R)) else (S.data.toList.drop j).take R ++ gr (r - R) ((S.data.toList.drop j).drop R))) := by rw [← hq, hgs]; exact rfl
            have HVN : Hid (Lib.validD ((S.data.toList.drop j).drop R) = true) := hvn
            clear hq hgs hvn hvj hd hlen
            have hR1 : (1 : Int) ≤ R := by omega
            have hR2 : (R : Int) ≤ 4 := by omega
            have hR3 : (j : Int) + R ≤ S.size := by omega
            by_cases hrm : (r : Int) < R
            · go_wp2_with (go_at_call 20; refine (runeSize_at S j _ hsz' hjl).mono ?_; rintro e w' ⟨rfl, rfl⟩; rw [HRR.out])
              go_round
              case rel =>
                go_light
                refine ⟨j + R, 74 - R, q ++ ⟨#[13, 10, 32]⟩ ++ S.extract j (j + R), by omega, by omega, rfl, by go_num, by go_num, ?_, by rw [← List.drop_drop]; exact HVN.out⟩
                have h9 := HQ.out
                rw [if_pos (by omega)] at h9
                rw [h9, data_append, data_append, data_mid, ← List.drop_drop]
                simp [sep]
              case measure => go_light; simp [intOf]; omega
            · go_wp2_with (go_at_call 20; refine (runeSize_at S j _ hsz' hjl).mono ?_; rintro e w' ⟨rfl, rfl⟩; rw [HRR.out])
              go_round
              case rel =>
                go_light
                refine ⟨j + R, r - R, q ++ S.extract j (j + R), by omega, by omega, rfl, by go_num, by go_num, ?_, by rw [← List.drop_drop]; exact HVN.out⟩
                have h9 := HQ.out
                rw [if_neg (by omega)] at h9
                rw [h9, data_append, data_mid, ← List.drop_drop]
                simp
              case measure => go_light; simp [intOf]; omega
          · have hje : S.data.toList.drop j = [] := List.drop_of_length_le (by rw [len_data]; omega)
            have HQ : Hid (q.data.toList = t.data.toList ++ gr 75 S.data.toList) := by
              rw [hje, gr_nil, List.append_nil] at hq; exact hq
            clear hq hvj hje
            by_cases hbig : (4000 : Int) < (q.size : Int) + 2
            · have HB : Hid (foT (lns ss) = [] ∧ foE (lns ss) = 1) := fo_bad (ls := lns ss) (by
                rw [HF2.out, if_pos]
                rw [← List.append_assoc, ← HQ.out, List.length_append, len_data]
                simp only [List.length_cons, List.length_nil]; omega)
              go_wp2
              go_ret2
              rw [HB.out.1, HB.out.2]
              exact ⟨rfl, rfl⟩
            · have HF3 : Hid (fo [] (lns ss) = fo (q ++ ⟨#[13, 10]⟩).data.toList ((lns ss).drop (k + 1))) := by
                have h9 := HF2.out
                rw [if_neg (by
                  rw [← List.append_assoc, ← HQ.out, List.length_append, len_data]
                  simp only [List.length_cons, List.length_nil]; omega), ← List.append_assoc, ← HQ.out] at h9
                rw [data_append]; exact h9
              go_wp2
              go_round
              case rel =>
                go_light
                exact ⟨k + 1, q ++ ⟨#[13, 10]⟩, by omega, by go_num, rfl, by rw [ByteArray.size_append]; change q.size + 2 ≤ 4000; omega, HF3.out⟩
              case measure => go_light; simp [intOf]; omega
    · have hke : (lns ss).drop k = [] := List.drop_of_length_le (by simp; omega)
      have HB : Hid (foT (lns ss) = t.data.toList ∧ foE (lns ss) = 0) := fo_good (by rw [hf, hke]; rfl)
      clear hf hke
      go_wp2
      go_ret2
      rw [HB.out.1, HB.out.2]
      exact ⟨rfl, rfl⟩
end Go.Proofs.YtdhobemladckjaaDoor
