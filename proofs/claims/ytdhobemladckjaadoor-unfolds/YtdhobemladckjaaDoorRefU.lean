/- The reference's Unfold. -/
import Derived.Test.YtdhobemladckjaaDoorUnC
namespace Go.Proofs.YtdhobemladckjaaDoor
open Go.RowKit
set_option linter.unusedVariables false

theorem lf_here : ∀ (L : List UInt8) (j : Nat), j ≤ lf L → j < L.length → L.getD j 0 = 10 → lf L = j
  | [], j, _, h, _ => by simp at h
  | b :: l, 0, h1, _, h3 => by
    have : b = 10 := h3
    rw [lf_cons, if_pos this]
  | b :: l, j + 1, h1, h2, h3 => by
    rw [lf_cons] at h1 ⊢
    by_cases hb : b = 10
    · rw [if_pos hb] at h1; omega
    · rw [if_neg hb] at h1 ⊢
      have := lf_here l j (by omega) (by simpa using h2) (by simpa using h3)
      omega
theorem lf_next : ∀ (L : List UInt8) (j : Nat), j ≤ lf L → j < L.length → L.getD j 0 ≠ 10 → j + 1 ≤ lf L
  | [], j, _, h, _ => by simp at h
  | b :: l, 0, h1, _, h3 => by
    have : ¬ b = 10 := h3
    rw [lf_cons, if_neg this]; omega
  | b :: l, j + 1, h1, h2, h3 => by
    rw [lf_cons] at h1 ⊢
    by_cases hb : b = 10
    · rw [if_pos hb] at h1; omega
    · rw [if_neg hb] at h1 ⊢
      have := lf_next l j (by omega) (by simpa using h2) (by simpa using h3)
      omega
/-- the conditions, one by one -/
theorem bad_zero {num : Nat} {L : List UInt8} (h : lf L = 0) : badLine num L = true := by
  unfold badLine; rw [decide_eq_true h]; simp
theorem bad_cr {num : Nat} {L : List UInt8} (h : L.getD (lf L - 1) 0 ≠ 13) : badLine num L = true := by
  unfold badLine
  have : (L.getD (lf L - 1) 0 == 13) = false := by simpa using h
  rw [this]; simp
theorem bad_else {num : Nat} {L : List UInt8} (h1 : lf L ≠ L.length) (h2 : lf L ≠ 0) (h3 : L.getD (lf L - 1) 0 = 13) :
    badLine num L = (!cln (L.take (lf L - 1)) || decide (75 < lf L - 1) || (goes (L.take (lf L - 1)) && decide (num = 1))) := by
  unfold badLine
  rw [decide_eq_false h1, decide_eq_false h2, h3]; simp

theorem hide_ {p : Prop} (h : p) : Hid p := h

set_option maxRecDepth 100000 in
set_option maxHeartbeats 4000000 in
theorem rUnfold_short (s : ByteArray) (w : World) (hl : s.size ≤ 4000) :
    Calls Tryd.prog 7 #[.string s] w fun e w' => Below w.heap.size w w' ∧
      (((un 1 [] s.data.toList).1 ≠ 0 ∧ e = .returned (.tuple #[.slice none 0 0, .int .i64 2, .int .i64 (un 1 [] s.data.toList).1])) ∨
       ((un 1 [] s.data.toList).1 = 0 ∧ ∃ (v : Value) (ms : List ByteArray), e = .returned (.tuple #[v, .int .i64 0, .int .i64 0]) ∧ lns ms = (un 1 [] s.data.toList).2 ∧ w'.ownsRow w.heap.size 9 1 v ms.length (ms.map Value.string))) := by
  obtain ⟨i0, hi, hz0, hz1, hz2⟩ := info_parts strInfo'
  have hl' : ¬ (4000 : Int) < s.size := by omega
  go_enter Tryd.func7, Tryd.ntmps7
  go_wp2
  go_loopg [0, 5, 6] (s.size + 1) (fun gk x o nm wr => ∃ (p : Nat) (t : ByteArray) (acc : List ByteArray), x = .string t ∧ nm = .int .i64 ((p : Int) + 1) ∧ t.size < gk ∧ p + t.size ≤ s.size ∧ Below w.heap.size w wr ∧ wr.ownsRow w.heap.size 9 1 o acc.length (acc.map Value.string) ∧ acc.length ≤ p ∧ tot (lns acc) + t.size ≤ s.size ∧ (0 < p → acc ≠ []) ∧ un 1 [] s.data.toList = un (p + 1) (lns acc) t.data.toList)
  case atStart => exact ⟨0, s, [], rfl, rfl, Nat.lt_succ_self _, by omega, Below.refl _ _, World.ownsRow_nil _ _ _ _, Nat.le_refl _, by simp [tot], fun h => absurd h (by omega), rfl⟩
  case round =>
    obtain ⟨p, t, acc, rfl, rfl, hgk, hpt, hbr, hown, hap, htot, hne, hun⟩ := hrel
    by_cases h0 : 0 < t.size
    · have hde : t.toList.isEmpty = false := by
        rw [Lib.toList_data]; exact List.isEmpty_eq_false_iff.2 (data_ne t h0)
      have htn := data_ne t h0
      have hp4 : (p : Int) ≤ 4000 := by omega
      have ht4 : (t.size : Int) ≤ 4000 := by omega
      go_wp2
      go_loop [7] (fun e => ∃ j : Nat, j ≤ t.size ∧ e = .int .i64 j ∧ j ≤ lf t.data.toList) (fun e => t.size - (intOf e).toNat)
      case atStart => exact ⟨0, Nat.zero_le _, rfl, Nat.zero_le _⟩
      case round =>
        obtain ⟨j, hj, rfl, hjl⟩ := hrel
        by_cases hjt : j < t.size
        · have hjt' : (j : Int) < t.size := by omega
          by_cases h10 : (t[j].toNat : Int) = 10
          · have hb10 : t[j] = 10 := by apply UInt8.toNat_inj.1; show t[j].toNat = 10; omega
            have hlf : lf t.data.toList = j := lf_here _ _ hjl (by rw [len_data]; exact hjt) (by rw [getD_data t j hjt]; exact hb10)
            have b10 : ((t[j].toNat : Int) == 10) = true := beq_iff_eq.2 h10
            have bne : ((j : Int) == (t.size : Int)) = false := beq_eq_false_iff_ne.2 (by omega)
            clear h10 hb10
            cases j with
            | zero =>
              have HU : Hid (un 1 [] s.data.toList = (p + 1, [])) := by rw [hun, un_bad htn (bad_zero hlf)]; exact rfl
              clear hun hlf hjl
              go_wp2
              go_ret3
              exact ⟨hbr, .inl ⟨by rw [HU.out]; simp, by rw [HU.out]; rfl⟩⟩
            | succ q =>
              have bz : ((q : Int) + 1 == 0) = false := beq_eq_false_iff_ne.2 (by omega)
              have bne' : ((q : Int) + 1 == (t.size : Int)) = false := beq_eq_false_iff_ne.2 (by omega)
              clear bne
              have hqt : q < t.size := by omega
              have hqt' : (q : Int) < t.size := by omega
              have hq1 : lf t.data.toList - 1 = q := by omega
              by_cases h13 : (t[q].toNat : Int) = 13
              · have hb13 : t[q] = 13 := by apply UInt8.toNat_inj.1; show t[q].toNat = 13; omega
                have b13 : ((t[q].toNat : Int) == 13) = true := beq_iff_eq.2 h13
                have hbe := bad_else (num := p + 1) (L := t.data.toList) (by rw [len_data]; omega) (by omega) (by rw [hq1, getD_data t q hqt]; exact hb13)
                have hgo := fun h => un_good (num := p + 1) (acc := lns acc) htn h
                rw [hlf, Nat.add_sub_cancel] at hbe hgo
                rw [← data_upto t q] at hbe hgo
                rw [← data_extract t (q + 1 + 1)] at hgo
                have hZs : (t.extract 0 q).size = q := by rw [ByteArray.size_extract]; omega
                have hTs : (t.extract (q + 1 + 1) t.size).size = t.size - (q + 1 + 1) := by rw [ByteArray.size_extract]; omega
                have hZm : (t.extract 0 q).size ≤ maxLen := by unfold maxLen; omega
                have HZ : Hid ((t.extract 0 q).size = q) := hZs
                have HT : Hid ((t.extract (q + 1 + 1) t.size).size = t.size - (q + 1 + 1)) := hTs
                have cC := fun wx => clean_any (t.extract 0 q) wx hZm
                have cG := fun wx => rgoesOn_any (t.extract 0 q) wx hZm
                clear h13 hb13 hlf hjl hq1 hTs
                generalize hcl : cln (t.extract 0 q).data.toList = C at *
                generalize hge : goes (t.extract 0 q).data.toList = G at *
                have HG : Hid (goes (t.extract 0 q).data.toList = G) := hge
                clear hcl hge
                cases C with
                | false =>
                  have hbt : badLine (p + 1) t.data.toList = true := by rw [hbe]; simp
                  have HU : Hid (un 1 [] s.data.toList = (p + 1, [])) := by rw [hun, un_bad htn hbt]; exact rfl
                  clear hun hbt hbe hgo
                  go_wp2_with (first | (go_at_call 16; refine (cC _).mono ?_; rintro e w' ⟨rfl, rfl⟩) | (go_at_call 17; refine (cG _).mono ?_; rintro e w' ⟨rfl, rfl⟩))
                  go_ret3
                  exact ⟨hbr, .inl ⟨by rw [HU.out]; simp, by rw [HU.out]; rfl⟩⟩
                | true =>
                  by_cases c75 : (75 : Int) < q
                  · have hbt : badLine (p + 1) t.data.toList = true := by rw [hbe, decide_eq_true (show 75 < q by omega)]; simp
                    have HU : Hid (un 1 [] s.data.toList = (p + 1, [])) := by rw [hun, un_bad htn hbt]; exact rfl
                    clear hun hbt hbe hgo
                    go_wp2_with (first | (go_at_call 16; refine (cC _).mono ?_; rintro e w' ⟨rfl, rfl⟩) | (go_at_call 17; refine (cG _).mono ?_; rintro e w' ⟨rfl, rfl⟩))
                    go_ret3
                    exact ⟨hbr, .inl ⟨by rw [HU.out]; simp, by rw [HU.out]; rfl⟩⟩
                  · have e75 : decide (75 < q) = false := decide_eq_false (by omega)
                    cases G with
                    | false =>
                      have hbf : badLine (p + 1) t.data.toList = false := by rw [hbe, e75]; rfl
                      have hgo' := hgo hbf
                      have HU : Hid (un 1 [] s.data.toList = un (p + 1 + 1) (lns (acc ++ [t.extract 0 q])) (t.extract (q + 1 + 1) t.size).data.toList) := by
                        rw [hun, hgo']
                        show un (p + 1 + 1) (lns acc ++ [(t.extract 0 q).data.toList]) _ = _
                        simp [lns]
                      have ht2 : tot (lns (acc ++ [t.extract 0 q])) = tot (lns acc) + q := by
                        simp only [lns, List.map_append, List.map_cons, List.map_nil]
                        rw [tot_append]; simp only [tot, Nat.add_zero]; rw [len_data, HZ.out]
                      have HT2 : Hid (tot (lns (acc ++ [t.extract 0 q])) = tot (lns acc) + q) := ht2
                      clear hun hgo hgo' hbf hbe ht2 e75
                      go_wp2_with (first | (go_at_call 16; refine (cC _).mono ?_; rintro e w' ⟨rfl, rfl⟩) | (go_at_call 17; refine (cG _).mono ?_; rintro e w' ⟨rfl, rfl⟩) | (at_builtin; refine wpList_append_own _ rfl (.tmp 88) (.tmp 90) 22 rfl w.heap.size 9 i0 (.string ⟨#[]⟩) 1 16 Tryd.underlying22 hi hz0 hz1 hz2 rfl (by decide) _ _ _ rfl (hown.alloc _) ⟨_, 0, none⟩ 1 1 [.string (t.extract 0 q)] rfl rfl (cell_one_new _ _ _) ?c1 ?c2 ?c3 ?c4 ?_))
                      case c1 => intro u hu; simp at hu; subst hu; rfl
                      case c2 => unfold maxLen; omega
                      case c3 => omega
                      case c4 => have := hbr.size; simp; omega
                      intro v' w5 hown5 hgrow _
                      have hb5 : Below w.heap.size w w5 := (hbr.alloc hbr.size _).grown hgrow (by have := hbr.size; simp; omega) (fun k hk => (hown.lt k hk).1)
                      go_wp2
                      go_roundg (t.size)
                      case measure => omega
                      case rel =>
                        go_light
                        refine ⟨p + 1, t.extract (q + 1 + 1) t.size, acc ++ [t.extract 0 q], rfl, by go_num, by rw [HT.out]; omega, by rw [HT.out]; omega, hb5, ?_, by simp; omega, by rw [HT2.out, HT.out]; omega, fun _ => by simp, HU.out⟩
                        simpa using hown5
                    | true =>
                      by_cases hp0 : p = 0
                      · have bp1 : ((p : Int) + 1 == 1) = true := beq_iff_eq.2 (by omega)
                        have hbt : badLine (p + 1) t.data.toList = true := by rw [hbe, decide_eq_true (show p + 1 = 1 by omega)]; simp
                        clear hp0
                        have HU : Hid (un 1 [] s.data.toList = (p + 1, [])) := by rw [hun, un_bad htn hbt]; exact rfl
                        clear hun hbt hbe hgo
                        go_wp2_with (first | (go_at_call 16; refine (cC _).mono ?_; rintro e w' ⟨rfl, rfl⟩) | (go_at_call 17; refine (cG _).mono ?_; rintro e w' ⟨rfl, rfl⟩))
                        go_ret3
                        exact ⟨hbr, .inl ⟨by rw [HU.out]; simp, by rw [HU.out]; rfl⟩⟩
                      · have hbf : badLine (p + 1) t.data.toList = false := by rw [hbe, e75, decide_eq_false (show ¬ p + 1 = 1 by omega)]; rfl
                        have hgo' := hgo hbf
                        have bp1 : ((p : Int) + 1 == 1) = false := beq_eq_false_iff_ne.2 (by omega)
                        have hane := hne (by omega)
                        obtain ⟨ini, lst, rfl⟩ : ∃ ini lst, acc = ini ++ [lst] := by
                          rcases List.eq_nil_or_concat acc with e | ⟨i, a, e⟩
                          · exact absurd e hane
                          · exact ⟨i, a, by rw [e, List.concat_eq_append]⟩
                        have hq0 : (1 : Int) ≤ q := by
                          rcases Nat.eq_zero_or_pos q with e | e
                          · have : (t.extract 0 q).data.toList = [] := List.length_eq_zero_iff.1 (by rw [len_data, HZ.out]; exact e)
                            have h9 := HG.out; rw [this] at h9; exact absurd h9 (by decide)
                          · omega
                        have HU : Hid (un 1 [] s.data.toList = un (p + 1 + 1) (lns (ini ++ [lst ++ (t.extract 0 q).extract 1 q])) (t.extract (q + 1 + 1) t.size).data.toList) := by
                          rw [hun, hgo']
                          have e1 : lns (ini ++ [lst]) = lns ini ++ [lst.data.toList] := by simp [lns]
                          have e2 : lns (ini ++ [lst ++ (t.extract 0 q).extract 1 q]) = lns ini ++ [lst.data.toList ++ (t.extract 0 q).data.toList.drop 1] := by
                            simp only [lns, List.map_append, List.map_cons, List.map_nil]
                            have h8 := data_extract (t.extract 0 q) 1
                            rw [HZ.out] at h8
                            rw [data_append, h8]
                          rw [e1, e2]
                          simp only [if_true]
                          rw [onLast_snoc]
                          exact rfl
                        have ht1 : tot (lns (ini ++ [lst])) = tot (lns ini) + lst.size := by
                          simp only [lns, List.map_append, List.map_cons, List.map_nil]
                          rw [tot_append]; simp [tot]
                        have ht2 : tot (lns (ini ++ [lst ++ (t.extract 0 q).extract 1 q])) ≤ tot (lns ini) + (lst.size + q) := by
                          simp only [lns, List.map_append, List.map_cons, List.map_nil]
                          rw [tot_append]
                          simp only [tot, Nat.add_zero]
                          have h8 := data_extract (t.extract 0 q) 1
                          rw [HZ.out] at h8
                          rw [data_append, h8, List.length_append, List.length_drop, len_data, len_data, HZ.out]; omega
                        rw [ht1] at htot
                        have HT2 : Hid (tot (lns (ini ++ [lst ++ (t.extract 0 q).extract 1 q])) ≤ tot (lns ini) + (lst.size + q)) := ht2
                        have hlst : lst.size ≤ 4000 := by omega
                        clear ht1 ht2 hun hgo hgo' hbf hbe hane hne e75 htn
                        have hlen : (ini ++ [lst]).length = ini.length + 1 := by simp
                        rw [hlen] at hown hap
                        obtain ⟨g, cap, hv⟩ : ∃ g cap, u5 = .slice (some ⟨g, 0, none⟩) (ini.length + 1) cap := by
                          rcases hown.2 with ⟨_, h0⟩ | ⟨g, cap, cur, hv, _⟩
                          · omega
                          · exact ⟨g, cap, hv⟩
                        subst hv
                        have hin : (0 : Int) ≤ ini.length := by omega
                        have hin4 : (ini.length : Int) ≤ 4000 := by omega
                        have hc3 := own_cells hown ini.length (.string lst) (by simp)
                        have hf3 := own_free hown ini.length
                        have hset := own_set hown (Nat.lt_succ_self ini.length) (.string (lst ++ (t.extract 0 q).extract 1 q))
                        have hblk := (hown.lt g rfl).1
                        have HOWN := hide_ hown
                        have HSET := hide_ hset
                        clear hown hset hlen
                        go_wp2_with (first | (go_at_call 16; refine (cC _).mono ?_; rintro e w' ⟨rfl, rfl⟩) | (go_at_call 17; refine (cG _).mono ?_; rintro e w' ⟨rfl, rfl⟩))
                        go_region
                        go_wp2
                        go_roundg (t.size)
                        case measure => omega
                        case rel =>
                          go_light
                          refine ⟨p + 1, t.extract (q + 1 + 1) t.size, ini ++ [lst ++ (t.extract 0 q).extract 1 q], rfl, by go_num, by rw [HT.out]; omega, by rw [HT.out]; omega, ?_, ?_, by simp; omega, ?_, fun _ => by simp, HU.out⟩
                          · exact (hbr.setCell (p := ⟨g, ini.length, none⟩) hblk _).drew
                          · have e1 : (ini ++ [lst ++ (t.extract 0 q).extract 1 q]).length = ini.length + 1 := by simp
                            have e2 : (ini ++ [lst ++ (t.extract 0 q).extract 1 q]).map Value.string = ((ini ++ [lst]).map Value.string).set ini.length (.string (lst ++ (t.extract 0 q).extract 1 q)) := by
                              simp only [List.map_append, List.map_cons, List.map_nil]
                              rw [List.set_append_right _ _ (by simp)]
                              simp
                            rw [e1, e2]
                            exact HSET.out
                          · have := HT2.out; rw [HT.out]; omega
              · have hn13 : t[q] ≠ 13 := by intro e; apply h13; rw [e]; rfl
                have b13 : ((t[q].toNat : Int) == 13) = false := beq_eq_false_iff_ne.2 h13
                have HU : Hid (un 1 [] s.data.toList = (p + 1, [])) := by rw [hun, un_bad htn (bad_cr (by rw [hq1, getD_data t q hqt]; exact hn13))]; exact rfl
                clear hun hlf hjl h13 hn13
                go_wp2
                go_ret3
                exact ⟨hbr, .inl ⟨by rw [HU.out]; simp, by rw [HU.out]; rfl⟩⟩
          · have hn10 : t[j] ≠ 10 := by intro e; apply h10; rw [e]; rfl
            have hnx := lf_next _ _ hjl (by rw [len_data]; exact hjt) (by rw [getD_data t j hjt]; exact hn10)
            have b10 : ((t[j].toNat : Int) == 10) = false := beq_eq_false_iff_ne.2 h10
            clear h10
            go_wp2
            go_round
            case rel => go_light; exact ⟨j + 1, by omega, by go_num, hnx⟩
            case measure => go_light; simp [intOf]; omega
        · have hlf : lf t.data.toList = t.data.toList.length := by have := lf_le t.data.toList; rw [len_data] at this ⊢; omega
          have HU : Hid (un 1 [] s.data.toList = (p + 1, [])) := by rw [hun, un_bad htn (bad_open hlf)]; exact rfl
          clear hun hlf
          have bne : ((j : Int) == (t.size : Int)) = true := beq_iff_eq.2 (by omega)
          go_wp2
          go_ret3
          exact ⟨hbr, .inl ⟨by rw [HU.out]; simp, by rw [HU.out]; rfl⟩⟩
    · have ht0 : t.data.toList = [] := List.length_eq_zero_iff.1 (by rw [len_data]; omega)
      have hde : t.toList.isEmpty = true := by rw [Lib.toList_data, ht0]; rfl
      have HU : Hid (un 1 [] s.data.toList = (0, lns acc)) := by rw [hun, ht0, un_nil]; exact rfl
      clear hun ht0
      go_wp2
      go_ret3
      exact ⟨hbr, .inr ⟨by rw [HU.out], _, acc, rfl, by rw [HU.out], hown⟩⟩
end Go.Proofs.YtdhobemladckjaaDoor
