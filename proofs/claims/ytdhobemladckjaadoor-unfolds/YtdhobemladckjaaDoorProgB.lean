/- Package lines: write, fold, Fold. -/
import Derived.Test.YtdhobemladckjaaDoorProgA
namespace Go.Proofs.YtdhobemladckjaaDoor
open Go.RowKit
set_option linter.unusedVariables false

/-- the builder in its own words -/
abbrev Bl (B b : Nat) (l : List UInt8) (w : World) : Prop := Lib.IsBuilder 74 5 B b (Lib.byteCells l) w

theorem writeS (B b : Nat) (l : List UInt8) (s : ByteArray) (w : World) (h : Bl B b l w) (hlen : l.length + s.size ≤ 100000) (hBw : B ≤ w.heap.size) :
    Calls Tryd.prog 42 #[.pointer (some ⟨b, 0, none⟩), .string s] w fun e w' => e = .returned (.tuple #[.int .i64 s.size, .nilIface]) ∧ (Bl B b (l ++ s.data.toList) w' ∧ Below B w w') := by
  refine (writeString_any B b (Lib.byteCells l) s w h (by rw [Lib.byteCells_length]; omega) hBw).mono ?_
  rintro e w' ⟨rfl, h1, h2⟩
  refine ⟨rfl, ?_, h2⟩
  show Lib.IsBuilder 74 5 B b (Lib.byteCells (l ++ s.data.toList)) w'
  rw [Lib.byteCells_append, ← Lib.strCells_eq]; exact h1

theorem data_upto (s : ByteArray) (k : Nat) : (s.extract 0 k).data.toList = s.data.toList.take k := by
  rw [Lib.extract_data]; simp

def strLen : Value → Nat
  | .string s => s.size
  | _ => 0

set_option maxRecDepth 100000 in
set_option maxHeartbeats 1000000 in
theorem write_any (B b : Nat) (acc : List UInt8) (s : ByteArray) (w : World) (h : Bl B b acc w) (hacc : acc.length ≤ 4000) (hBw : B ≤ w.heap.size) (hs : s.size ≤ 4000) (hv : Lib.validD s.data.toList = true) :
    Calls Tryd.prog 29 #[.pointer (some ⟨b, 0, none⟩), .string s] w fun e w' => e = .returned (.tuple #[]) ∧ (Bl B b (acc ++ (gr 75 s.data.toList ++ [13, 10])) w' ∧ Below B w w') := by
  have hgl := gr_len _ hv
  rw [len_data] at hgl
  have hgl' : (gr 75 s.data.toList).length ≤ 4174 := by omega
  clear hgl
  have hm : s.size ≤ maxLen := by unfold maxLen; omega
  have hf1 := fit_le s.data.toList 75
  rw [len_data] at hf1
  have HG : Hid (gr 75 s.data.toList = s.data.toList.take (fit s.data.toList 75) ++ rest s.data.toList (fit s.data.toList 75)) := gr_fit 75 _ hv
  have HV : Hid (Lib.validD (s.data.toList.drop (fit s.data.toList 75)) = true) := validD_fit 75 _ hv
  have HP : Hid (fit s.data.toList 75 < s.size → 0 < fit s.data.toList 75) := fun hh => fit_pos 75 _ hv (by omega) (data_ne s (by omega))
  have cF := fitting_any s 75 w hm (by omega) hv
  generalize hN : fit s.data.toList 75 = N at *
  clear hN
  have hN' : (N : Int) ≤ s.size := by omega
  go_enter Tryd.func29, Tryd.ntmps29
  go_wp2_with (go_at_call 41; refine cF.mono ?_; rintro e w' ⟨rfl, rfl⟩)
  have hx0 : (s.extract 0 N).size = N := by rw [ByteArray.size_extract]; omega
  have HX0 : Hid ((s.extract 0 N).data.toList = s.data.toList.take N) := data_upto s N
  have cW := writeS B b acc (s.extract 0 N) w' h (by omega) hBw
  go_wp2_with (go_at_call 42; refine cW.mono ?_; rintro e w1 ⟨rfl, h1, hb1⟩)
  go_loopw [1, 4] (fun ln n wr => ∃ (t : ByteArray) (k : Nat) (q : List UInt8), ln = .string t ∧ n = .int .i64 k ∧ k ≤ t.size ∧ t.size ≤ 4000 ∧ (k < t.size → 0 < k) ∧ Lib.validD (t.data.toList.drop k) = true ∧ Bl B b q wr ∧ Below B w' wr ∧ q ++ rest t.data.toList k = acc ++ gr 75 s.data.toList) (fun ln _ _ => strLen ln)
  case atStart => exact ⟨s, N, acc ++ s.data.toList.take N, rfl, rfl, hf1, hs, HP.out, HV.out, by rw [← HX0.out]; exact h1, hb1, by rw [HG.out]; simp⟩
  case round =>
    obtain ⟨t, k, q, rfl, rfl, hk, ht, hkp, hvt, hB1, hbl, hq⟩ := hrel
    have hq4 : q.length ≤ 8174 := by
      have := congrArg List.length hq
      rw [List.length_append, List.length_append] at this; omega
    have hBr : B ≤ wr.heap.size := by have := hbl.size; omega
    by_cases hlt : (k : Int) < t.size
    · have hz : (t.extract k t.size).size = t.size - k := by rw [ByteArray.size_extract]; omega
      have hd : (t.extract k t.size).data.toList = t.data.toList.drop k := data_extract t k
      have hum : (t.extract k t.size).size ≤ maxLen := by unfold maxLen; omega
      have hvu : Lib.validD (t.extract k t.size).data.toList = true := by rw [hd]; exact hvt
      have hf2 := fit_le (t.extract k t.size).data.toList 74
      rw [len_data] at hf2
      have HG2 : Hid (gr 74 (t.extract k t.size).data.toList = (t.extract k t.size).data.toList.take (fit (t.extract k t.size).data.toList 74) ++ rest (t.extract k t.size).data.toList (fit (t.extract k t.size).data.toList 74)) := gr_fit 74 _ hvu
      have HV2 : Hid (Lib.validD ((t.extract k t.size).data.toList.drop (fit (t.extract k t.size).data.toList 74)) = true) := validD_fit 74 _ hvu
      have HP2 : Hid (fit (t.extract k t.size).data.toList 74 < (t.extract k t.size).size → 0 < fit (t.extract k t.size).data.toList 74) := fun hh => fit_pos 74 _ hvu (by omega) (data_ne _ (by omega))
      have cF2 := fun wx => fitting_any (t.extract k t.size) 74 wx hum (by omega) hvu
      generalize hM : fit (t.extract k t.size).data.toList 74 = M at *
      clear hM hvu
      rw [hz] at hf2
      have hM' : (M : Int) + k ≤ t.size := by omega
      have HD : Hid ((t.extract k t.size).data.toList = t.data.toList.drop k) := hd
      have HZ : Hid ((t.extract k t.size).size = t.size - k) := hz
      clear hd hz
      have cW1 := writeS B b q ⟨#[13, 10, 32]⟩ wr hB1 (by show q.length + 3 ≤ 100000; omega) hBr
      go_wp2_with (first | (go_at_call 41; refine (cF2 _).mono ?_; rintro e wq ⟨rfl, rfl⟩) | fail)
      refine cW1.mono ?_
      rintro e w2 ⟨rfl, h2, hb2⟩
      have hbl2 : Below B w' w2 := hbl.trans hb2
      have hB2 : B ≤ w2.heap.size := by have := hbl2.size; omega
      have hx2 : ((t.extract k t.size).extract 0 M).size = M := by rw [ByteArray.size_extract, HZ.out]; omega
      have HX2 : Hid (((t.extract k t.size).extract 0 M).data.toList = (t.extract k t.size).data.toList.take M) := data_upto _ M
      have cW2 := writeS B b _ ((t.extract k t.size).extract 0 M) w2 h2 (by rw [List.length_append, hx2]; change q.length + 3 + M ≤ 100000; omega) hB2
      have HX3 : Hid (((t.extract k t.size).extract 0 M).size = M) := hx2
      clear hx2
      go_wp2_with (go_at_call 42; refine cW2.mono ?_; rintro e w3 ⟨rfl, h3, hb3⟩)
      go_roundw
      case rel =>
        go_light
        refine ⟨t.extract k t.size, M, _, rfl, rfl, by rw [HZ.out]; omega, by rw [HZ.out]; omega, HP2.out, HV2.out, h3, hbl2.trans hb3, ?_⟩
        rw [← hq, HX2.out]
        have hr : rest t.data.toList k = sep ++ gr 74 (t.data.toList.drop k) := by unfold rest; rw [if_pos (by rw [len_data]; omega)]
        rw [hr, ← HD.out, HG2.out]
        simp [sep]
      case measure =>
        go_light
        have h9 := hkp (by omega)
        simp only [strLen]
        rw [HZ.out]; omega
    · have hr : rest t.data.toList k = [] := by unfold rest; rw [if_neg (by rw [len_data]; omega)]
      have HQ : Hid (q = acc ++ gr 75 s.data.toList) := by rw [hr, List.append_nil] at hq; exact hq
      have cW1 := writeS B b q ⟨#[13, 10]⟩ wr hB1 (by show q.length + 2 ≤ 100000; omega) hBr
      clear hq hr
      go_wp2_with (go_at_call 42; refine cW1.mono ?_; rintro e w2 ⟨rfl, h2, hb2⟩)
      go_end0
      refine ⟨rfl, ?_, hbl.trans hb2⟩
      rw [← List.append_assoc, ← HQ.out]
      exact h2
end Go.Proofs.YtdhobemladckjaaDoor
