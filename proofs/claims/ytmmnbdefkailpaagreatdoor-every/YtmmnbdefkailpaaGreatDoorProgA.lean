/- Package lines: goesOn, checkBytes, checkWhole, fitting. -/
import Derived.Test.YtmmnbdefkailpaaGreatDoorTxt
import Derived.Test.YtmmnbdefkailpaaGreatDoorShelfAll
import Derived.Test.YtmmnbdefkailpaaGreatDoorShelfV
import Derived.Test.YtmmnbdefkailpaaGreatDoorBld
import Derived.Deep.QuietTactic
import Derived.BigQuiet

namespace Go.Proofs.YtmmnbdefkailpaaGreatDoor.Ln
open Go.RowKit
set_option linter.unusedVariables false

/-- what the package's variables hold -/
structure Prep (w : World) : Prop where
  e0 : ∃ t a, w.cell? ⟨1, 0, none⟩ = some (.iface t (.pointer (some a)))
  e2 : ∃ t a, w.cell? ⟨5, 0, none⟩ = some (.iface t (.pointer (some a)))
  e4 : ∃ t a, w.cell? ⟨15, 0, none⟩ = some (.iface t (.pointer (some a)))
  e5 : ∃ t a, w.cell? ⟨16, 0, none⟩ = some (.iface t (.pointer (some a)))
  tabs : Lib.Utf8Tabs 22 23 w
  size : 35 ≤ w.heap.size
theorem Prep.below {w w' : World} (h : Prep w) {B : Nat} (hB : 35 ≤ B) (hb : Below B w w') : Prep w' where
  e0 := by obtain ⟨t, a, h0⟩ := h.e0; exact ⟨t, a, by rw [hb.cell (p := ⟨1, 0, none⟩) (by show 1 < B; omega)]; exact h0⟩
  e2 := by obtain ⟨t, a, h0⟩ := h.e2; exact ⟨t, a, by rw [hb.cell (p := ⟨5, 0, none⟩) (by show 5 < B; omega)]; exact h0⟩
  e4 := by obtain ⟨t, a, h0⟩ := h.e4; exact ⟨t, a, by rw [hb.cell (p := ⟨15, 0, none⟩) (by show 15 < B; omega)]; exact h0⟩
  e5 := by obtain ⟨t, a, h0⟩ := h.e5; exact ⟨t, a, by rw [hb.cell (p := ⟨16, 0, none⟩) (by show 16 < B; omega)]; exact h0⟩
  tabs := ⟨fun c hc => by rw [hb.cell (p := ⟨22, c, none⟩) (by show 22 < B; omega)]; exact h.tabs.1 c hc, fun i hi => ⟨by rw [hb.cell (p := ⟨23, 2 * i, none⟩) (by show 23 < B; omega)]; exact (h.tabs.2 i hi).1, by rw [hb.cell (p := ⟨23, 2 * i + 1, none⟩) (by show 23 < B; omega)]; exact (h.tabs.2 i hi).2⟩⟩
  size := by have := hb.size; have := h.size; omega

set_option maxRecDepth 100000 in
set_option maxHeartbeats 1000000 in
theorem goesOn_any (s : ByteArray) (w : World) (hs : s.size ≤ maxLen) :
    Calls Tryz.prog 51 #[.string s] w fun e w' => e = .returned (.bool (goes s.data.toList)) ∧ w' = w := by
  by_cases h0 : 0 < s.size
  · have hg : goes s.data.toList = (decide ((s[0].toNat : Int) = 32) || decide ((s[0].toNat : Int) = 9)) := by
      have h1 := getD_data s 0 h0
      cases hl : s.data.toList with
      | nil => exact absurd hl (data_ne s h0)
      | cons a t =>
        rw [hl] at h1
        have : a = s[0] := h1
        subst this
        have e1 : decide (s[0].toNat = 32) = decide ((s[0].toNat : Int) = 32) := by congr 1; apply propext; omega
        have e2 : decide (s[0].toNat = 9) = decide ((s[0].toNat : Int) = 9) := by congr 1; apply propext; omega
        show (decide (s[0].toNat = 32) || decide (s[0].toNat = 9)) = _
        rw [e1, e2]
    have HG : Hid (goes s.data.toList = (decide ((s[0].toNat : Int) = 32) || decide ((s[0].toNat : Int) = 9))) := hg
    clear hg
    have hne : s.toList.isEmpty = false := by
      rw [Lib.toList_data]; exact List.isEmpty_eq_false_iff.2 (data_ne s h0)
    go_enter Tryz.func51, Tryz.ntmps51
    go_wp2
    · go_ret
      refine ⟨ret_bool ?_, rfl⟩
      rw [HG.out]; go_light; simp [*]
    · go_ret
      exact ⟨ret_bool (by rw [HG.out]; rfl), rfl⟩
  · have hl : s.data.toList = [] := List.length_eq_zero_iff.1 (by rw [len_data]; omega)
    have hg : Hid (goes s.data.toList = false) := by rw [hl]; exact rfl
    have hne : s.toList.isEmpty = true := by rw [Lib.toList_data, hl]; rfl
    clear hl
    go_enter Tryz.func51, Tryz.ntmps51
    go_wp2
    go_ret
    exact ⟨ret_bool (by rw [hg.out]), rfl⟩

/-- an error that is none, or one that is -/
def isErr (ok : Bool) (v : Value) : Prop := (ok = true ∧ v = .nilIface) ∨ (ok = false ∧ ∃ t a, v = .iface t (.pointer (some a)))

theorem all_snoc (s : ByteArray) (k : Nat) (h : k < s.size) : (s.data.toList.take (k + 1)).all okb = ((s.data.toList.take k).all okb && okb s[k]) := by
  rw [List.take_succ_eq_append_getElem (by simpa using h)]
  simp
  rfl

set_option maxRecDepth 100000 in
set_option maxHeartbeats 1000000 in
theorem checkBytes_any (s : ByteArray) (w : World) (hs : s.size ≤ maxLen) (hp : Prep w) :
    Calls Tryz.prog 90 #[.string s] w fun e w' => ∃ v, e = .returned v ∧ isErr (cln s.data.toList) v ∧ Below w.heap.size w w' := by
  have hs' := hs
  unfold maxLen at hs
  obtain ⟨C, hC⟩ : ∃ C, cln s.data.toList = C := ⟨_, rfl⟩
  rw [hC]
  rw [cln_eq] at hC
  cases hv : Lib.validD s.data.toList
  · have cV := utf8_ValidString s w hs' hp.tabs
    rw [hv] at cV hC
    rw [Bool.false_and] at hC
    subst hC
    go_enter Tryz.func90, Tryz.ntmps90
    go_wp2_with (go_at_call 136; refine cV.mono ?_; rintro e w1 ⟨rfl, hb1⟩; obtain ⟨t4, a4, h4⟩ := (hp.below hp.size hb1).e4)
    go_ret
    exact ⟨_, rfl, .inr ⟨rfl, t4, a4, rfl⟩, hb1⟩
  · have cV := utf8_ValidString s w hs' hp.tabs
    rw [hv] at cV hC
    rw [Bool.true_and] at hC
    have HC : Hid (s.data.toList.all okb = C) := hC
    clear hC
    go_enter Tryz.func90, Tryz.ntmps90
    go_wp2_with (go_at_call 136; refine cV.mono ?_; rintro e w1 ⟨rfl, hb1⟩; obtain ⟨t5, a5, h5⟩ := (hp.below hp.size hb1).e5)
    go_loop [11] (fun i => ∃ k : Nat, k ≤ s.size ∧ i = .int .i64 k ∧ (s.data.toList.take k).all okb = true) (fun i => s.size - (intOf i).toNat)
    case atStart => exact ⟨0, Nat.zero_le _, rfl, rfl⟩
    case round =>
      obtain ⟨k, hk, rfl, ha⟩ := hrel
      by_cases hlt : k < s.size
      · have hsn := all_snoc s k hlt
        rw [ha, Bool.true_and] at hsn
        have HS : Hid ((s.data.toList.take (k + 1)).all okb = okb s[k]) := hsn
        clear hsn ha
        have HN : Hid (okb s[k] = false → C = false) := by
          intro h9
          rw [← HC.out]
          apply Bool.eq_false_iff.2
          intro hall
          rw [List.all_eq_true] at hall
          have := hall s[k] (by rw [← getD_data s k hlt, getD_of _ _ (by simpa using hlt)]; exact List.getElem_mem _)
          rw [this] at h9; exact absurd h9 (by simp)
        have hu : (s[k].toNat : Int) < 256 := by have := UInt8.toNat_lt s[k]; omega
        go_wp2
        all_goals first
          | (go_ret
             refine ⟨_, rfl, .inr ⟨HN.out (okb_no ?_), t5, a5, rfl⟩, hb1⟩
             go_light
             try simp only [beq_iff_eq] at *
             omega)
          | (go_round
             case rel =>
               go_light
               try simp only [beq_eq_false_iff_ne, ne_eq] at *
               refine ⟨k + 1, by omega, by go_num, ?_⟩
               rw [HS.out]
               exact okb_yes (by omega)
             case measure => go_light; simp [intOf]; omega)
      · have HA : Hid (C = true) := by
          rw [List.take_of_length_le (by rw [len_data]; omega), HC.out] at ha; exact ha
        clear ha
        go_wp2
        go_ret
        exact ⟨_, rfl, .inl ⟨HA.out, rfl⟩, hb1⟩

set_option maxRecDepth 100000 in
set_option maxHeartbeats 1000000 in
theorem checkWhole_any (s : ByteArray) (w : World) (hs : s.size ≤ maxLen) (hp : Prep w) :
    Calls Tryz.prog 109 #[.string s] w fun e w' => ∃ v, e = .returned v ∧ isErr (okl s.data.toList) v ∧ Below w.heap.size w w' := by
  have hs' := hs
  unfold maxLen at hs
  have hlen := len_data s
  by_cases h1 : (4000 : Int) < s.size
  · have ho : okl s.data.toList = false := by
      unfold okl; rw [hlen]; have : decide (s.size ≤ 4000) = false := decide_eq_false (by omega)
      rw [this, Bool.and_false]
    rw [ho]; clear ho hlen
    obtain ⟨t0, a0, e0⟩ := hp.e0
    go_enter Tryz.func109, Tryz.ntmps109
    go_wp2
    go_ret
    exact ⟨_, rfl, .inr ⟨rfl, t0, a0, rfl⟩, Below.refl _ _⟩
  · have hd : decide (s.size ≤ 4000) = true := decide_eq_true (by omega)
    cases h2 : goes s.data.toList
    · have ho : okl s.data.toList = cln s.data.toList := by
        unfold okl; rw [hlen, hd, h2]; simp
      rw [ho]; clear ho hlen hd
      go_enter Tryz.func109, Tryz.ntmps109
      go_wp2_with (first | (go_at_call 51; refine (goesOn_any _ _ hs').mono ?_; rintro e w' ⟨rfl, rfl⟩) | (go_at_call 90; refine (checkBytes_any _ _ hs' hp).mono ?_; rintro e w' ⟨v, rfl, hv, hb⟩))
      go_ret
      exact ⟨_, rfl, hv, hb⟩
    · have ho : okl s.data.toList = false := by
        unfold okl; rw [h2]; simp
      rw [ho]; clear ho hlen hd
      obtain ⟨t0, a0, e0⟩ := hp.e2
      go_enter Tryz.func109, Tryz.ntmps109
      go_wp2_with (go_at_call 51; refine (goesOn_any _ _ hs').mono ?_; rintro e w' ⟨rfl, rfl⟩)
      go_ret
      exact ⟨_, rfl, .inr ⟨rfl, t0, a0, rfl⟩, Below.refl _ _⟩

theorem runeStart_eq (b : UInt8) : Lib.runeStart (b.toNat : Int) = startB b := by
  have hb := UInt8.toNat_lt b
  unfold Lib.runeStart startB
  by_cases h : 128 ≤ b.toNat ∧ b.toNat ≤ 191
  · rw [decide_eq_true h]
    have : (b.toNat : Int) / 64 = 2 := by omega
    rw [this]; rfl
  · rw [decide_eq_false h]
    have : ¬ (b.toNat : Int) / 64 = 2 := by omega
    simpa using this

set_option maxRecDepth 100000 in
set_option maxHeartbeats 1000000 in
theorem fitting_any (s : ByteArray) (room : Nat) (w : World) (hs : s.size ≤ maxLen) (hr : room ≤ 75) (hv : Lib.validD s.data.toList = true) :
    Calls Tryz.prog 152 #[.string s, .int .i64 room] w fun e w' => e = .returned (.int .i64 (fit s.data.toList room)) ∧ w' = w := by
  have hs' := hs
  unfold maxLen at hs
  by_cases h1 : (s.size : Int) ≤ room
  · have HF : Hid (fit s.data.toList room = s.size) := by
      unfold fit; rw [len_data, if_pos (by omega)]; exact rfl
    go_enter Tryz.func152, Tryz.ntmps152
    go_wp2
    go_ret
    exact ⟨ret_int (by rw [HF.out]), rfl⟩
  · have HF : Hid (fit s.data.toList room = bk s.data.toList room) := by
      unfold fit; rw [len_data, if_neg (by omega)]; exact rfl
    have hs0 : startB (s.data.toList.getD 0 0) = true := by
      have hne := data_ne s (by omega)
      exact rsz_begins _ hne (validD_first _ hne hv).1
    rw [getD_data s 0 (by omega)] at hs0
    have HS0 : Hid (startB s[0] = true) := hs0
    clear hs0 hv
    go_enter Tryz.func152, Tryz.ntmps152
    go_wp2
    go_loop [1] (fun r => ∃ p : Nat, p ≤ room ∧ r = .int .i64 p ∧ bk s.data.toList room = bk s.data.toList p) (fun r => (intOf r).toNat)
    case atStart => exact ⟨room, Nat.le_refl _, rfl, rfl⟩
    case round =>
      obtain ⟨p, hp, rfl, hb⟩ := hrel
      have hps : p < s.size := by omega
      have hps' : (p : Int) < s.size := by omega
      have hu : (s[p].toNat : Int) < 256 := by have := UInt8.toNat_lt s[p]; omega
      have hrs := Tryz.utf8_RuneStart (s[p].toNat : Int) w (by omega) hu
      rw [runeStart_eq] at hrs
      cases hst : startB s[p]
      · have hp0 : p ≠ 0 := by
          rintro rfl
          exact absurd HS0.out (by rw [hst]; simp)
        obtain ⟨q, rfl⟩ : ∃ q, p = q + 1 := ⟨p - 1, by omega⟩
        have hbq : bk s.data.toList (q + 1) = bk s.data.toList q := by
          simp only [bk]
          rw [getD_data s (q + 1) hps, hst]; simp
        have HB : Hid (bk s.data.toList room = bk s.data.toList q) := hb.trans hbq
        rw [hst] at hrs
        clear hb hbq
        go_wp2_with (go_at_call 203; refine hrs.mono ?_; rintro e w' ⟨rfl, rfl⟩)
        go_round
        case rel => go_light; exact ⟨q, by omega, by go_num, HB.out⟩
        case measure => go_light; simp [intOf]
      · have hbq : bk s.data.toList p = p := by
          cases p with
          | zero => rfl
          | succ q => simp only [bk]; rw [getD_data s (q + 1) hps, hst]; rfl
        have HB : Hid (fit s.data.toList room = p) := HF.out.trans (hb.trans hbq)
        rw [hst] at hrs
        clear hb hbq
        go_wp2_with (go_at_call 203; refine hrs.mono ?_; rintro e w' ⟨rfl, rfl⟩)
        go_ret
        exact ⟨ret_int (by rw [HB.out]), rfl⟩
end Go.Proofs.YtmmnbdefkailpaaGreatDoor.Ln

/- Package lines: write, fold, Fold. -/
namespace Go.Proofs.YtmmnbdefkailpaaGreatDoor.Ln
open Go.RowKit
set_option linter.unusedVariables false

/-- the builder in its own words -/
abbrev Bl (B b : Nat) (l : List UInt8) (w : World) : Prop := Lib.IsBuilder 156 5 B b (Lib.byteCells l) w

theorem writeS (B b : Nat) (l : List UInt8) (s : ByteArray) (w : World) (h : Bl B b l w) (hlen : l.length + s.size ≤ 100000) (hBw : B ≤ w.heap.size) :
    Calls Tryz.prog 140 #[.pointer (some ⟨b, 0, none⟩), .string s] w fun e w' => e = .returned (.tuple #[.int .i64 s.size, .nilIface]) ∧ (Bl B b (l ++ s.data.toList) w' ∧ Below B w w') := by
  refine (writeString_any B b (Lib.byteCells l) s w h (by rw [Lib.byteCells_length]; omega) hBw).mono ?_
  rintro e w' ⟨rfl, h1, h2⟩
  refine ⟨rfl, ?_, h2⟩
  show Lib.IsBuilder 156 5 B b (Lib.byteCells (l ++ s.data.toList)) w'
  rw [Lib.byteCells_append, ← Lib.strCells_eq]; exact h1

theorem data_upto (s : ByteArray) (k : Nat) : (s.extract 0 k).data.toList = s.data.toList.take k := by
  rw [Lib.extract_data]; simp

def strLen : Value → Nat
  | .string s => s.size
  | _ => 0

set_option maxRecDepth 100000 in
set_option maxHeartbeats 1000000 in
theorem write_any (B b : Nat) (acc : List UInt8) (s : ByteArray) (w : World) (h : Bl B b acc w) (hacc : acc.length ≤ 4000) (hBw : B ≤ w.heap.size) (hs : s.size ≤ 4000) (hv : Lib.validD s.data.toList = true) :
    Calls Tryz.prog 110 #[.pointer (some ⟨b, 0, none⟩), .string s] w fun e w' => e = .returned (.tuple #[]) ∧ (Bl B b (acc ++ (gr 75 s.data.toList ++ [13, 10])) w' ∧ Below B w w') := by
  have hgl := gr_len _ hv
  rw [len_data] at hgl
  have hgl' : (gr 75 s.data.toList).length ≤ 4174 := by omega
  clear hgl
  have hm : s.size ≤ maxLen := by unfold maxLen; omega
  have hf1 := fit_le s.data.toList 75
  rw [len_data] at hf1
  have HG : Hid (gr 75 s.data.toList = s.data.toList.take (fit s.data.toList 75) ++ rest s.data.toList (fit s.data.toList 75)) := gr_fit 75 _ hv
  have HV : Hid (Lib.validD (s.data.toList.drop (fit s.data.toList 75)) = true) := validD_fit 75 _ hv
  have HP : Hid (fit s.data.toList 75 < s.size → 0 < fit s.data.toList 75) := fun hh => fit_pos 75 _ hv (by omega) (data_ne s (by omega))
  have cF := fitting_any s 75 w hm (by omega) hv
  generalize hN : fit s.data.toList 75 = N at *
  clear hN
  have hN' : (N : Int) ≤ s.size := by omega
  go_enter Tryz.func110, Tryz.ntmps110
  go_wp2_with (go_at_call 152; refine cF.mono ?_; rintro e w' ⟨rfl, rfl⟩)
  have hx0 : (s.extract 0 N).size = N := by rw [ByteArray.size_extract]; omega
  have HX0 : Hid ((s.extract 0 N).data.toList = s.data.toList.take N) := data_upto s N
  have cW := writeS B b acc (s.extract 0 N) w' h (by omega) hBw
  go_wp2_with (go_at_call 140; refine cW.mono ?_; rintro e w1 ⟨rfl, h1, hb1⟩)
  go_loopw [1, 4] (fun ln n wr => ∃ (t : ByteArray) (k : Nat) (q : List UInt8), ln = .string t ∧ n = .int .i64 k ∧ k ≤ t.size ∧ t.size ≤ 4000 ∧ (k < t.size → 0 < k) ∧ Lib.validD (t.data.toList.drop k) = true ∧ Bl B b q wr ∧ Below B w' wr ∧ q ++ rest t.data.toList k = acc ++ gr 75 s.data.toList) (fun ln _ _ => strLen ln)
  case atStart => exact ⟨s, N, acc ++ s.data.toList.take N, rfl, rfl, hf1, hs, HP.out, HV.out, by rw [← HX0.out]; exact h1, hb1, by rw [HG.out]; simp⟩
  case round =>
    obtain ⟨t, k, q, rfl, rfl, hk, ht, hkp, hvt, hB1, hbl, hq⟩ := hrel
    have hq4 : q.length ≤ 8174 := by
      have := congrArg List.length hq
      rw [List.length_append, List.length_append] at this; omega
    have hBr : B ≤ wr.heap.size := by have := hbl.size; omega
    by_cases hlt : (k : Int) < t.size
    · have hz : (t.extract k t.size).size = t.size - k := by rw [ByteArray.size_extract]; omega
      have hd : (t.extract k t.size).data.toList = t.data.toList.drop k := data_extract t k
      have hum : (t.extract k t.size).size ≤ maxLen := by unfold maxLen; omega
      have hvu : Lib.validD (t.extract k t.size).data.toList = true := by rw [hd]; exact hvt
      have hf2 := fit_le (t.extract k t.size).data.toList 74
      rw [len_data] at hf2
      have HG2 : Hid (gr 74 (t.extract k t.size).data.toList = (t.extract k t.size).data.toList.take (fit (t.extract k t.size).data.toList 74) ++ rest (t.extract k t.size).data.toList (fit (t.extract k t.size).data.toList 74)) := gr_fit 74 _ hvu
      have HV2 : Hid (Lib.validD ((t.extract k t.size).data.toList.drop (fit (t.extract k t.size).data.toList 74)) = true) := validD_fit 74 _ hvu
      have HP2 : Hid (fit (t.extract k t.size).data.toList 74 < (t.extract k t.size).size → 0 < fit (t.extract k t.size).data.toList 74) := fun hh => fit_pos 74 _ hvu (by omega) (data_ne _ (by omega))
      have cF2 := fun wx => fitting_any (t.extract k t.size) 74 wx hum (by omega) hvu
      generalize hM : fit (t.extract k t.size).data.toList 74 = M at *
      clear hM hvu
      rw [hz] at hf2
      have hM' : (M : Int) + k ≤ t.size := by omega
      have HD : Hid ((t.extract k t.size).data.toList = t.data.toList.drop k) := hd
      have HZ : Hid ((t.extract k t.size).size = t.size - k) := hz
      clear hd hz
      have cW1 := writeS B b q ⟨#[13, 10, 32]⟩ wr hB1 (by show q.length + 3 ≤ 100000; omega) hBr
      go_wp2_with (first | (go_at_call 152; refine (cF2 _).mono ?_; rintro e wq ⟨rfl, rfl⟩) | fail)
      refine cW1.mono ?_
      rintro e w2 ⟨rfl, h2, hb2⟩
      have hbl2 : Below B w' w2 := hbl.trans hb2
      have hB2 : B ≤ w2.heap.size := by have := hbl2.size; omega
      have hx2 : ((t.extract k t.size).extract 0 M).size = M := by rw [ByteArray.size_extract, HZ.out]; omega
      have HX2 : Hid (((t.extract k t.size).extract 0 M).data.toList = (t.extract k t.size).data.toList.take M) := data_upto _ M
      have cW2 := writeS B b _ ((t.extract k t.size).extract 0 M) w2 h2 (by rw [List.length_append, hx2]; change q.length + 3 + M ≤ 100000; omega) hB2
      have HX3 : Hid (((t.extract k t.size).extract 0 M).size = M) := hx2
      clear hx2
      go_wp2_with (go_at_call 140; refine cW2.mono ?_; rintro e w3 ⟨rfl, h3, hb3⟩)
      go_roundw
      case rel =>
        go_light
        refine ⟨t.extract k t.size, M, _, rfl, rfl, by rw [HZ.out]; omega, by rw [HZ.out]; omega, HP2.out, HV2.out, h3, hbl2.trans hb3, ?_⟩
        rw [← hq, HX2.out]
        have hr : rest t.data.toList k = sep ++ gr 74 (t.data.toList.drop k) := by unfold rest; rw [if_pos (by rw [len_data]; omega)]
        rw [hr, ← HD.out, HG2.out]
        simp [sep]
      case measure =>
        go_light
        have h9 := hkp (by omega)
        simp only [strLen]
        rw [HZ.out]; omega
    · have hr : rest t.data.toList k = [] := by unfold rest; rw [if_neg (by rw [len_data]; omega)]
      have HQ : Hid (q = acc ++ gr 75 s.data.toList) := by rw [hr, List.append_nil] at hq; exact hq
      have cW1 := writeS B b q ⟨#[13, 10]⟩ wr hB1 (by show q.length + 2 ≤ 100000; omega) hBr
      clear hq hr
      go_wp2_with (go_at_call 140; refine cW1.mono ?_; rintro e w2 ⟨rfl, h2, hb2⟩)
      go_end0
      refine ⟨rfl, ?_, hbl.trans hb2⟩
      rw [← List.append_assoc, ← HQ.out]
      exact h2
end Go.Proofs.YtmmnbdefkailpaaGreatDoor.Ln

/- Package lines: fold, Fold. -/
namespace Go.Proofs.YtmmnbdefkailpaaGreatDoor.Ln
open Go.RowKit
set_option linter.unusedVariables false

theorem below_drewN {B : Nat} {a w : World} (h : Below B a w) : ∀ n, Below B a (w.drewN n) := by
  intro n
  exact ⟨h.os, h.tape, h.output, h.size, h.block⟩
theorem isErr_no {v : Value} (h : isErr false v) : ∃ t a, v = .iface t (.pointer (some a)) := h.elim (fun h => absurd h.1 (by simp)) (fun h => h.2)
theorem isErr_yes {v : Value} (h : isErr true v) : v = .nilIface := h.elim (fun h => h.2) (fun h => absurd h.1 (by simp))

set_option maxRecDepth 100000 in
set_option maxHeartbeats 1000000 in
theorem fold_any (xa : Option Addr) (xb xo xc : Nat) (ss : List ByteArray) (w : World) (hp : Prep w) (hxa : 0 < ss.length → xa = some ⟨xb, xo, none⟩)
    (hn : ss.length ≤ maxLen) (hz : ∀ j (h : j < ss.length), (ss[j]).size ≤ maxLen) (hy : ∀ j (h : j < ss.length), w.cell? ⟨xb, xo + j, none⟩ = some (.string ss[j])) :
    Calls Tryz.prog 67 #[.slice xa ss.length xc] w fun e w' => ∃ v, e = .returned (.tuple #[.string ⟨(foT (lns ss)).toArray⟩, v]) ∧ isErr (fo [] (lns ss)).isSome v ∧ Below w.heap.size w w' := by
  have hn' := hn
  unfold maxLen at hn
  have hb0 : Bl w.heap.size w.heap.size [] (w.alloc (.cells #[.pointer none, .slice none 0 0] 156)) := Lib.fresh_isBuilder 156 5 w
  have hl0 : Below w.heap.size w (w.alloc (.cells #[.pointer none, .slice none 0 0] 156)) := (Below.refl _ _).alloc (Nat.le_refl _) _
  go_enter Tryz.func67, Tryz.ntmps67
  go_wp2
  go_loopw [10] (fun i wr => ∃ (k : Nat) (acc : List UInt8), k ≤ ss.length ∧ i = .int .i64 k ∧ acc.length ≤ 4000 ∧ Bl w.heap.size w.heap.size acc wr ∧ Below w.heap.size w wr ∧ fo [] (lns ss) = fo acc ((lns ss).drop k)) (fun i _ => ss.length - (intOf i).toNat)
  case atStart => exact ⟨0, [], Nat.zero_le _, rfl, by simp, hb0, hl0, by simp⟩
  case round =>
    obtain ⟨k, acc, hk, rfl, hacc, hbr, hlr, hf⟩ := hrel
    by_cases hlt : k < ss.length
    · obtain rfl := hxa (by omega)
      have hcell := hy k hlt
      have hxb : xb < w.heap.size := World.block_lt_of_cell? _ _ hcell
      have hcell' : wr.cell? ⟨xb, xo + k, none⟩ = some (.string ss[k]) := by rw [hlr.cell (p := ⟨xb, xo + k, none⟩) hxb]; exact hcell
      have hsz := hz k hlt
      rw [fo_drop _ _ _ hlt] at hf
      generalize hS : ss[k] = S at *
      have hpr := hp.below hp.size hlr
      have hlt' : (k : Int) < ss.length := by omega
      have cC := checkWhole_any S wr hsz hpr
      cases hok : okl S.data.toList
      · have HF : Hid (fo [] (lns ss) = none) := by rw [hf, hok]; exact rfl
        rw [hok] at cC
        clear hf hS hy hz
        go_wp2_with (go_at_call 109; refine cC.mono ?_; rintro e w2 ⟨v, rfl, hv, hb2⟩; obtain ⟨tv, av, rfl⟩ := isErr_no hv)
        go_ret2
        have HB := fo_bad HF.out
        rw [HB.1]
        refine ⟨_, rfl, .inr ⟨by rw [HF.out]; rfl, _, _, rfl⟩, ?_⟩
        exact (hlr.trans (hb2.mono (by have := hlr.size; omega))).alloc (by have := hlr.size; have := hb2.size; omega) _
      · have HF : Hid (fo [] (lns ss) = if 4000 < (acc ++ (gr 75 S.data.toList ++ [13, 10])).length then none else fo (acc ++ (gr 75 S.data.toList ++ [13, 10])) ((lns ss).drop (k + 1))) := by rw [hf, if_pos hok]; exact rfl
        rw [hok] at cC
        clear hf hS hy hz
        obtain ⟨o1, o2, o3⟩ := okl_parts hok
        rw [len_data] at o3
        go_wp2_with (go_at_call 109; refine cC.mono ?_; rintro e w2 ⟨v, rfl, hv, hb2⟩; obtain rfl := isErr_yes hv)
        have hlr2 : Below w.heap.size w w2 := hlr.trans (hb2.mono (by have := hlr.size; omega))
        have hbr2 := isBuilder_below hbr hb2
        have hsz2 : w.heap.size ≤ w2.heap.size := hlr2.size
        have cW := write_any w.heap.size w.heap.size acc S w2 hbr2 hacc hsz2 o3 (cln_valid o1).1
        refine cW.mono ?_
        rintro e w3 ⟨rfl, hb3, hl3⟩
        have hlr3 : Below w.heap.size w w3 := hlr2.trans hl3
        have cL := Tryz.Builder_Len w.heap.size w.heap.size _ w3 hb3
        rw [Lib.byteCells_length] at cL
        generalize hA : acc ++ (gr 75 S.data.toList ++ [13, 10]) = A at *
        obtain ⟨t0, a0, e0⟩ := (hp.below hp.size hlr3).e0
        by_cases hbig : (4000 : Int) < A.length
        · have HF2 : Hid (fo [] (lns ss) = none) := by rw [HF.out, if_pos (by omega)]; exact rfl
          go_wp2_with (go_at_call 111; refine cL.mono ?_; rintro e w4 ⟨rfl, rfl⟩)
          go_quiet (fail)
          go_wp2
          go_ret2
          have HB := fo_bad HF2.out
          rw [HB.1]
          refine ⟨_, rfl, .inr ⟨by rw [HF2.out]; rfl, _, _, rfl⟩, ?_⟩
          exact below_drewN hlr3 _
        · have HF2 : Hid (fo [] (lns ss) = fo A ((lns ss).drop (k + 1))) := by rw [HF.out, if_neg (by omega)]; exact rfl
          go_wp2_with (go_at_call 111; refine cL.mono ?_; rintro e w4 ⟨rfl, rfl⟩)
          go_roundw
          case rel =>
            go_light
            exact ⟨k + 1, A, by omega, by go_num, by omega, hb3, hlr3, HF2.out⟩
          case measure => go_light; simp [intOf]; omega
    · have hke : (lns ss).drop k = [] := List.drop_of_length_le (by simp; omega)
      have HF : Hid (fo [] (lns ss) = some acc) := by rw [hf, hke]; exact rfl
      clear hf hke
      have cS := Tryz.Builder_String_any w.heap.size w.heap.size acc wr hbr (hlr.size)
      go_wp2_with (go_at_call 96; refine cS.mono ?_; rintro e w4 ⟨rfl, hb4⟩)
      go_ret2
      have HB := fo_good HF.out
      rw [HB.1]
      exact ⟨_, rfl, .inl ⟨by rw [HF.out]; rfl, rfl⟩, hlr.trans hb4⟩

set_option maxRecDepth 100000 in
set_option maxHeartbeats 1000000 in
theorem Fold_any (xa : Option Addr) (xb xo xc : Nat) (ss : List ByteArray) (w : World) (hp : Prep w) (hxa : 0 < ss.length → xa = some ⟨xb, xo, none⟩)
    (hn : ss.length ≤ maxLen) (hz : ∀ j (h : j < ss.length), (ss[j]).size ≤ maxLen) (hy : ∀ j (h : j < ss.length), w.cell? ⟨xb, xo + j, none⟩ = some (.string ss[j])) :
    Calls Tryz.prog 31 #[.slice xa ss.length xc] w fun e w' => e = .returned (.tuple #[.string ⟨(foT (lns ss)).toArray⟩, .int .i64 (foE (lns ss))]) ∧ Below w.heap.size w w' := by
  have cF := fold_any xa xb xo xc ss w hp hxa hn hz hy
  unfold foE
  cases hs : (fo [] (lns ss)).isSome
  · have hT : foT (lns ss) = [] := by
      unfold foT; rw [Option.isSome_eq_false_iff, Option.isNone_iff_eq_none] at hs; rw [hs]; rfl
    rw [hs] at cF
    rw [hT] at cF ⊢
    go_enter Tryz.func31, Tryz.ntmps31
    go_wp2_with (go_at_call 67; refine cF.mono ?_; rintro e w2 ⟨v, rfl, hv, hb2⟩; obtain ⟨tv, av, rfl⟩ := isErr_no hv)
    go_ret2
    exact ⟨rfl, hb2⟩
  · rw [hs] at cF
    generalize (foT (lns ss)).toArray = T at *
    go_enter Tryz.func31, Tryz.ntmps31
    go_wp2_with (go_at_call 67; refine cF.mono ?_; rintro e w2 ⟨v, rfl, hv, hb2⟩; obtain rfl := isErr_yes hv)
    go_ret2
    exact ⟨rfl, hb2⟩
end Go.Proofs.YtmmnbdefkailpaaGreatDoor.Ln
