/- Package lines: goesOn, checkBytes, checkWhole, fitting. -/
import Derived.Test.YtdhobemladckjaaDoorRefC
import Derived.Test.YtdhobemladckjaaDoorShelf
import Derived.Test.YtdhobemladckjaaDoorBld
namespace Go.Proofs.YtdhobemladckjaaDoor
open Go.RowKit
set_option linter.unusedVariables false

/-- what the package's variables hold -/
structure Prep (w : World) : Prop where
  e0 : ∃ t a, w.cell? ⟨0, 0, none⟩ = some (.iface t (.pointer (some a)))
  e2 : ∃ t a, w.cell? ⟨2, 0, none⟩ = some (.iface t (.pointer (some a)))
  e4 : ∃ t a, w.cell? ⟨4, 0, none⟩ = some (.iface t (.pointer (some a)))
  e5 : ∃ t a, w.cell? ⟨5, 0, none⟩ = some (.iface t (.pointer (some a)))
  tabs : Lib.Utf8Tabs 6 7 w
  size : 8 ≤ w.heap.size
theorem Prep.below {w w' : World} (h : Prep w) {B : Nat} (hB : 8 ≤ B) (hb : Below B w w') : Prep w' where
  e0 := by obtain ⟨t, a, h0⟩ := h.e0; exact ⟨t, a, by rw [hb.cell (p := ⟨0, 0, none⟩) (by show 0 < B; omega)]; exact h0⟩
  e2 := by obtain ⟨t, a, h0⟩ := h.e2; exact ⟨t, a, by rw [hb.cell (p := ⟨2, 0, none⟩) (by show 2 < B; omega)]; exact h0⟩
  e4 := by obtain ⟨t, a, h0⟩ := h.e4; exact ⟨t, a, by rw [hb.cell (p := ⟨4, 0, none⟩) (by show 4 < B; omega)]; exact h0⟩
  e5 := by obtain ⟨t, a, h0⟩ := h.e5; exact ⟨t, a, by rw [hb.cell (p := ⟨5, 0, none⟩) (by show 5 < B; omega)]; exact h0⟩
  tabs := ⟨fun c hc => by rw [hb.cell (p := ⟨6, c, none⟩) (by show 6 < B; omega)]; exact h.tabs.1 c hc, fun i hi => ⟨by rw [hb.cell (p := ⟨7, 2 * i, none⟩) (by show 7 < B; omega)]; exact (h.tabs.2 i hi).1, by rw [hb.cell (p := ⟨7, 2 * i + 1, none⟩) (by show 7 < B; omega)]; exact (h.tabs.2 i hi).2⟩⟩
  size := by have := hb.size; have := h.size; omega

set_option maxRecDepth 100000 in
set_option maxHeartbeats 1000000 in
theorem goesOn_any (s : ByteArray) (w : World) (hs : s.size ≤ maxLen) :
    Calls Tryd.prog 26 #[.string s] w fun e w' => e = .returned (.bool (goes s.data.toList)) ∧ w' = w := by
  by_cases h0 : 0 < s.size
  · have hg : goes s.data.toList = (decide ((s[0].toNat : Int) = 32) || decide ((s[0].toNat : Int) = 9)) := by
      have h1 := getD_data s 0 h0
      cases hl : s.data.toList with
      | nil => exact absurd hl (data_ne s h0)
      | cons a t =>
        rw [hl] at h1
        have : a = s[0] := h1
        subst this
        have e1 : decide (s[0].toNat = 32) = decide ((s[0].toNat : Int) = 32) := by congr 1; apply propext; omega
        have e2 : decide (s[0].toNat = 9) = decide ((s[0].toNat : Int) = 9) := by congr 1; apply propext; omega
        show (decide (s[0].toNat = 32) || decide (s[0].toNat = 9)) = _
        rw [e1, e2]
    have HG : Hid (goes s.data.toList = (decide ((s[0].toNat : Int) = 32) || decide ((s[0].toNat : Int) = 9))) := hg
    clear hg
    have hne : s.toList.isEmpty = false := by
      rw [Lib.toList_data]; exact List.isEmpty_eq_false_iff.2 (data_ne s h0)
    go_enter Tryd.func26, Tryd.ntmps26
    go_wp2
    · go_ret
      refine ⟨ret_bool ?_, rfl⟩
      rw [HG.out]; go_light; simp [*]
    · go_ret
      exact ⟨ret_bool (by rw [HG.out]; rfl), rfl⟩
  · have hl : s.data.toList = [] := List.length_eq_zero_iff.1 (by rw [len_data]; omega)
    have hg : Hid (goes s.data.toList = false) := by rw [hl]; exact rfl
    have hne : s.toList.isEmpty = true := by rw [Lib.toList_data, hl]; rfl
    clear hl
    go_enter Tryd.func26, Tryd.ntmps26
    go_wp2
    go_ret
    exact ⟨ret_bool (by rw [hg.out]), rfl⟩

/-- an error that is none, or one that is -/
def isErr (ok : Bool) (v : Value) : Prop := (ok = true ∧ v = .nilIface) ∨ (ok = false ∧ ∃ t a, v = .iface t (.pointer (some a)))

theorem all_snoc (s : ByteArray) (k : Nat) (h : k < s.size) : (s.data.toList.take (k + 1)).all okb = ((s.data.toList.take k).all okb && okb s[k]) := by
  rw [List.take_succ_eq_append_getElem (by simpa using h)]
  simp
  rfl

set_option maxRecDepth 100000 in
set_option maxHeartbeats 1000000 in
theorem checkBytes_any (s : ByteArray) (w : World) (hs : s.size ≤ maxLen) (hp : Prep w) :
    Calls Tryd.prog 36 #[.string s] w fun e w' => ∃ v, e = .returned v ∧ isErr (cln s.data.toList) v ∧ Below w.heap.size w w' := by
  have hs' := hs
  unfold maxLen at hs
  obtain ⟨C, hC⟩ : ∃ C, cln s.data.toList = C := ⟨_, rfl⟩
  rw [hC]
  rw [cln_eq] at hC
  cases hv : Lib.validD s.data.toList
  · have cV := utf8_ValidString s w hs' hp.tabs
    rw [hv] at cV hC
    rw [Bool.false_and] at hC
    subst hC
    go_enter Tryd.func36, Tryd.ntmps36
    go_wp2_with (go_at_call 45; refine cV.mono ?_; rintro e w1 ⟨rfl, hb1⟩; obtain ⟨t4, a4, h4⟩ := (hp.below hp.size hb1).e4)
    go_ret
    exact ⟨_, rfl, .inr ⟨rfl, t4, a4, rfl⟩, hb1⟩
  · have cV := utf8_ValidString s w hs' hp.tabs
    rw [hv] at cV hC
    rw [Bool.true_and] at hC
    have HC : Hid (s.data.toList.all okb = C) := hC
    clear hC
    go_enter Tryd.func36, Tryd.ntmps36
    go_wp2_with (go_at_call 45; refine cV.mono ?_; rintro e w1 ⟨rfl, hb1⟩; obtain ⟨t5, a5, h5⟩ := (hp.below hp.size hb1).e5)
    go_loop [11] (fun i => ∃ k : Nat, k ≤ s.size ∧ i = .int .i64 k ∧ (s.data.toList.take k).all okb = true) (fun i => s.size - (intOf i).toNat)
    case atStart => exact ⟨0, Nat.zero_le _, rfl, rfl⟩
    case round =>
      obtain ⟨k, hk, rfl, ha⟩ := hrel
      by_cases hlt : k < s.size
      · have hsn := all_snoc s k hlt
        rw [ha, Bool.true_and] at hsn
        have HS : Hid ((s.data.toList.take (k + 1)).all okb = okb s[k]) := hsn
        clear hsn ha
        have HN : Hid (okb s[k] = false → C = false) := by
          intro h9
          rw [← HC.out]
          apply Bool.eq_false_iff.2
          intro hall
          rw [List.all_eq_true] at hall
          have := hall s[k] (by rw [← getD_data s k hlt, getD_of _ _ (by simpa using hlt)]; exact List.getElem_mem _)
          rw [this] at h9; exact absurd h9 (by simp)
        have hu : (s[k].toNat : Int) < 256 := by have := UInt8.toNat_lt s[k]; omega
        go_wp2
        all_goals first
          | (go_ret
             refine ⟨_, rfl, .inr ⟨HN.out (okb_no ?_), t5, a5, rfl⟩, hb1⟩
             go_light
             try simp only [beq_iff_eq] at *
             omega)
          | (go_round
             case rel =>
               go_light
               try simp only [beq_eq_false_iff_ne, ne_eq] at *
               refine ⟨k + 1, by omega, by go_num, ?_⟩
               rw [HS.out]
               exact okb_yes (by omega)
             case measure => go_light; simp [intOf]; omega)
      · have HA : Hid (C = true) := by
          rw [List.take_of_length_le (by rw [len_data]; omega), HC.out] at ha; exact ha
        clear ha
        go_wp2
        go_ret
        exact ⟨_, rfl, .inl ⟨HA.out, rfl⟩, hb1⟩

set_option maxRecDepth 100000 in
set_option maxHeartbeats 1000000 in
theorem checkWhole_any (s : ByteArray) (w : World) (hs : s.size ≤ maxLen) (hp : Prep w) :
    Calls Tryd.prog 28 #[.string s] w fun e w' => ∃ v, e = .returned v ∧ isErr (okl s.data.toList) v ∧ Below w.heap.size w w' := by
  have hs' := hs
  unfold maxLen at hs
  have hlen := len_data s
  by_cases h1 : (4000 : Int) < s.size
  · have ho : okl s.data.toList = false := by
      unfold okl; rw [hlen]; have : decide (s.size ≤ 4000) = false := decide_eq_false (by omega)
      rw [this, Bool.and_false]
    rw [ho]; clear ho hlen
    obtain ⟨t0, a0, e0⟩ := hp.e0
    go_enter Tryd.func28, Tryd.ntmps28
    go_wp2
    go_ret
    exact ⟨_, rfl, .inr ⟨rfl, t0, a0, rfl⟩, Below.refl _ _⟩
  · have hd : decide (s.size ≤ 4000) = true := decide_eq_true (by omega)
    cases h2 : goes s.data.toList
    · have ho : okl s.data.toList = cln s.data.toList := by
        unfold okl; rw [hlen, hd, h2]; simp
      rw [ho]; clear ho hlen hd
      go_enter Tryd.func28, Tryd.ntmps28
      go_wp2_with (first | (go_at_call 26; refine (goesOn_any _ _ hs').mono ?_; rintro e w' ⟨rfl, rfl⟩) | (go_at_call 36; refine (checkBytes_any _ _ hs' hp).mono ?_; rintro e w' ⟨v, rfl, hv, hb⟩))
      go_ret
      exact ⟨_, rfl, hv, hb⟩
    · have ho : okl s.data.toList = false := by
        unfold okl; rw [h2]; simp
      rw [ho]; clear ho hlen hd
      obtain ⟨t0, a0, e0⟩ := hp.e2
      go_enter Tryd.func28, Tryd.ntmps28
      go_wp2_with (go_at_call 26; refine (goesOn_any _ _ hs').mono ?_; rintro e w' ⟨rfl, rfl⟩)
      go_ret
      exact ⟨_, rfl, .inr ⟨rfl, t0, a0, rfl⟩, Below.refl _ _⟩

theorem runeStart_eq (b : UInt8) : Lib.runeStart (b.toNat : Int) = startB b := by
  have hb := UInt8.toNat_lt b
  unfold Lib.runeStart startB
  by_cases h : 128 ≤ b.toNat ∧ b.toNat ≤ 191
  · rw [decide_eq_true h]
    have : (b.toNat : Int) / 64 = 2 := by omega
    rw [this]; rfl
  · rw [decide_eq_false h]
    have : ¬ (b.toNat : Int) / 64 = 2 := by omega
    simpa using this

set_option maxRecDepth 100000 in
set_option maxHeartbeats 1000000 in
theorem fitting_any (s : ByteArray) (room : Nat) (w : World) (hs : s.size ≤ maxLen) (hr : room ≤ 75) (hv : Lib.validD s.data.toList = true) :
    Calls Tryd.prog 41 #[.string s, .int .i64 room] w fun e w' => e = .returned (.int .i64 (fit s.data.toList room)) ∧ w' = w := by
  have hs' := hs
  unfold maxLen at hs
  by_cases h1 : (s.size : Int) ≤ room
  · have HF : Hid (fit s.data.toList room = s.size) := by
      unfold fit; rw [len_data, if_pos (by omega)]; exact rfl
    go_enter Tryd.func41, Tryd.ntmps41
    go_wp2
    go_ret
    exact ⟨ret_int (by rw [HF.out]), rfl⟩
  · have HF : Hid (fit s.data.toList room = bk s.data.toList room) := by
      unfold fit; rw [len_data, if_neg (by omega)]; exact rfl
    have hs0 : startB (s.data.toList.getD 0 0) = true := by
      have hne := data_ne s (by omega)
      exact rsz_begins _ hne (validD_first _ hne hv).1
    rw [getD_data s 0 (by omega)] at hs0
    have HS0 : Hid (startB s[0] = true) := hs0
    clear hs0 hv
    go_enter Tryd.func41, Tryd.ntmps41
    go_wp2
    go_loop [1] (fun r => ∃ p : Nat, p ≤ room ∧ r = .int .i64 p ∧ bk s.data.toList room = bk s.data.toList p) (fun r => (intOf r).toNat)
    case atStart => exact ⟨room, Nat.le_refl _, rfl, rfl⟩
    case round =>
      obtain ⟨p, hp, rfl, hb⟩ := hrel
      have hps : p < s.size := by omega
      have hps' : (p : Int) < s.size := by omega
      have hu : (s[p].toNat : Int) < 256 := by have := UInt8.toNat_lt s[p]; omega
      have hrs := utf8_RuneStart (s[p].toNat : Int) w (by omega) hu
      rw [runeStart_eq] at hrs
      cases hst : startB s[p]
      · have hp0 : p ≠ 0 := by
          rintro rfl
          exact absurd HS0.out (by rw [hst]; simp)
        obtain ⟨q, rfl⟩ : ∃ q, p = q + 1 := ⟨p - 1, by omega⟩
        have hbq : bk s.data.toList (q + 1) = bk s.data.toList q := by
          simp only [bk]
          rw [getD_data s (q + 1) hps, hst]; simp
        have HB : Hid (bk s.data.toList room = bk s.data.toList q) := hb.trans hbq
        rw [hst] at hrs
        clear hb hbq
        go_wp2_with (go_at_call 49; refine hrs.mono ?_; rintro e w' ⟨rfl, rfl⟩)
        go_round
        case rel => go_light; exact ⟨q, by omega, by go_num, HB.out⟩
        case measure => go_light; simp [intOf]
      · have hbq : bk s.data.toList p = p := by
          cases p with
          | zero => rfl
          | succ q => simp only [bk]; rw [getD_data s (q + 1) hps, hst]; rfl
        have HB : Hid (fit s.data.toList room = p) := HF.out.trans (hb.trans hbq)
        rw [hst] at hrs
        clear hb hbq
        go_wp2_with (go_at_call 49; refine hrs.mono ?_; rintro e w' ⟨rfl, rfl⟩)
        go_ret
        exact ⟨ret_int (by rw [HB.out]), rfl⟩
end Go.Proofs.YtdhobemladckjaaDoor
