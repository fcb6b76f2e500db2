/- Package event: digits. -/
import Derived.Test.YtmmnbdefkailpaaGreatDoorCal
import Derived.Test.YtmmnbdefkailpaaGreatDoorShelfAll
import Derived.Test.YtmmnbdefkailpaaGreatDoorTxt
import Derived.Deep.QuietTactic
import Derived.BigQuiet
import Derived.Below

namespace Go.Proofs.YtmmnbdefkailpaaGreatDoor
open Go.RowKit Cal
set_option linter.unusedVariables false

/-- the bytes are digits -/
def DigB (l : List UInt8) : Prop := ∀ b ∈ l, 48 ≤ b.toNat ∧ b.toNat ≤ 57
/-- the number that digits tell -/
def val (l : List UInt8) : Int := l.foldl (fun n b => 10 * n + ((b.toNat : Int) - 48)) 0
theorem val_snoc (l : List UInt8) (b : UInt8) : val (l ++ [b]) = 10 * val l + ((b.toNat : Int) - 48) := by
  unfold val; rw [List.foldl_append]; rfl
theorem val_bd : ∀ (l : List UInt8), DigB l.reverse → 0 ≤ val l.reverse ∧ val l.reverse < 10 ^ l.length
  | [], _ => by simp [val]
  | b :: l, h => by
    have hb := h b (by simp)
    have ih := val_bd l (fun c hc => h c (by simp at hc ⊢; exact .inl hc))
    rw [List.reverse_cons, val_snoc, List.length_cons, Int.pow_succ]
    generalize (10 : Int) ^ l.length = p at *
    omega
theorem val_bd' (l : List UInt8) (h : DigB l) : 0 ≤ val l ∧ val l < 10 ^ l.length := by
  have := val_bd l.reverse (by rw [List.reverse_reverse]; exact h)
  rw [List.reverse_reverse, List.length_reverse] at this
  exact this
theorem pow8 (n : Nat) (h : n ≤ 8) : (10 : Int) ^ n ≤ 100000000 := by
  have : n = 0 ∨ n = 1 ∨ n = 2 ∨ n = 3 ∨ n = 4 ∨ n = 5 ∨ n = 6 ∨ n = 7 ∨ n = 8 := by omega
  rcases this with rfl | rfl | rfl | rfl | rfl | rfl | rfl | rfl | rfl <;> decide
theorem take_snoc (s : ByteArray) (k : Nat) (h : k < s.size) : s.data.toList.take (k + 1) = s.data.toList.take k ++ [s[k]] := by
  rw [List.take_succ_eq_append_getElem (by simpa using h)]; rfl
theorem digB_at {s : ByteArray} (h : DigB s.data.toList) (k : Nat) (hk : k < s.size) : 48 ≤ s[k].toNat ∧ s[k].toNat ≤ 57 := by
  refine h _ ?_
  have : s[k] = s.data.toList[k]'(by simpa using hk) := rfl
  rw [this]
  exact List.getElem_mem _
theorem digB_take {l : List UInt8} (h : DigB l) (k : Nat) : DigB (l.take k) := fun b hb => h b (List.mem_of_mem_take hb)
theorem digB_drop {l : List UInt8} (h : DigB l) (k : Nat) : DigB (l.drop k) := fun b hb => h b (List.mem_of_mem_drop hb)

theorem isDigit_yes (b : Int) (w : World) (h1 : 48 ≤ b) (h2 : b ≤ 57) :
    Calls Tryz.prog 138 #[.int .u8 b] w fun e w' => e = .returned (.bool true) ∧ w' = w := by
  go_enter Tryz.func138, Tryz.ntmps138
  go_wp2
  go_ret
  exact ⟨rfl, rfl⟩

set_option maxHeartbeats 400000 in
theorem areDigits_yes (s : ByteArray) (w : World) (hs : s.size ≤ 100) (hd : DigB s.data.toList) :
    Calls Tryz.prog 228 #[.string s] w fun e w' => e = .returned (.bool true) ∧ w' = w := by
  go_enter Tryz.func228, Tryz.ntmps228
  go_wp2
  go_loop [6] (fun i => ∃ k : Nat, k ≤ s.size ∧ i = .int .i64 k) (fun i => s.size - (intOf i).toNat)
  case atStart => exact ⟨0, Nat.zero_le _, rfl⟩
  case round =>
    obtain ⟨k, hk, rfl⟩ := hrel
    by_cases hlt : k < s.size
    · obtain ⟨b1, b2⟩ := digB_at hd k hlt
      go_wp2_with (go_at_call 138; refine (isDigit_yes _ _ (by omega) (by omega)).mono ?_; rintro e w' ⟨rfl, rfl⟩)
      go_round
      case rel => exact ⟨k + 1, by omega, by go_num⟩
      case measure => simp [intOf]; omega
    · go_wp2
      go_ret
      exact ⟨rfl, rfl⟩

set_option maxHeartbeats 400000 in
theorem digits_any (s : ByteArray) (w : World) (hs : s.size ≤ 8) (hd : DigB s.data.toList) :
    Calls Tryz.prog 230 #[.string s] w fun e w' => e = .returned (.int .i64 (val s.data.toList)) ∧ w' = w := by
  go_enter Tryz.func230, Tryz.ntmps230
  go_wp2
  go_loop [3, 7] (fun n i => ∃ k : Nat, k ≤ s.size ∧ i = .int .i64 k ∧ n = .int .i64 (val (s.data.toList.take k))) (fun _ i => s.size - (intOf i).toNat)
  case atStart => exact ⟨0, Nat.zero_le _, rfl, rfl⟩
  case round =>
    obtain ⟨k, hk, rfl, rfl⟩ := hrel
    have hb := val_bd' (s.data.toList.take k) (digB_take hd k)
    have hl : (s.data.toList.take k).length ≤ 8 := by simp; omega
    have hp := pow8 _ hl
    have hb2 : val (s.data.toList.take k) ≤ 100000000 := by omega
    obtain ⟨hb1, _⟩ := hb
    clear hp hl
    by_cases hlt : k < s.size
    · obtain ⟨b1, b2⟩ := digB_at hd k hlt
      have HS : Hid (val (s.data.toList.take (k + 1)) = 10 * val (s.data.toList.take k) + ((s[k].toNat : Int) - 48)) := by
        show _ = _
        rw [take_snoc s k hlt, val_snoc]
      generalize val (s.data.toList.take k) = V at *
      go_wp2
      go_round
      case rel => exact ⟨k + 1, by omega, by go_num, by rw [HS.out]⟩
      case measure => simp [intOf]; omega
    · have hk' : k = s.size := by omega
      subst hk'
      have HT : Hid (val (s.data.toList.take s.size) = val s.data.toList) := by show _ = _; rw [List.take_of_length_le (by simp)]
      go_wp2
      go_ret
      exact ⟨ret_int (by rw [HT.out]), rfl⟩
end Go.Proofs.YtmmnbdefkailpaaGreatDoor

/- Package event: dates read. -/
namespace Go.Proofs.YtmmnbdefkailpaaGreatDoor
open Go.RowKit Cal
set_option linter.unusedVariables false

theorem data_ext (s : ByteArray) (a b : Nat) : (s.extract a b).data.toList = (s.data.toList.drop a).take (b - a) := by
  rw [Lib.extract_data]
theorem bcell {W w1 : World} (hb : Below W.heap.size W w1) : (∀ b o, b < W.heap.size → w1.cell? ⟨b, o, none⟩ = W.cell? ⟨b, o, none⟩) ∧ (∀ b o, b < W.heap.size → w1.frozen? ⟨b, o, none⟩ = W.frozen? ⟨b, o, none⟩) :=
  ⟨fun b o h => hb.cell (p := ⟨b, o, none⟩) h, fun b o h => hb.frozen (p := ⟨b, o, none⟩) h⟩
theorem digB_ext {s : ByteArray} (h : DigB s.data.toList) (a b : Nat) : DigB (s.extract a b).data.toList := by
  rw [data_ext]; exact digB_take (digB_drop h a) _
theorem size_ext (s : ByteArray) (a b : Nat) (h : b ≤ s.size) : (s.extract a b).size = b - a := by simp; omega

set_option maxRecDepth 100000 in
set_option maxHeartbeats 1000000 in
theorem readDay_yes (s : ByteArray) (w : World) (ht : Tab w) (hs : s.size = 8) (hd : DigB s.data.toList) (n : Int)
    (hE : numE (val (s.data.toList.take 4)) (val ((s.data.toList.drop 4).take 2)) (val ((s.data.toList.drop 6).take 2)) = 0)
    (hV : numV (val (s.data.toList.take 4)) (val ((s.data.toList.drop 4).take 2)) (val ((s.data.toList.drop 6).take 2)) = n) (hn1 : -25567 ≤ n) (hn2 : n ≤ 84005) :
    Calls Tryz.prog 194 #[.string s] w fun e w' => e = .returned (.tuple #[.int .i64 (n * 86400), .nilIface]) ∧ ∃ q, w' = w.drewN q := by
  have c0 := areDigits_yes s w (by omega) hd
  have HD : Hid (DigB s.data.toList) := hd
  have HT : Hid (Tab w) := ht
  clear ht hd
  have hs' : (s.size : Int) = 8 := by omega
  go_enter Tryz.func194, Tryz.ntmps194
  go_wp2_with (go_at_call 228; refine c0.mono ?_; rintro e w1 ⟨rfl, rfl⟩)
  clear c0
  go_quiet ((first | (go_at_call 230; exact Calls.quiet_of_same (digits_any _ _ (by rw [size_ext _ _ _ (by omega)]; omega) (digB_ext HD.out _ _))) | (go_at_call 229; exact Calls.quiet_of_same (number_any _ _ _ _ HT.out))))
  go_wp2
  go_ret2
  exact ⟨rfl, _, rfl⟩

set_option maxRecDepth 100000 in
set_option maxHeartbeats 1000000 in
theorem readClock_yes (s : ByteArray) (w : World) (hs : s.size = 6) (hd : DigB s.data.toList) (h m t : Int)
    (hh : val (s.data.toList.take 2) = h) (hm : val ((s.data.toList.drop 2).take 2) = m) (htt : val ((s.data.toList.drop 4).take 2) = t) (h1 : 0 ≤ h) (h2 : h ≤ 23) (m1 : 0 ≤ m) (m2 : m ≤ 59) (t1 : 0 ≤ t) (t2 : t ≤ 59) :
    Calls Tryz.prog 195 #[.string s] w fun e w' => e = .returned (.tuple #[.int .i64 (h * 3600 + m * 60 + t), .nilIface]) ∧ ∃ q, w' = w.drewN q := by
  have c0 := areDigits_yes s w (by omega) hd
  have HD : Hid (DigB s.data.toList) := hd
  clear hd
  have hs' : (s.size : Int) = 6 := by omega
  go_enter Tryz.func195, Tryz.ntmps195
  go_wp2_with (go_at_call 228; refine c0.mono ?_; rintro e w1 ⟨rfl, rfl⟩)
  clear c0
  go_quiet ((go_at_call 230; exact Calls.quiet_of_same (digits_any _ _ (by rw [size_ext _ _ _ (by omega)]; omega) (digB_ext HD.out _ _))))
  go_wp2
  go_ret2
  exact ⟨rfl, _, rfl⟩

set_option maxRecDepth 100000 in
theorem mark_no (w : World) :
    Calls Tryz.prog 69 #[.agg #[.bool false, .bool false]] w fun e w' => e = .returned (.string ⟨#[58]⟩) ∧ Below w.heap.size w w' := by
  go_enter Tryz.func69, Tryz.ntmps69
  go_wp2
  go_ret
  exact ⟨rfl, (Below.refl _ _).alloc (Nat.le_refl _) _⟩
end Go.Proofs.YtmmnbdefkailpaaGreatDoor

/- Package event: a date behind a name. -/
namespace Go.Proofs.YtmmnbdefkailpaaGreatDoor
open Go.RowKit Cal
set_option linter.unusedVariables false

theorem tab_drewN {w : World} (h : Tab w) (n : Nat) : Tab (w.drewN n) := h
theorem bel_drewN {B : Nat} {a w : World} (h : Below B a w) (n : Nat) : Below B a (w.drewN n) := ⟨h.os, h.tape, h.output, h.size, h.block⟩
theorem ml_below {w w' : World} {m : Int} (hm : w.cell? ⟨32, 0, none⟩ = some (.int .i64 m)) {B : Nat} (hB : 32 < B) (hb : Below B w w') : w'.cell? ⟨32, 0, none⟩ = some (.int .i64 m) := by
  rw [hb.cell (p := ⟨32, 0, none⟩) hB]; exact hm

set_option maxRecDepth 100000 in
set_option maxHeartbeats 1000000 in
theorem formOf_no (r : ByteArray) (w : World) (hr : r.size ≤ 4000) (h1 : Lib.hasPrefix r.data.toList [59, 86, 65, 76, 85, 69, 61, 68, 65, 84, 69, 58] = false) (h2 : Lib.hasSuffix r.data.toList [90] = false) :
    Calls Tryz.prog 97 #[.string r] w fun e w' => e = .returned (.agg #[.bool false, .bool false]) ∧ Below w.heap.size w w' := by
  have cP := fun w => Tryz.strings_HasPrefix r ⟨#[59, 86, 65, 76, 85, 69, 61, 68, 65, 84, 69, 58]⟩ w
  have cS := fun w => Tryz.strings_HasSuffix r ⟨#[90]⟩ w (by omega)
  simp only at cP cS
  rw [h1] at cP
  rw [h2] at cS
  have CP : Hid (∀ w, Calls Tryz.prog 142 #[.string r, .string ⟨#[59, 86, 65, 76, 85, 69, 61, 68, 65, 84, 69, 58]⟩] w fun e w' => e = .returned (.bool false) ∧ w' = w) := cP
  have CS : Hid (∀ w, Calls Tryz.prog 143 #[.string r, .string ⟨#[90]⟩] w fun e w' => e = .returned (.bool false) ∧ w' = w) := cS
  clear cP cS h1 h2
  go_enter Tryz.func97, Tryz.ntmps97
  go_wp2_with (first | (go_at_call 142; refine (CP.out _).mono ?_; rintro e w1 ⟨rfl, rfl⟩) | (go_at_call 143; refine (CS.out _).mono ?_; rintro e w1 ⟨rfl, rfl⟩))
  exact bodyPost_ret (v := .agg #[.bool false, .bool false]) (by simp [results, Tryz.results97, go_sem]) rfl ⟨rfl, by first | exact (Below.refl _ _).alloc (Nat.le_refl _) _ | exact ((Below.refl _ _).alloc (Nat.le_refl _) _).setCell (by simp) _⟩

set_option maxRecDepth 100000 in
set_option maxHeartbeats 2000000 in
theorem fread_yes (s day clock : ByteArray) (w : World) (m : Int) (ht : Tab w) (hm : w.cell? ⟨32, 0, none⟩ = some (.int .i64 m)) (hs : s.size ≤ 4000) (n c : Int)
    (hcut : Lib.cut s.data.toList [84] = (day.data.toList, clock.data.toList, true))
    (cD : ∀ wx, Tab wx → Calls Tryz.prog 194 #[.string day] wx fun e w' => e = .returned (.tuple #[.int .i64 (n * 86400), .nilIface]) ∧ ∃ q, w' = wx.drewN q)
    (cC : ∀ wx, Calls Tryz.prog 195 #[.string clock] wx fun e w' => e = .returned (.tuple #[.int .i64 c, .nilIface]) ∧ ∃ q, w' = wx.drewN q) (hn1 : -25567 ≤ n) (hn2 : n ≤ 84005) (hc1 : 0 ≤ c) (hc2 : c ≤ 86400) :
    Calls Tryz.prog 145 #[.agg #[.bool false, .bool false], .string s] w fun e w' => e = .returned (.tuple #[.int .i64 (n * 86400 + c), .nilIface]) ∧ Below w.heap.size w w' := by
  have h32 : 32 < w.heap.size := World.block_lt_of_cell? _ _ hm
  have cT : ∀ wx, wx.cell? ⟨32, 0, none⟩ = some (.int .i64 m) → Calls Tryz.prog 134 #[.string s, .string ⟨#[84]⟩] wx fun e w' => e = .returned (.tuple #[.string day, .string clock, .bool true]) ∧ ∃ q, w' = wx.drewN q := fun wx hx => by
    have := Tryz.strings_Cut s ⟨#[84]⟩ m wx (by omega) hx
    simp only at this
    rw [hcut] at this
    exact this
  have CT : Hid (∀ wx, wx.cell? ⟨32, 0, none⟩ = some (.int .i64 m) → Calls Tryz.prog 134 #[.string s, .string ⟨#[84]⟩] wx fun e w' => e = .returned (.tuple #[.string day, .string clock, .bool true]) ∧ ∃ q, w' = wx.drewN q) := cT
  have CD : Hid (∀ wx, Tab wx → Calls Tryz.prog 194 #[.string day] wx fun e w' => e = .returned (.tuple #[.int .i64 (n * 86400), .nilIface]) ∧ ∃ q, w' = wx.drewN q) := cD
  have CC : Hid (∀ wx, Calls Tryz.prog 195 #[.string clock] wx fun e w' => e = .returned (.tuple #[.int .i64 c, .nilIface]) ∧ ∃ q, w' = wx.drewN q) := cC
  have HT : Hid (∀ w', Below w.heap.size w w' → Tab w') := fun w' hb => ht.below hb
  have HM : Hid (∀ w', Below w.heap.size w w' → w'.cell? ⟨32, 0, none⟩ = some (.int .i64 m)) := fun w' hb => ml_below hm h32 hb
  clear cT cD cC ht hm hcut
  go_enter Tryz.func145, Tryz.ntmps145
  go_wp2_with (first | (go_at_call 134; refine (CT.out _ (HM.out _ ((Below.refl _ _).alloc (Nat.le_refl _) _))).mono ?_; rintro e w1 ⟨rfl, q1, rfl⟩) | (go_at_call 194; refine (CD.out _ (HT.out _ (bel_drewN ((Below.refl _ _).alloc (Nat.le_refl _) _) _))).mono ?_; rintro e w2 ⟨rfl, q2, rfl⟩) | (go_at_call 195; refine (CC.out _).mono ?_; rintro e w3 ⟨rfl, q3, rfl⟩))
  go_ret2
  exact ⟨rfl, bel_drewN ((Below.refl _ _).alloc (Nat.le_refl _) _) _⟩

set_option maxRecDepth 100000 in
set_option maxHeartbeats 2000000 in
theorem readMarked_yes (r s : ByteArray) (w : World) (v : Int)
    (h1 : Lib.hasPrefix r.data.toList [58] = true) (h2 : Lib.trimPrefix r.data.toList [58] = s.data.toList)
    (cR : ∀ wx, Below w.heap.size w wx → Calls Tryz.prog 145 #[.agg #[.bool false, .bool false], .string s] wx fun e w' => e = .returned (.tuple #[.int .i64 v, .nilIface]) ∧ Below wx.heap.size wx w') :
    Calls Tryz.prog 99 #[.agg #[.bool false, .bool false], .string r] w fun e w' => e = .returned (.tuple #[.int .i64 v, .nilIface]) ∧ Below w.heap.size w w' := by
  have cP := fun w => Tryz.strings_CutPrefix r ⟨#[58]⟩ w
  simp only at cP
  rw [h1, h2] at cP
  have CP : Hid (∀ w, Calls Tryz.prog 144 #[.string r, .string ⟨#[58]⟩] w fun e w' => e = .returned (.tuple #[.string s, .bool true]) ∧ w' = w) := cP
  have CR : Hid (∀ wx, Below w.heap.size w wx → Calls Tryz.prog 145 #[.agg #[.bool false, .bool false], .string s] wx fun e w' => e = .returned (.tuple #[.int .i64 v, .nilIface]) ∧ Below wx.heap.size wx w') := cR
  clear cP cR h1 h2
  go_enter Tryz.func99, Tryz.ntmps99
  go_wp2_with (first | (go_at_call 69; refine (mark_no _).mono ?_; rintro e w1 ⟨rfl, hb1⟩; have hbw1 : Below w.heap.size w w1 := ((Below.refl _ _).alloc (Nat.le_refl _) _).trans (hb1.mono (by simp)); obtain ⟨hc1, hf1⟩ := bcell hb1) | (go_at_call 144; refine (CP.out _).mono ?_; rintro e w2 ⟨rfl, rfl⟩) | (go_at_call 145; refine (CR.out _ hbw1).mono ?_; rintro e w3 ⟨rfl, hb3⟩))
  go_ret2
  exact ⟨rfl, hbw1.trans (hb3.mono hbw1.size)⟩
end Go.Proofs.YtmmnbdefkailpaaGreatDoor

/- Package event: what a reader of events has. -/
namespace Go.Proofs.YtmmnbdefkailpaaGreatDoor
open Go.RowKit Cal
set_option linter.unusedVariables false

set_option maxRecDepth 100000 in
theorem has0 (B : Nat) (a : Option Addr) (n c : Nat) (w : World) (hn : n ≤ 4000) (h : w.cell? ⟨B, 1, none⟩ = some (.slice a n c)) :
    Calls Tryz.prog 92 #[.pointer (some ⟨B, 0, none⟩), .int .i64 0] w fun e w' => e = .returned (.bool (decide ((0 : Int) < n))) ∧ w' = w := by
  go_enter Tryz.func92, Tryz.ntmps92
  go_wp2
  go_ret
  exact ⟨by first | rfl | simp, rfl⟩

set_option maxRecDepth 100000 in
theorem has1 (B : Nat) (a : Option Addr) (n c : Nat) (w : World) (hn : n ≤ 4000) (h : w.cell? ⟨B, 2, none⟩ = some (.slice a n c)) :
    Calls Tryz.prog 92 #[.pointer (some ⟨B, 0, none⟩), .int .i64 1] w fun e w' => e = .returned (.bool (decide ((0 : Int) < n))) ∧ w' = w := by
  go_enter Tryz.func92, Tryz.ntmps92
  go_wp2
  go_ret
  exact ⟨by first | rfl | simp, rfl⟩

set_option maxRecDepth 100000 in
theorem has2 (B : Nat) (a : Option Addr) (n c : Nat) (w : World) (hn : n ≤ 4000) (h : w.cell? ⟨B, 3, none⟩ = some (.slice a n c)) :
    Calls Tryz.prog 92 #[.pointer (some ⟨B, 0, none⟩), .int .i64 2] w fun e w' => e = .returned (.bool (decide ((0 : Int) < n))) ∧ w' = w := by
  go_enter Tryz.func92, Tryz.ntmps92
  go_wp2
  go_ret
  exact ⟨by first | rfl | simp, rfl⟩

set_option maxRecDepth 100000 in
theorem has3 (B : Nat) (a : Option Addr) (n c : Nat) (w : World) (hn : n ≤ 4000) (h : w.cell? ⟨B, 4, none⟩ = some (.slice a n c)) :
    Calls Tryz.prog 92 #[.pointer (some ⟨B, 0, none⟩), .int .i64 3] w fun e w' => e = .returned (.bool (decide ((0 : Int) < n))) ∧ w' = w := by
  go_enter Tryz.func92, Tryz.ntmps92
  go_wp2
  go_ret
  exact ⟨by first | rfl | simp, rfl⟩

set_option maxRecDepth 100000 in
theorem has4 (B : Nat) (a : Option Addr) (n c : Nat) (w : World) (hn : n ≤ 4000) (h : w.cell? ⟨B, 5, none⟩ = some (.slice a n c)) :
    Calls Tryz.prog 92 #[.pointer (some ⟨B, 0, none⟩), .int .i64 4] w fun e w' => e = .returned (.bool (decide ((0 : Int) < n))) ∧ w' = w := by
  go_enter Tryz.func92, Tryz.ntmps92
  go_wp2
  go_ret
  exact ⟨by first | rfl | simp, rfl⟩

set_option maxRecDepth 100000 in
theorem has5 (B : Nat) (a : Option Addr) (n c : Nat) (w : World) (hn : n ≤ 4000) (h : w.cell? ⟨B, 6, none⟩ = some (.slice a n c)) :
    Calls Tryz.prog 92 #[.pointer (some ⟨B, 0, none⟩), .int .i64 5] w fun e w' => e = .returned (.bool (decide ((0 : Int) < n))) ∧ w' = w := by
  go_enter Tryz.func92, Tryz.ntmps92
  go_wp2
  go_ret
  exact ⟨by first | rfl | simp, rfl⟩

set_option maxRecDepth 100000 in
theorem has6 (B : Nat) (a : Option Addr) (n c : Nat) (w : World) (hn : n ≤ 4000) (h : w.cell? ⟨B, 7, none⟩ = some (.slice a n c)) :
    Calls Tryz.prog 92 #[.pointer (some ⟨B, 0, none⟩), .int .i64 6] w fun e w' => e = .returned (.bool (decide ((0 : Int) < n))) ∧ w' = w := by
  go_enter Tryz.func92, Tryz.ntmps92
  go_wp2
  go_ret
  exact ⟨by first | rfl | simp, rfl⟩

set_option maxRecDepth 100000 in
theorem has7 (B : Nat) (a : Option Addr) (n c : Nat) (w : World) (hn : n ≤ 4000) (h : w.cell? ⟨B, 8, none⟩ = some (.slice a n c)) :
    Calls Tryz.prog 92 #[.pointer (some ⟨B, 0, none⟩), .int .i64 7] w fun e w' => e = .returned (.bool (decide ((0 : Int) < n))) ∧ w' = w := by
  go_enter Tryz.func92, Tryz.ntmps92
  go_wp2
  go_ret
  exact ⟨by first | rfl | simp, rfl⟩

set_option maxRecDepth 100000 in
theorem rest0 (B g n c : Nat) (s : ByteArray) (w : World) (hn : 0 < n) (hn2 : n ≤ 4000) (h : w.cell? ⟨B, 1, none⟩ = some (.slice (some ⟨g, 0, none⟩) n c)) (hg : w.cell? ⟨g, 0, none⟩ = some (.string s)) :
    Calls Tryz.prog 98 #[.pointer (some ⟨B, 0, none⟩), .int .i64 0] w fun e w' => e = .returned (.string s) ∧ w' = w := by
  go_enter Tryz.func98, Tryz.ntmps98
  go_wp2
  go_ret
  exact ⟨rfl, rfl⟩

set_option maxRecDepth 100000 in
theorem rest2 (B g n c : Nat) (s : ByteArray) (w : World) (hn : 0 < n) (hn2 : n ≤ 4000) (h : w.cell? ⟨B, 3, none⟩ = some (.slice (some ⟨g, 0, none⟩) n c)) (hg : w.cell? ⟨g, 0, none⟩ = some (.string s)) :
    Calls Tryz.prog 98 #[.pointer (some ⟨B, 0, none⟩), .int .i64 2] w fun e w' => e = .returned (.string s) ∧ w' = w := by
  go_enter Tryz.func98, Tryz.ntmps98
  go_wp2
  go_ret
  exact ⟨rfl, rfl⟩

set_option maxRecDepth 100000 in
theorem rest5 (B g n c : Nat) (s : ByteArray) (w : World) (hn : 0 < n) (hn2 : n ≤ 4000) (h : w.cell? ⟨B, 6, none⟩ = some (.slice (some ⟨g, 0, none⟩) n c)) (hg : w.cell? ⟨g, 0, none⟩ = some (.string s)) :
    Calls Tryz.prog 98 #[.pointer (some ⟨B, 0, none⟩), .int .i64 5] w fun e w' => e = .returned (.string s) ∧ w' = w := by
  go_enter Tryz.func98, Tryz.ntmps98
  go_wp2
  go_ret
  exact ⟨rfl, rfl⟩

set_option maxRecDepth 100000 in
theorem value0 (B g n c : Nat) (s : ByteArray) (w : World) (hn : 0 < n) (hn2 : n ≤ 4000) (hs1 : 1 ≤ s.size) (hs : s.size ≤ 4000) (h : w.cell? ⟨B, 1, none⟩ = some (.slice (some ⟨g, 0, none⟩) n c)) (hg : w.cell? ⟨g, 0, none⟩ = some (.string s)) :
    Calls Tryz.prog 93 #[.pointer (some ⟨B, 0, none⟩), .int .i64 0] w fun e w' => e = .returned (.string (s.extract 1 s.size)) ∧ w' = w := by
  have cR := rest0 B g n c s w hn hn2 h hg
  go_enter Tryz.func93, Tryz.ntmps93
  go_wp2_with (go_at_call 98; refine cR.mono ?_; rintro e w1 ⟨rfl, rfl⟩)
  go_ret
  exact ⟨rfl, rfl⟩

set_option maxRecDepth 100000 in
theorem value5 (B g n c : Nat) (s : ByteArray) (w : World) (hn : 0 < n) (hn2 : n ≤ 4000) (hs1 : 1 ≤ s.size) (hs : s.size ≤ 4000) (h : w.cell? ⟨B, 6, none⟩ = some (.slice (some ⟨g, 0, none⟩) n c)) (hg : w.cell? ⟨g, 0, none⟩ = some (.string s)) :
    Calls Tryz.prog 93 #[.pointer (some ⟨B, 0, none⟩), .int .i64 5] w fun e w' => e = .returned (.string (s.extract 1 s.size)) ∧ w' = w := by
  have cR := rest5 B g n c s w hn hn2 h hg
  go_enter Tryz.func93, Tryz.ntmps93
  go_wp2_with (go_at_call 98; refine cR.mono ?_; rintro e w1 ⟨rfl, rfl⟩)
  go_ret
  exact ⟨rfl, rfl⟩

end Go.Proofs.YtmmnbdefkailpaaGreatDoor
