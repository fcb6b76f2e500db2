/- The reference's runeSize, clean, goesOn. -/
import Derived.Test.YtdhobemladckjaaDoorTxt
import Derived.Test.YtdhobemladckjaaDoorChecked
import Derived.WalkKit
import Derived.WalkSpells
import Derived.WalkLawsBesides
import Derived.Lib.Strings
namespace Go.Proofs.YtdhobemladckjaaDoor
open Go.RowKit
set_option linter.unusedVariables false

theorem ret_int {k : IntKind} {a b : Int} (h : a = b) : Ending.returned (.int k a) = .returned (.int k b) := by rw [h]
theorem ret_bool {a b : Bool} (h : a = b) : Ending.returned (.bool a) = .returned (.bool b) := by rw [h]
theorem getD_data (s : ByteArray) (i : Nat) (h : i < s.size) : s.data.toList.getD i 0 = s[i] := by
  rw [getD_of _ _ (by simpa using h)]; rfl
theorem len_data (s : ByteArray) : s.data.toList.length = s.size := by simp

set_option maxRecDepth 100000 in
set_option maxHeartbeats 1000000 in
theorem runeSize_1 (s : ByteArray) (w : World) (hs : s.size ≤ maxLen) (h0 : 0 < s.size) (hb : (s[0].toNat : Int) < 128) :
    Calls Tryd.prog 20 #[.string s] w fun e w' => e = .returned (.int .i64 (rsz s.data.toList)) ∧ w' = w := by
  have hr : rsz s.data.toList = 1 := by
    unfold rsz rszN; rw [getD_data s 0 h0, if_pos (by omega)]
  rw [hr]; clear hr
  go_enter Tryd.func20, Tryd.ntmps20
  go_wp2
  go_ret
  exact ⟨rfl, rfl⟩

set_option maxRecDepth 100000 in
set_option maxHeartbeats 1000000 in
theorem runeSize_0 (s : ByteArray) (w : World) (hs : s.size ≤ maxLen) (h0 : 0 < s.size) (hb : 128 ≤ (s[0].toNat : Int)) (hb2 : (s[0].toNat : Int) < 192 ∨ 248 ≤ (s[0].toNat : Int)) :
    Calls Tryd.prog 20 #[.string s] w fun e w' => e = .returned (.int .i64 (rsz s.data.toList)) ∧ w' = w := by
  have hr : rsz s.data.toList = 0 := by
    unfold rsz rszN; rw [getD_data s 0 h0, if_neg (by omega), if_neg (by omega), if_neg (by omega), if_neg (by omega)]
  have hu0 : (s[0].toNat : Int) < 256 := by have := UInt8.toNat_lt s[0]; omega
  rw [hr]; clear hr
  rcases hb2 with hb2 | hb2
  · go_enter Tryd.func20, Tryd.ntmps20
    go_wp2
    go_ret
    exact ⟨rfl, rfl⟩
  · go_enter Tryd.func20, Tryd.ntmps20
    go_wp2
    go_ret
    exact ⟨rfl, rfl⟩

set_option maxRecDepth 100000 in
set_option maxHeartbeats 1000000 in
theorem runeSize_short2 (s : ByteArray) (w : World) (hs : s.size ≤ maxLen) (h0 : 0 < s.size) (hb : 192 ≤ (s[0].toNat : Int)) (hb2 : (s[0].toNat : Int) < 224) (hn : (s.size : Int) < 2) :
    Calls Tryd.prog 20 #[.string s] w fun e w' => e = .returned (.int .i64 (rsz s.data.toList)) ∧ w' = w := by
  have hr : rsz s.data.toList = 0 := by
    unfold rsz rszN; rw [getD_data s 0 h0, if_neg (by omega), if_pos (by omega), if_pos (by rw [len_data]; omega)]
  rw [hr]; clear hr
  go_enter Tryd.func20, Tryd.ntmps20
  go_wp2
  go_ret
  exact ⟨rfl, rfl⟩

set_option maxRecDepth 100000 in
set_option maxHeartbeats 1000000 in
theorem runeSize_2 (s : ByteArray) (w : World) (hs : s.size ≤ maxLen) (h0 : 0 < s.size) (hb : 192 ≤ (s[0].toNat : Int)) (hb2 : (s[0].toNat : Int) < 224) (hn : 1 < s.size) :
    Calls Tryd.prog 20 #[.string s] w fun e w' => e = .returned (.int .i64 (rsz s.data.toList)) ∧ w' = w := by
  have hq1 : 1 < s.size := by omega
  have HR : Hid (rsz s.data.toList = if s[1].toNat < 128 ∨ 191 < s[1].toNat then 0 else if 64 * s[0].toNat + s[1].toNat < 128 + (64 * 192 + 128) then 0 else 2) := by
    unfold rsz rszN; rw [getD_data s 0 (by omega), getD_data s 1 (by omega), if_neg (by omega), if_pos (by omega), if_neg (by rw [len_data]; omega)]
    exact rfl
  have hn' : (2 : Int) ≤ s.size := by omega
  have hu1 : (s[1].toNat : Int) < 256 := by have := UInt8.toNat_lt s[1]; omega
  go_enter Tryd.func20, Tryd.ntmps20
  go_wp2
  go_loop [6, 7] (fun c i => (i = .int .i64 1 ∧ c = .int .i64 ((s[0].toNat : Int) - 192)) ∨ (i = .int .i64 2 ∧ 128 ≤ (s[1].toNat : Int) ∧ (s[1].toNat : Int) ≤ 191 ∧ c = .int .i64 (64 * ((s[0].toNat : Int) - 192) + (s[1].toNat : Int) - 128))) (fun _ i => 3 - (intOf i).toNat)
  case atStart => exact .inl ⟨rfl, rfl⟩
  case round =>
    rcases hrel with ⟨rfl, rfl⟩ | ⟨rfl, p1, q1, rfl⟩
    · go_wp2
      all_goals first
        | (go_ret; exact ⟨ret_int (by rw [HR.out, if_pos (by omega)]; rfl), rfl⟩)
        | (go_round
           case rel => exact (.inr ⟨rfl, by omega, by omega, rfl⟩)
           case measure => simp [intOf])
    · go_wp2
      all_goals
        go_ret
        exact ⟨ret_int (by rw [HR.out, if_neg (by omega)]; first | (rw [if_pos (by omega)]; rfl) | (rw [if_neg (by omega)]; rfl) | (rw [if_neg (by omega), if_pos (by omega)]; rfl) | (rw [if_neg (by omega), if_neg (by omega)]; rfl)), rfl⟩

set_option maxRecDepth 100000 in
set_option maxHeartbeats 1000000 in
theorem runeSize_short3 (s : ByteArray) (w : World) (hs : s.size ≤ maxLen) (h0 : 0 < s.size) (hb : 224 ≤ (s[0].toNat : Int)) (hb2 : (s[0].toNat : Int) < 240) (hn : (s.size : Int) < 3) :
    Calls Tryd.prog 20 #[.string s] w fun e w' => e = .returned (.int .i64 (rsz s.data.toList)) ∧ w' = w := by
  have hr : rsz s.data.toList = 0 := by
    unfold rsz rszN; rw [getD_data s 0 h0, if_neg (by omega), if_neg (by omega), if_pos (by omega), if_pos (by rw [len_data]; omega)]
  rw [hr]; clear hr
  go_enter Tryd.func20, Tryd.ntmps20
  go_wp2
  go_ret
  exact ⟨rfl, rfl⟩

set_option maxRecDepth 100000 in
set_option maxHeartbeats 1000000 in
theorem runeSize_3 (s : ByteArray) (w : World) (hs : s.size ≤ maxLen) (h0 : 0 < s.size) (hb : 224 ≤ (s[0].toNat : Int)) (hb2 : (s[0].toNat : Int) < 240) (hn : 2 < s.size) :
    Calls Tryd.prog 20 #[.string s] w fun e w' => e = .returned (.int .i64 (rsz s.data.toList)) ∧ w' = w := by
  have hq1 : 1 < s.size := by omega
  have hq2 : 2 < s.size := by omega
  have HR : Hid (rsz s.data.toList = if s[1].toNat < 128 ∨ 191 < s[1].toNat then 0 else if s[2].toNat < 128 ∨ 191 < s[2].toNat then 0 else if 4096 * s[0].toNat + 64 * s[1].toNat + s[2].toNat < 2048 + (4096 * 224 + 64 * 128 + 128) then 0 else if 55296 + (4096 * 224 + 64 * 128 + 128) ≤ 4096 * s[0].toNat + 64 * s[1].toNat + s[2].toNat ∧ 4096 * s[0].toNat + 64 * s[1].toNat + s[2].toNat < 57344 + (4096 * 224 + 64 * 128 + 128) then 0 else 3) := by
    unfold rsz rszN; rw [getD_data s 0 (by omega), getD_data s 1 (by omega), getD_data s 2 (by omega), if_neg (by omega), if_neg (by omega), if_pos (by omega), if_neg (by rw [len_data]; omega)]
    exact rfl
  have hn' : (3 : Int) ≤ s.size := by omega
  have hu1 : (s[1].toNat : Int) < 256 := by have := UInt8.toNat_lt s[1]; omega
  have hu2 : (s[2].toNat : Int) < 256 := by have := UInt8.toNat_lt s[2]; omega
  go_enter Tryd.func20, Tryd.ntmps20
  go_wp2
  go_loop [6, 7] (fun c i => (i = .int .i64 1 ∧ c = .int .i64 ((s[0].toNat : Int) - 224)) ∨ (i = .int .i64 2 ∧ 128 ≤ (s[1].toNat : Int) ∧ (s[1].toNat : Int) ≤ 191 ∧ c = .int .i64 (64 * ((s[0].toNat : Int) - 224) + (s[1].toNat : Int) - 128)) ∨ (i = .int .i64 3 ∧ 128 ≤ (s[1].toNat : Int) ∧ (s[1].toNat : Int) ≤ 191 ∧ 128 ≤ (s[2].toNat : Int) ∧ (s[2].toNat : Int) ≤ 191 ∧ c = .int .i64 (64 * (64 * ((s[0].toNat : Int) - 224) + (s[1].toNat : Int) - 128) + (s[2].toNat : Int) - 128))) (fun _ i => 4 - (intOf i).toNat)
  case atStart => exact .inl ⟨rfl, rfl⟩
  case round =>
    rcases hrel with ⟨rfl, rfl⟩ | ⟨rfl, p1, q1, rfl⟩ | ⟨rfl, p1, q1, p2, q2, rfl⟩
    · go_wp2
      all_goals first
        | (go_ret; exact ⟨ret_int (by rw [HR.out, if_pos (by omega)]; rfl), rfl⟩)
        | (go_round
           case rel => exact (.inr (.inl ⟨rfl, by omega, by omega, rfl⟩))
           case measure => simp [intOf])
    · go_wp2
      all_goals first
        | (go_ret; exact ⟨ret_int (by rw [HR.out, if_neg (by omega), if_pos (by omega)]; rfl), rfl⟩)
        | (go_round
           case rel => exact (.inr (.inr ⟨rfl, by omega, by omega, by omega, by omega, rfl⟩))
           case measure => simp [intOf])
    · go_wp2
      all_goals
        go_ret
        exact ⟨ret_int (by rw [HR.out, if_neg (by omega), if_neg (by omega)]; first | (rw [if_pos (by omega)]; rfl) | (rw [if_neg (by omega)]; rfl) | (rw [if_neg (by omega), if_pos (by omega)]; rfl) | (rw [if_neg (by omega), if_neg (by omega)]; rfl)), rfl⟩

set_option maxRecDepth 100000 in
set_option maxHeartbeats 1000000 in
theorem runeSize_short4 (s : ByteArray) (w : World) (hs : s.size ≤ maxLen) (h0 : 0 < s.size) (hb : 240 ≤ (s[0].toNat : Int)) (hb2 : (s[0].toNat : Int) < 248) (hn : (s.size : Int) < 4) :
    Calls Tryd.prog 20 #[.string s] w fun e w' => e = .returned (.int .i64 (rsz s.data.toList)) ∧ w' = w := by
  have hr : rsz s.data.toList = 0 := by
    unfold rsz rszN; rw [getD_data s 0 h0, if_neg (by omega), if_neg (by omega), if_neg (by omega), if_pos (by omega), if_pos (by rw [len_data]; omega)]
  rw [hr]; clear hr
  go_enter Tryd.func20, Tryd.ntmps20
  go_wp2
  go_ret
  exact ⟨rfl, rfl⟩

set_option maxRecDepth 100000 in
set_option maxHeartbeats 1000000 in
theorem runeSize_4 (s : ByteArray) (w : World) (hs : s.size ≤ maxLen) (h0 : 0 < s.size) (hb : 240 ≤ (s[0].toNat : Int)) (hb2 : (s[0].toNat : Int) < 248) (hn : 3 < s.size) :
    Calls Tryd.prog 20 #[.string s] w fun e w' => e = .returned (.int .i64 (rsz s.data.toList)) ∧ w' = w := by
  have hq1 : 1 < s.size := by omega
  have hq2 : 2 < s.size := by omega
  have hq3 : 3 < s.size := by omega
  have HR : Hid (rsz s.data.toList = if s[1].toNat < 128 ∨ 191 < s[1].toNat then 0 else if s[2].toNat < 128 ∨ 191 < s[2].toNat then 0 else if s[3].toNat < 128 ∨ 191 < s[3].toNat then 0 else if 262144 * s[0].toNat + 4096 * s[1].toNat + 64 * s[2].toNat + s[3].toNat < 65536 + (262144 * 240 + 4096 * 128 + 64 * 128 + 128) then 0 else if 1114111 + (262144 * 240 + 4096 * 128 + 64 * 128 + 128) < 262144 * s[0].toNat + 4096 * s[1].toNat + 64 * s[2].toNat + s[3].toNat then 0 else 4) := by
    unfold rsz rszN; rw [getD_data s 0 (by omega), getD_data s 1 (by omega), getD_data s 2 (by omega), getD_data s 3 (by omega), if_neg (by omega), if_neg (by omega), if_neg (by omega), if_pos (by omega), if_neg (by rw [len_data]; omega)]
    exact rfl
  have hn' : (4 : Int) ≤ s.size := by omega
  have hu1 : (s[1].toNat : Int) < 256 := by have := UInt8.toNat_lt s[1]; omega
  have hu2 : (s[2].toNat : Int) < 256 := by have := UInt8.toNat_lt s[2]; omega
  have hu3 : (s[3].toNat : Int) < 256 := by have := UInt8.toNat_lt s[3]; omega
  go_enter Tryd.func20, Tryd.ntmps20
  go_wp2
  go_loop [6, 7] (fun c i => (i = .int .i64 1 ∧ c = .int .i64 ((s[0].toNat : Int) - 240)) ∨ (i = .int .i64 2 ∧ 128 ≤ (s[1].toNat : Int) ∧ (s[1].toNat : Int) ≤ 191 ∧ c = .int .i64 (64 * ((s[0].toNat : Int) - 240) + (s[1].toNat : Int) - 128)) ∨ (i = .int .i64 3 ∧ 128 ≤ (s[1].toNat : Int) ∧ (s[1].toNat : Int) ≤ 191 ∧ 128 ≤ (s[2].toNat : Int) ∧ (s[2].toNat : Int) ≤ 191 ∧ c = .int .i64 (64 * (64 * ((s[0].toNat : Int) - 240) + (s[1].toNat : Int) - 128) + (s[2].toNat : Int) - 128)) ∨ (i = .int .i64 4 ∧ 128 ≤ (s[1].toNat : Int) ∧ (s[1].toNat : Int) ≤ 191 ∧ 128 ≤ (s[2].toNat : Int) ∧ (s[2].toNat : Int) ≤ 191 ∧ 128 ≤ (s[3].toNat : Int) ∧ (s[3].toNat : Int) ≤ 191 ∧ c = .int .i64 (64 * (64 * (64 * ((s[0].toNat : Int) - 240) + (s[1].toNat : Int) - 128) + (s[2].toNat : Int) - 128) + (s[3].toNat : Int) - 128))) (fun _ i => 5 - (intOf i).toNat)
  case atStart => exact .inl ⟨rfl, rfl⟩
  case round =>
    rcases hrel with ⟨rfl, rfl⟩ | ⟨rfl, p1, q1, rfl⟩ | ⟨rfl, p1, q1, p2, q2, rfl⟩ | ⟨rfl, p1, q1, p2, q2, p3, q3, rfl⟩
    · go_wp2
      all_goals first
        | (go_ret; exact ⟨ret_int (by rw [HR.out, if_pos (by omega)]; rfl), rfl⟩)
        | (go_round
           case rel => exact (.inr (.inl ⟨rfl, by omega, by omega, rfl⟩))
           case measure => simp [intOf])
    · go_wp2
      all_goals first
        | (go_ret; exact ⟨ret_int (by rw [HR.out, if_neg (by omega), if_pos (by omega)]; rfl), rfl⟩)
        | (go_round
           case rel => exact (.inr (.inr (.inl ⟨rfl, by omega, by omega, by omega, by omega, rfl⟩)))
           case measure => simp [intOf])
    · go_wp2
      all_goals first
        | (go_ret; exact ⟨ret_int (by rw [HR.out, if_neg (by omega), if_neg (by omega), if_pos (by omega)]; rfl), rfl⟩)
        | (go_round
           case rel => exact (.inr (.inr (.inr ⟨rfl, by omega, by omega, by omega, by omega, by omega, by omega, rfl⟩)))
           case measure => simp [intOf])
    · go_wp2
      all_goals
        go_ret
        exact ⟨ret_int (by rw [HR.out, if_neg (by omega), if_neg (by omega), if_neg (by omega)]; first | (rw [if_pos (by omega)]; rfl) | (rw [if_neg (by omega)]; rfl) | (rw [if_neg (by omega), if_pos (by omega)]; rfl) | (rw [if_neg (by omega), if_neg (by omega)]; rfl)), rfl⟩

end Go.Proofs.YtdhobemladckjaaDoor
