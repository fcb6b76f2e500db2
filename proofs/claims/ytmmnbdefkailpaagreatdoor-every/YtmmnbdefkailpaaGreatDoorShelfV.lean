/- Off the shelf: utf8.ValidString; and small things. -/
import Derived.Shelf.Unicode.ValidAny
import Derived.Lib.IndexBytes
import Derived.Deep.Light
import Derived.Test.YtmmnbdefkailpaaGreatDoorTxt
import Derived.Test.YtmmnbdefkailpaaGreatDoorTxu

namespace Go.Proofs.YtmmnbdefkailpaaGreatDoor.Ln
open Go.Shelf
set_option linter.unusedVariables false
theorem data_extract (s : ByteArray) (a : Nat) : (s.extract a s.size).data.toList = s.data.toList.drop a := by
  have h := Lib.extract_to_end s a
  rw [h]
theorem data_ne (s : ByteArray) (h : 0 < s.size) : s.data.toList ≠ [] := by
  intro hh; have := congrArg List.length hh; rw [len_data, List.length_nil] at this; omega
theorem okb_cases (b : UInt8) : okb b = (!((decide ((b.toNat : Int) < 32) && !decide ((b.toNat : Int) = 9)) || decide ((b.toNat : Int) = 127))) := by
  unfold okb
  have e1 : decide (b.toNat < 32) = decide ((b.toNat : Int) < 32) := by congr 1; apply propext; omega
  have e2 : decide (b.toNat ≠ 9) = !decide ((b.toNat : Int) = 9) := by
    rw [← decide_not]; congr 1; apply propext; omega
  have e3 : decide (b.toNat = 127) = decide ((b.toNat : Int) = 127) := by congr 1; apply propext; omega
  rw [e1, e2, e3]
theorem okb_no {b : UInt8} (h : ((b.toNat : Int) < 32 ∧ (b.toNat : Int) ≠ 9) ∨ (b.toNat : Int) = 127) : okb b = false := by
  rw [okb_cases]; rcases h with ⟨h1, h2⟩ | h
  · simp [h1, h2]
  · simp [h]
theorem okb_yes {b : UInt8} (h : (32 ≤ (b.toNat : Int) ∨ (b.toNat : Int) = 9) ∧ (b.toNat : Int) ≠ 127) : okb b = true := by
  rw [okb_cases]
  have h3 : decide ((b.toNat : Int) = 127) = false := decide_eq_false h.2
  rw [h3]
  rcases h.1 with h1 | h1
  · have : decide ((b.toNat : Int) < 32) = false := decide_eq_false (by omega)
    rw [this]; rfl
  · have : decide ((b.toNat : Int) = 9) = true := decide_eq_true h1
    rw [this]; simp
abbrev lns (ss : List ByteArray) : List (List UInt8) := ss.map (fun s => s.data.toList)

theorem data_append (a b : ByteArray) : (a ++ b).data.toList = a.data.toList ++ b.data.toList := by simp
theorem data_mid (s : ByteArray) (a n : Nat) : (s.extract a (a + n)).data.toList = (s.data.toList.drop a).take n := by
  rw [Lib.extract_data]; congr 1; omega

theorem okl_parts {l : List UInt8} (h : okl l = true) : cln l = true ∧ goes l = false ∧ l.length ≤ 4000 := by
  simp only [okl, Bool.and_eq_true, Bool.not_eq_true', decide_eq_true_eq] at h; exact ⟨h.1.1, h.1.2, h.2⟩
theorem okl_no {l : List UInt8} (h : okl l = false) : cln l = false ∨ goes l = true ∨ 4000 < l.length := by
  unfold okl at h
  cases hc : cln l
  · exact .inl rfl
  · rw [hc] at h
    cases hg : goes l
    · rw [hg] at h; simp at h; exact .inr (.inr h)
    · exact .inr (.inl rfl)

theorem fo_drop (acc : List UInt8) (ss : List ByteArray) (k : Nat) (h : k < ss.length) :
    fo acc ((lns ss).drop k) = if okl (ss[k]).data.toList = true then (if 4000 < (acc ++ (gr 75 (ss[k]).data.toList ++ [13, 10])).length then none else fo (acc ++ (gr 75 (ss[k]).data.toList ++ [13, 10])) ((lns ss).drop (k + 1))) else none := by
  have e : (lns ss).drop k = (ss[k]).data.toList :: (lns ss).drop (k + 1) := by
    rw [List.drop_eq_getElem_cons (by simpa using h)]; simp
  rw [e]; rfl

/-- what Fold answers, told by its option -/
theorem fo_bad {ls : List (List UInt8)} (h : fo [] ls = none) : foT ls = [] ∧ foE ls = 1 := by unfold foT foE; rw [h]; exact ⟨rfl, rfl⟩
theorem fo_good {ls : List (List UInt8)} {t : List UInt8} (h : fo [] ls = some t) : foT ls = t ∧ foE ls = 0 := by unfold foT foE; rw [h]; exact ⟨rfl, rfl⟩
def laysV_ren : Go.Shelf.Ren := ⟨fun | 196 => 136 | 259 => 185 | n => n, fun | 9 => 9 | 4 => 4 | 3 => 3 | 5 => 5 | 12 => 12 | 119 => 255 | 0 => 0 | 46 => 140 | 139 => 258 | 138 => 257 | 53 => 92 | n => n, fun | 3 => 22 | 4 => 23 | n => n⟩
theorem laysV : Go.Proofs.Lays.n196 Tryz.prog laysV_ren := {
  mixed := by kernel_rfl
  f196 := Tryz.func136.trans (congrArg some (by kernel_rfl))
  f259 := Tryz.func185.trans (congrArg some (by kernel_rfl))
  t0 := Tryz.underlying0
  a0 := Tryz.isAgg0
  z0 := Tryz.sizeOf0
  v0 := Tryz.zeroValue0
  t3 := Tryz.underlying3
  a3 := Tryz.isAgg3
  z3 := Tryz.sizeOf3
  v3 := Tryz.zeroValue3
  t4 := Tryz.underlying4
  a4 := Tryz.isAgg4
  z4 := Tryz.sizeOf4
  v4 := Tryz.zeroValue4
  t5 := Tryz.underlying5
  a5 := Tryz.isAgg5
  z5 := Tryz.sizeOf5
  v5 := Tryz.zeroValue5
  t9 := Tryz.underlying9
  a9 := Tryz.isAgg9
  z9 := Tryz.sizeOf9
  v9 := Tryz.zeroValue9
  t12 := Tryz.underlying12
  a12 := Tryz.isAgg12
  z12 := Tryz.sizeOf12
  v12 := Tryz.zeroValue12
  t46 := Tryz.underlying140
  a46 := Tryz.isAgg140
  z46 := Tryz.sizeOf140
  v46 := Tryz.zeroValue140
  t53 := Tryz.underlying92
  a53 := Tryz.isAgg92
  z53 := Tryz.sizeOf92
  v53 := Tryz.zeroValue92
  t119 := Tryz.underlying255
  a119 := Tryz.isAgg255
  z119 := Tryz.sizeOf255
  t138 := Tryz.underlying257
  a138 := Tryz.isAgg257
  z138 := Tryz.sizeOf257
  v138 := Tryz.zeroValue257
  t139 := Tryz.underlying258
  a139 := Tryz.isAgg258
  z139 := Tryz.sizeOf258
  v139 := Tryz.zeroValue258
  g3 := by kernel_rfl
  g4 := by kernel_rfl }
open Go.RowKit in
theorem utf8_ValidString (s : ByteArray) (w : World) (hs : s.size ≤ 9223372036854775807) (hT : Lib.Utf8Tabs (laysV_ren.g 3) (laysV_ren.g 4) w) :
    Calls Tryz.prog 136 #[.string s] w fun e w' => e = .returned (.bool (Lib.validD s.data.toList)) ∧ Below w.heap.size w w' := Any.utf8_ValidString laysV s w hs hT
end Go.Proofs.YtmmnbdefkailpaaGreatDoor.Ln
