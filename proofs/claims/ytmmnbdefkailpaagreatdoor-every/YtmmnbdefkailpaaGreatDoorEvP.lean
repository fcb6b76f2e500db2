/- Package event: the rule of an event that comes again by days, with or without an interval. -/
import Derived.Test.YtmmnbdefkailpaaGreatDoorEvM

namespace Go.Proofs.YtmmnbdefkailpaaGreatDoor
open Go.RowKit Cal
set_option linter.unusedVariables false

theorem index_hit (c : UInt8) (b : List UInt8) : ∀ (a : List UInt8), c ∉ a → Lib.index (a ++ c :: b) [c] = a.length
  | [], _ => by
    have : ([c] : List UInt8).isPrefixOf (c :: b) = true := by simp [List.isPrefixOf]
    show Lib.index (c :: b) [c] = 0
    unfold Lib.index
    rw [if_pos this]
  | x :: a, h => by
    have ih := index_hit c b a (fun hh => h (List.mem_cons_of_mem _ hh))
    have hx : ([c] : List UInt8).isPrefixOf (x :: (a ++ c :: b)) = false := by
      simp [List.isPrefixOf]; intro e; exact h (by rw [e]; exact List.mem_cons_self ..)
    show Lib.index (x :: (a ++ c :: b)) [c] = _
    unfold Lib.index
    have e1 : (((a.length : Int)) == -1) = false := by simp only [beq_eq_false_iff_ne, ne_eq]; omega
    rw [hx, if_neg (by simp), ih, e1, if_neg (by simp)]
    simp
theorem index_miss (c : UInt8) : ∀ (a : List UInt8), c ∉ a → Lib.index a [c] = -1
  | [], _ => by rfl
  | x :: a, h => by
    have ih := index_miss c a (fun hh => h (List.mem_cons_of_mem _ hh))
    have hx : ([c] : List UInt8).isPrefixOf (x :: a) = false := by
      simp [List.isPrefixOf]; intro e; exact h (by rw [e]; exact List.mem_cons_self ..)
    unfold Lib.index
    rw [hx, if_neg (by simp), ih]; rfl
theorem cut_at (a b : List UInt8) (c : UInt8) (h : c ∉ a) : Lib.cut (a ++ c :: b) [c] = (a, b, true) := by
  unfold Lib.cut
  rw [index_hit c b a h, if_pos (by omega)]
  simp
theorem cut_no (a : List UInt8) (c : UInt8) (h : c ∉ a) : Lib.cut a [c] = (a, [], false) := by
  unfold Lib.cut
  rw [index_miss c a h]; rfl

theorem dl_no : ∀ k < 100, (59 : UInt8) ∉ dl k ∧ (61 : UInt8) ∉ dl k := by decide

/-- the pieces of the rule -/
def pF : List UInt8 := [70, 82, 69, 81, 61, 68, 65, 73, 76, 89]
def pI (k : Nat) : List UInt8 := [73, 78, 84, 69, 82, 86, 65, 76, 61] ++ dl k
def pC (m : Nat) : List UInt8 := [67, 79, 85, 78, 84, 61] ++ dl m
/-- what stands behind RRULE and the colon -/
def rule3 (k m : Nat) : List UInt8 := pF ++ 59 :: (pI k ++ 59 :: pC m)
def rule2 (m : Nat) : List UInt8 := pF ++ 59 :: pC m
def ba (l : List UInt8) : ByteArray := ⟨l.toArray⟩
theorem ba_data (l : List UInt8) : (ba l).data.toList = l := by simp [ba]
theorem ba_size (l : List UInt8) : (ba l).size = l.length := by simp [ba, ByteArray.size]

theorem pF_no : (59 : UInt8) ∉ pF := by decide
theorem pI_no {k : Nat} (h : k < 100) : (59 : UInt8) ∉ pI k := by
  unfold pI; rw [List.mem_append]; rintro (h1 | h1)
  · revert h1; decide
  · exact (dl_no k h).1 h1
theorem pC_no {k : Nat} (h : k < 100) : (59 : UInt8) ∉ pC k := by
  unfold pC; rw [List.mem_append]; rintro (h1 | h1)
  · revert h1; decide
  · exact (dl_no k h).1 h1
theorem cutF : Lib.cut pF [61] = ([70, 82, 69, 81], (ByteArray.data ⟨#[68, 65, 73, 76, 89]⟩).toList, true) := by decide
theorem cutI {k : Nat} (h : k < 100) : Lib.cut (pI k) [61] = ([73, 78, 84, 69, 82, 86, 65, 76], (ByteArray.data (num k)).toList, true) := by
  rw [num_data h]
  show Lib.cut ([73, 78, 84, 69, 82, 86, 65, 76] ++ 61 :: dl k) [61] = _
  exact cut_at _ _ _ (by decide)
theorem cutC {k : Nat} (h : k < 100) : Lib.cut (pC k) [61] = ([67, 79, 85, 78, 84], (ByteArray.data (num k)).toList, true) := by
  rw [num_data h]
  show Lib.cut ([67, 79, 85, 78, 84] ++ 61 :: dl k) [61] = _
  exact cut_at _ _ _ (by decide)
theorem dl_len {k : Nat} (h : k < 100) : (dl k).length ≤ 2 := (dl_all k h).1

/-- the reader's block, by how many pieces have come -/
def cs3 (k m : Nat) (p t : Value) : Nat → Array Value
  | 0 => #[p, t, .int .i64 0, .int .i64 1, .int .i64 0, .int .i64 0, .bool false, .slice none 0 0, .slice none 0 0, .slice none 0 0, .slice none 0 0, .int .i64 0, .bool false, .bool false, .bool false, .bool false, .bool false, .bool false, .bool false, .bool false, .bool false, .bool false, .bool false]
  | 1 => #[p, t, .int .i64 1, .int .i64 1, .int .i64 0, .int .i64 0, .bool false, .slice none 0 0, .slice none 0 0, .slice none 0 0, .slice none 0 0, .int .i64 0, .bool false, .bool false, .bool true, .bool false, .bool false, .bool false, .bool false, .bool false, .bool false, .bool false, .bool false]
  | 2 => #[p, t, .int .i64 1, .int .i64 k, .int .i64 0, .int .i64 0, .bool false, .slice none 0 0, .slice none 0 0, .slice none 0 0, .slice none 0 0, .int .i64 0, .bool false, .bool false, .bool true, .bool true, .bool false, .bool false, .bool false, .bool false, .bool false, .bool false, .bool false]
  | _ => #[p, t, .int .i64 1, .int .i64 k, .int .i64 m, .int .i64 0, .bool false, .slice none 0 0, .slice none 0 0, .slice none 0 0, .slice none 0 0, .int .i64 0, .bool false, .bool false, .bool true, .bool true, .bool true, .bool false, .bool false, .bool false, .bool false, .bool false, .bool false]
def cs2 (m : Nat) (p t : Value) : Nat → Array Value
  | 0 => #[p, t, .int .i64 0, .int .i64 1, .int .i64 0, .int .i64 0, .bool false, .slice none 0 0, .slice none 0 0, .slice none 0 0, .slice none 0 0, .int .i64 0, .bool false, .bool false, .bool false, .bool false, .bool false, .bool false, .bool false, .bool false, .bool false, .bool false, .bool false]
  | 1 => #[p, t, .int .i64 1, .int .i64 1, .int .i64 0, .int .i64 0, .bool false, .slice none 0 0, .slice none 0 0, .slice none 0 0, .slice none 0 0, .int .i64 0, .bool false, .bool false, .bool true, .bool false, .bool false, .bool false, .bool false, .bool false, .bool false, .bool false, .bool false]
  | _ => #[p, t, .int .i64 1, .int .i64 1, .int .i64 m, .int .i64 0, .bool false, .slice none 0 0, .slice none 0 0, .slice none 0 0, .slice none 0 0, .int .i64 0, .bool false, .bool false, .bool true, .bool false, .bool true, .bool false, .bool false, .bool false, .bool false, .bool false, .bool false]
theorem rc3 (k m : Nat) : RuleCells (cs3 k m) 3 k m where
  first := fun _ _ => rfl
  last := ⟨.bool true, .bool true, .bool true, .bool false, .bool false, .bool false, .bool false, .bool false, .bool false, fun _ _ => rfl⟩
  set0 := fun _ _ j _ => by unfold cs3; split <;> rfl
  set1 := fun _ _ j _ => by unfold cs3; split <;> rfl
  at0 := fun _ _ j => by unfold cs3; split <;> rfl
  at1 := fun _ _ j => by unfold cs3; split <;> rfl
theorem rc2 (m : Nat) : RuleCells (cs2 m) 2 1 m where
  first := fun _ _ => rfl
  last := ⟨.bool true, .bool false, .bool true, .bool false, .bool false, .bool false, .bool false, .bool false, .bool false, fun _ _ => rfl⟩
  set0 := fun _ _ j _ => by unfold cs2; split <;> rfl
  set1 := fun _ _ j _ => by unfold cs2; split <;> rfl
  at0 := fun _ _ j => by unfold cs2; split <;> rfl
  at1 := fun _ _ j => by unfold cs2; split <;> rfl

def pc3 (k m : Nat) : Nat → ByteArray
  | 0 => ba pF
  | 1 => ba (pI k)
  | _ => ba (pC m)
def lf3 (k m : Nat) : Nat → ByteArray
  | 0 => ba (rule3 k m)
  | 1 => ba (pI k ++ 59 :: pC m)
  | 2 => ba (pC m)
  | _ => ba []
def pc2 (m : Nat) : Nat → ByteArray
  | 0 => ba pF
  | _ => ba (pC m)
def lf2 (m : Nat) : Nat → ByteArray
  | 0 => ba (rule2 m)
  | 1 => ba (pC m)
  | _ => ba []
theorem pI_len {k : Nat} (h : k < 100) : (pI k).length ≤ 11 := by have := dl_len h; unfold pI; simp; omega
theorem pC_len {k : Nat} (h : k < 100) : (pC k).length ≤ 8 := by have := dl_len h; unfold pC; simp; omega
theorem pF_len : pF.length = 10 := rfl
theorem lf3_size {k m : Nat} (hk : k < 100) (hm : m < 100) (j : Nat) : (lf3 k m j).size ≤ 4000 := by
  have h1 := pI_len hk
  have h2 := pC_len hm
  have h3 := pF_len
  unfold lf3; split <;> (rw [ba_size]; simp [rule3]; try omega)
theorem lf2_size {m : Nat} (hm : m < 100) (j : Nat) : (lf2 m j).size ≤ 4000 := by
  have h2 := pC_len hm
  have h3 := pF_len
  unfold lf2; split <;> (rw [ba_size]; simp [rule2]; try omega)
theorem cuts3 {k m : Nat} (hk : k < 100) (hm : m < 100) (j : Nat) (hj : j < 3) : Lib.cut (lf3 k m j).data.toList [59] = ((pc3 k m j).data.toList, (lf3 k m (j + 1)).data.toList, decide (j + 1 < 3)) := by
  match j, hj with
  | 0, _ => simp only [lf3, pc3, ba_data, rule3]; exact cut_at _ _ _ pF_no
  | 1, _ => simp only [lf3, pc3, ba_data]; exact cut_at _ _ _ (pI_no hk)
  | 2, _ => simp only [lf3, pc3, ba_data]; exact cut_no _ _ (pC_no hm)
theorem cuts2 {m : Nat} (hm : m < 100) (j : Nat) (hj : j < 2) : Lib.cut (lf2 m j).data.toList [59] = ((pc2 m j).data.toList, (lf2 m (j + 1)).data.toList, decide (j + 1 < 2)) := by
  match j, hj with
  | 0, _ => simp only [lf2, pc2, ba_data, rule2]; exact cut_at _ _ _ pF_no
  | 1, _ => simp only [lf2, pc2, ba_data]; exact cut_no _ _ (pC_no hm)

theorem parts3 {k m : Nat} (hk1 : 1 ≤ k) (hk : k < 100) (hm1 : 1 ≤ m) (hm : m < 100) (mm : Int) (R : Nat) (hR : 35 ≤ R) (j : Nat) (hj : j < 3) (p t : Value) (wx : World) (hf : FN wx) (hmm : wx.cell? ⟨32, 0, none⟩ = some (.int .i64 mm)) (h : wx.heap[R]? = some (.cells (cs3 k m p t j) 165 (0, 0))) :
    Calls Tryz.prog 102 #[.pointer (some ⟨R, 0, none⟩), .string (pc3 k m j)] wx fun e w' => e = .returned .nilIface ∧ w'.heap[R]? = some (.cells (cs3 k m p t (j + 1)) 165 (0, 0)) ∧ wx.grownBy w' (some R) := by
  match j, hj with
  | 0, _ => exact part_freq R p t _ _ _ _ _ _ _ _ _ _ _ _ _ _ _ _ _ _ _ _ (ba pF) mm wx hf h hmm hR (by rw [ba_size, pF_len]; omega) (by rw [ba_data]; exact cutF)
  | 1, _ => exact part_every R p t _ _ _ _ _ _ _ _ _ _ _ _ _ _ _ _ _ _ _ _ (ba (pI k)) mm k hk1 hk wx h hmm hR (by have := pI_len hk; rw [ba_size]; omega) (by rw [ba_data]; exact cutI hk)
  | 2, _ => exact part_count R p t _ _ _ _ _ _ _ _ _ _ _ _ _ _ _ _ _ _ _ _ (ba (pC m)) mm m hm1 hm wx h hmm hR (by have := pC_len hm; rw [ba_size]; omega) (by rw [ba_data]; exact cutC hm)
theorem parts2 {m : Nat} (hm1 : 1 ≤ m) (hm : m < 100) (mm : Int) (R : Nat) (hR : 35 ≤ R) (j : Nat) (hj : j < 2) (p t : Value) (wx : World) (hf : FN wx) (hmm : wx.cell? ⟨32, 0, none⟩ = some (.int .i64 mm)) (h : wx.heap[R]? = some (.cells (cs2 m p t j) 165 (0, 0))) :
    Calls Tryz.prog 102 #[.pointer (some ⟨R, 0, none⟩), .string (pc2 m j)] wx fun e w' => e = .returned .nilIface ∧ w'.heap[R]? = some (.cells (cs2 m p t (j + 1)) 165 (0, 0)) ∧ wx.grownBy w' (some R) := by
  match j, hj with
  | 0, _ => exact part_freq R p t _ _ _ _ _ _ _ _ _ _ _ _ _ _ _ _ _ _ _ _ (ba pF) mm wx hf h hmm hR (by rw [ba_size, pF_len]; omega) (by rw [ba_data]; exact cutF)
  | 1, _ => exact part_count R p t _ _ _ _ _ _ _ _ _ _ _ _ _ _ _ _ _ _ _ _ (ba (pC m)) mm m hm1 hm wx h hmm hR (by have := pC_len hm; rw [ba_size]; omega) (by rw [ba_data]; exact cutC hm)

theorem rule3_len {k m : Nat} (hk : k < 100) (hm : m < 100) : (rule3 k m).length ≤ 40 := by
  have h1 := pI_len hk
  have h2 := pC_len hm
  have h3 := pF_len
  simp [rule3]; omega
theorem rule2_len {m : Nat} (hm : m < 100) : (rule2 m).length ≤ 40 := by
  have h2 := pC_len hm
  have h3 := pF_len
  simp [rule2]; omega

theorem st7_3 (B g c : Nat) (a0 a1 a2 a3 a4 a5 a7 a8 a11 a12 a13 a14 a15 a16 a17 a18 a19 a20 a21 a22 a23 a24 a25 a26 a27 a28 : Value) (k m : Nat) (r : ByteArray) (mm : Int) (w : World) (hk1 : 1 ≤ k) (hk : k < 100) (hm1 : 1 ≤ m) (hm : m < 100) (hr : r.data.toList = 58 :: rule3 k m)
    (h : w.heap[B]? = some (.cells #[a0, a1, a2, a3, a4, a5, .slice (some ⟨g, 0, none⟩) 1 c, a7, a8, .bool false, .bool false, a11, a12, a13, a14, a15, a16, a17, a18, a19, a20, a21, a22, a23, a24, a25, a26, a27, a28] 65 (0, 0))) (hgB : g ≠ B) (hg : w.cell? ⟨g, 0, none⟩ = some (.string r)) (hf : FN w) (hmm : w.cell? ⟨32, 0, none⟩ = some (.int .i64 mm)) (hB35 : 35 ≤ B) :
    Calls Tryz.prog 59 #[.pointer (some ⟨B, 0, none⟩)] w fun e w' => e = .returned .nilIface ∧ w'.heap[B]? = some (.cells #[a0, a1, a2, a3, a4, a5, .slice (some ⟨g, 0, none⟩) 1 c, a7, a8, .bool false, .bool false, a11, a12, a13, a14, a15, a16, .int .i64 1, .int .i64 k, .int .i64 m, .int .i64 0, .bool false, .slice none 0 0, .slice none 0 0, .slice none 0 0, .slice none 0 0, .int .i64 0, a27, a28] 65 (0, 0)) ∧ w.grownBy w' (some B) := by
  have hz : r.size = (58 :: rule3 k m).length := by rw [← hr]; simp
  have hzl := (lf3_size hk hm) 0
  have hx : r.extract 1 r.size = ba (rule3 k m) := by
    apply ByteArray.ext
    apply Array.toList_inj.1
    rw [data_ext, ba_data, hr]
    simp [hz]
  have hl0 : ((lf3 k m) 0).size = (rule3 k m).length := by show (ba _).size = _; rw [ba_size]
  have hz1 : 1 ≤ r.size := by rw [hz]; simp
  have hz2 : r.size ≤ 4000 := by
    rw [hz]
    have := rule3_len hk hm
    simp
    omega
  refine callsIn_wide.1 (readRule_in B g c 3 a0 a1 a2 a3 a4 a5 a7 a8 a11 a12 a13 a14 a15 a16 a17 a18 a19 a20 a21 a22 a23 a24 a25 a26 a27 a28 r (ba (rule3 k m)) (pc3 k m) (lf3 k m) (cs3 k m) k m mm w h hgB hg hf hmm hB35 ?_ (rc3 k m) (by omega) (by omega) rfl (lf3_size hk hm) (cuts3 hk hm) (parts3 hk1 hk hm1 hm mm))
  intro wx w6 wg
  have := value5 B g 1 c r wx (by omega) (by omega) hz1 hz2 w6 wg
  rw [hx] at this
  exact this

theorem st7_2 (B g c : Nat) (a0 a1 a2 a3 a4 a5 a7 a8 a11 a12 a13 a14 a15 a16 a17 a18 a19 a20 a21 a22 a23 a24 a25 a26 a27 a28 : Value) (m : Nat) (r : ByteArray) (mm : Int) (w : World) (hm1 : 1 ≤ m) (hm : m < 100) (hr : r.data.toList = 58 :: rule2 m)
    (h : w.heap[B]? = some (.cells #[a0, a1, a2, a3, a4, a5, .slice (some ⟨g, 0, none⟩) 1 c, a7, a8, .bool false, .bool false, a11, a12, a13, a14, a15, a16, a17, a18, a19, a20, a21, a22, a23, a24, a25, a26, a27, a28] 65 (0, 0))) (hgB : g ≠ B) (hg : w.cell? ⟨g, 0, none⟩ = some (.string r)) (hf : FN w) (hmm : w.cell? ⟨32, 0, none⟩ = some (.int .i64 mm)) (hB35 : 35 ≤ B) :
    Calls Tryz.prog 59 #[.pointer (some ⟨B, 0, none⟩)] w fun e w' => e = .returned .nilIface ∧ w'.heap[B]? = some (.cells #[a0, a1, a2, a3, a4, a5, .slice (some ⟨g, 0, none⟩) 1 c, a7, a8, .bool false, .bool false, a11, a12, a13, a14, a15, a16, .int .i64 1, .int .i64 1, .int .i64 m, .int .i64 0, .bool false, .slice none 0 0, .slice none 0 0, .slice none 0 0, .slice none 0 0, .int .i64 0, a27, a28] 65 (0, 0)) ∧ w.grownBy w' (some B) := by
  have hz : r.size = (58 :: rule2 m).length := by rw [← hr]; simp
  have hzl := (lf2_size hm) 0
  have hx : r.extract 1 r.size = ba (rule2 m) := by
    apply ByteArray.ext
    apply Array.toList_inj.1
    rw [data_ext, ba_data, hr]
    simp [hz]
  have hl0 : ((lf2 m) 0).size = (rule2 m).length := by show (ba _).size = _; rw [ba_size]
  have hz1 : 1 ≤ r.size := by rw [hz]; simp
  have hz2 : r.size ≤ 4000 := by
    rw [hz]
    have := rule2_len hm
    simp
    omega
  refine callsIn_wide.1 (readRule_in B g c 2 a0 a1 a2 a3 a4 a5 a7 a8 a11 a12 a13 a14 a15 a16 a17 a18 a19 a20 a21 a22 a23 a24 a25 a26 a27 a28 r (ba (rule2 m)) (pc2 m) (lf2 m) (cs2 m) 1 m mm w h hgB hg hf hmm hB35 ?_ (rc2 m) (by omega) (by omega) rfl (lf2_size hm) (cuts2 hm) (parts2 hm1 hm mm))
  intro wx w6 wg
  have := value5 B g 1 c r wx (by omega) (by omega) hz1 hz2 w6 wg
  rw [hx] at this
  exact this
end Go.Proofs.YtmmnbdefkailpaaGreatDoor
