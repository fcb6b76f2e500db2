/- What Unfold hands back, as a slice of texts; more. -/
import Derived.Test.YtdhobemladckjaaDoorUnD
import Derived.Test.YtdhobemladckjaaDoorTxx
namespace Go.Proofs.YtdhobemladckjaaDoor
open Go.RowKit
set_option linter.unusedVariables false

/-- texts in memory, as a slice -/
structure Sl (w : World) (xa : Option Addr) (g : Nat) (ms : List ByteArray) : Prop where
  at' : 0 < ms.length → xa = some ⟨g, 0, none⟩
  cell : ∀ j (h : j < ms.length), w.cell? ⟨g, 0 + j, none⟩ = some (.string ms[j])
theorem Sl.below {w w' : World} {xa : Option Addr} {g : Nat} {ms : List ByteArray} (h : Sl w xa g ms) (hb : Below w.heap.size w w') : Sl w' xa g ms where
  at' := h.at'
  cell := fun j hj => by rw [hb.cell (p := ⟨g, 0 + j, none⟩) (World.block_lt_of_cell? _ _ (h.cell j hj))]; exact h.cell j hj

theorem sl_of_own {w : World} {B : Nat} {v : Value} {ms : List ByteArray} (h : w.ownsRow B 9 1 v ms.length (ms.map Value.string)) :
    ∃ xa g cap, v = .slice xa ms.length cap ∧ Sl w xa g ms ∧ ms.length ≤ maxLen := by
  have hc := h
  obtain ⟨hl, h⟩ := h
  rcases h with ⟨rfl, h0⟩ | ⟨g, cap, cur, rfl, h2, h3, h4, h5, h6, h7⟩
  · exact ⟨none, 0, 0, by rw [h0], ⟨fun h => absurd h (by omega), fun j hj => absurd hj (by omega)⟩, by rw [h0]; unfold maxLen; omega⟩
  · exact ⟨_, g, cap, rfl, ⟨fun _ => rfl, fun j hj => by rw [Nat.zero_add]; exact own_cells hc j _ (by simp [hj])⟩, by omega⟩

theorem lns_inj : ∀ {a b : List ByteArray}, lns a = lns b → a = b
  | [], [], _ => rfl
  | [], _ :: _, h => by simp [lns] at h
  | _ :: _, [], h => by simp [lns] at h
  | x :: xs, y :: ys, h => by
    simp only [lns, List.map_cons, List.cons.injEq] at h
    have e : x = y := by
      have h1 := h.1
      cases x; cases y
      simp only [ByteArray.mk.injEq]
      exact Array.toList_inj.1 h1
    rw [e, lns_inj h.2]

theorem Unfold_bad (s : ByteArray) (w : World) (hs : s.size ≤ maxLen) (hp : Prep4 w) (hb : unBad s.data.toList = true) :
    Calls Tryd.prog 6 #[.string s] w fun e w' => e = .returned (.tuple #[.slice none 0 0, .int .i64 2, .int .i64 (unN s.data.toList)]) ∧ Below w.heap.size w w' := by
  refine (Unfold_any s w hs hp).mono ?_
  rintro e w' ⟨h1, h2⟩
  rcases h2 with ⟨_, h⟩ | ⟨h, _⟩
  · exact ⟨h, h1⟩
  · rw [hb] at h; exact absurd h (by simp)
theorem Unfold_ok (s : ByteArray) (ms : List ByteArray) (w : World) (hs : s.size ≤ maxLen) (hp : Prep4 w) (hb : unBad s.data.toList = false) (hm : (un 1 [] s.data.toList).2 = lns ms) :
    Calls Tryd.prog 6 #[.string s] w fun e w' => ∃ xa g cap, e = .returned (.tuple #[.slice xa ms.length cap, .int .i64 0, .int .i64 0]) ∧ Sl w' xa g ms ∧ ms.length ≤ maxLen ∧ Below w.heap.size w w' := by
  refine (Unfold_any s w hs hp).mono ?_
  rintro e w' ⟨h1, h2⟩
  rcases h2 with ⟨h, _⟩ | ⟨_, v, ms', rfl, hm', hown⟩
  · rw [hb] at h; exact absurd h (by simp)
  · obtain rfl : ms' = ms := lns_inj (hm'.trans hm)
    obtain ⟨xa, g, cap, rfl, hsl, hl⟩ := sl_of_own hown
    exact ⟨xa, g, cap, rfl, hsl, hl, h1⟩
/-- the texts of lists of bytes -/
theorem lns_of (ls : List (List UInt8)) : ∃ ms : List ByteArray, ls = lns ms := ⟨ls.map (fun l => ⟨l.toArray⟩), by simp [lns, Function.comp_def]⟩

theorem FoldSl (xa : Option Addr) (g cap : Nat) (ms : List ByteArray) (w : World) (hp : Prep w) (h : Sl w xa g ms) (hn : ms.length ≤ maxLen) (hz : ∀ j (h : j < ms.length), (ms[j]).size ≤ maxLen) :
    Calls Tryd.prog 11 #[.slice xa ms.length cap] w fun e w' => e = .returned (.tuple #[.string ⟨(foT (lns ms)).toArray⟩, .int .i64 (foE (lns ms))]) ∧ Below w.heap.size w w' :=
  Fold_any xa g 0 cap ms w hp h.at' hn hz h.cell

theorem mor_snoc (ls : List (List UInt8)) (k : Nat) (h : k < ls.length) : bnd (ls.take (k + 1)) = bnd (ls.take k) + (ls[k].length + 2 + 3 * (ls[k].length / 70)) := by
  rw [List.take_succ_eq_append_getElem h, bnd_append]; simp [bnd]

theorem goes_eq (s : ByteArray) (h0 : 0 < s.size) : goes s.data.toList = (decide ((s[0].toNat : Int) = 32) || decide ((s[0].toNat : Int) = 9)) := by
  have h1 := getD_data s 0 h0
  cases hl : s.data.toList with
  | nil => exact absurd hl (data_ne s h0)
  | cons a t =>
    rw [hl] at h1
    have : a = s[0] := h1
    subst this
    have e1 : decide (s[0].toNat = 32) = decide ((s[0].toNat : Int) = 32) := by congr 1; apply propext; omega
    have e2 : decide (s[0].toNat = 9) = decide ((s[0].toNat : Int) = 9) := by congr 1; apply propext; omega
    show (decide (s[0].toNat = 32) || decide (s[0].toNat = 9)) = _
    rw [e1, e2]

set_option maxRecDepth 100000 in
set_option maxHeartbeats 2000000 in
theorem more_any (xa : Option Addr) (g cap : Nat) (ms : List ByteArray) (s : ByteArray) (w : World) (h : Sl w xa g ms) (hn : ms.length ≤ 4000) (ht : tot (lns ms) ≤ 4000) :
    Calls Tryd.prog 13 #[.slice xa ms.length cap, .string s] w fun e w' => e = .returned (.bool (mor (lns ms))) ∧ ∃ n, w' = w.drewN n := by
  have hn' : (ms.length : Int) ≤ 4000 := by omega
  go_enter Tryd.func13, Tryd.ntmps13
  go_wp2
  go_loopw [5, 6] (fun n i wr => ∃ k c : Nat, k ≤ ms.length ∧ i = .int .i64 k ∧ n = .int .i64 (bnd ((lns ms).take k)) ∧ ((lns ms).take k).any goes = false ∧ wr = w.drewN c) (fun _ i _ => ms.length - (intOf i).toNat)
  case atStart => exact ⟨0, 0, Nat.zero_le _, rfl, rfl, rfl, rfl⟩
  case round =>
    obtain ⟨k, c, hk, rfl, rfl, hany, rfl⟩ := hrel
    have hbl := bnd_le ((lns ms).take k)
    have htt := tot_take (lns ms) k
    have hlk : ((lns ms).take k).length ≤ 4000 := by rw [List.length_take]; simp; omega
    by_cases hlt : k < ms.length
    · obtain rfl := h.at' (by omega)
      have hcell := h.cell k hlt
      rw [Nat.zero_add] at hcell
      have hlt' : (k : Int) < ms.length := by omega
      have hsn := mor_snoc (lns ms) k (by simpa using hlt)
      have hlk2 : (lns ms)[k]'(by simpa using hlt) = (ms[k]).data.toList := by simp
      have hmem : (ms[k]).data.toList.length ≤ tot (lns ms) := tot_mem _ _ (by simp only [lns]; exact List.mem_map.2 ⟨ms[k], List.getElem_mem hlt, rfl⟩)
      rw [hlk2, len_data] at hsn
      rw [len_data] at hmem
      have hg9 : ((lns ms).take (k + 1)).any goes = (((lns ms).take k).any goes || goes (ms[k]).data.toList) := by
        rw [List.take_succ_eq_append_getElem (by simpa using hlt), List.any_append, hlk2]; simp
      rw [hany, Bool.false_or] at hg9
      have hgy : goes (ms[k]).data.toList = true → mor (lns ms) = true := by
        intro hh
        unfold mor
        have : (lns ms).any goes = true := List.any_eq_true.2 ⟨_, List.mem_map.2 ⟨ms[k], List.getElem_mem hlt, rfl⟩, hh⟩
        rw [this]; rfl
      generalize ms[k] = S at *
      have HSN : Hid (bnd ((lns ms).take (k + 1)) = bnd ((lns ms).take k) + (S.size + 2 + 3 * (S.size / 70))) := hsn
      clear hsn hlk2
      have hS4 : (S.size : Int) ≤ 4000 := by omega
      generalize hBK : bnd ((lns ms).take k) = BK at *
      have hB4 : (BK : Int) ≤ 16000 := by omega
      clear hBK hbl htt hlk hmem
      by_cases h0 : 0 < S.size
      · have hne : S.toList.isEmpty = false := by rw [Lib.toList_data]; exact List.isEmpty_eq_false_iff.2 (data_ne S h0)
        have hge := goes_eq S h0
        by_cases e1 : (S[0].toNat : Int) = 32
        · have HY : Hid (mor (lns ms) = true) := hgy (by rw [hge, decide_eq_true e1]; rfl)
          have b1 : ((S[0].toNat : Int) == 32) = true := beq_iff_eq.2 e1
          clear hgy hge hg9 hany e1
          go_wp2
          go_ret
          exact ⟨ret_bool (by rw [HY.out]), c, rfl⟩
        · have b1 : ((S[0].toNat : Int) == 32) = false := beq_eq_false_iff_ne.2 e1
          by_cases e2 : (S[0].toNat : Int) = 9
          · have HY : Hid (mor (lns ms) = true) := hgy (by rw [hge, decide_eq_true e2]; simp)
            have b2 : ((S[0].toNat : Int) == 9) = true := beq_iff_eq.2 e2
            clear hgy hge hg9 hany e1 e2
            go_wp2
            go_ret
            exact ⟨ret_bool (by rw [HY.out]), c, rfl⟩
          · have b2 : ((S[0].toNat : Int) == 9) = false := beq_eq_false_iff_ne.2 e2
            have HG : Hid (((lns ms).take (k + 1)).any goes = false) := by show _ = _; rw [hg9, hge, decide_eq_false e1, decide_eq_false e2]; rfl
            clear hgy hge hg9 hany e1 e2
            go_wp2
            go_quiet (fail)
            go_wp2
            go_roundw
            case rel =>
              go_light
              refine ⟨k + 1, _, by omega, by go_num, ?_, HG.out, rfl⟩
              rw [HSN.out]; congr 1; omega
            case measure => go_light; simp [intOf]; omega
      · have hne : S.toList.isEmpty = true := by
          rw [Lib.toList_data, List.length_eq_zero_iff.1 (show S.data.toList.length = 0 by rw [len_data]; omega)]; rfl
        have HG : Hid (((lns ms).take (k + 1)).any goes = false) := by
          show _ = _
          rw [hg9, List.length_eq_zero_iff.1 (show S.data.toList.length = 0 by rw [len_data]; omega)]; rfl
        clear hgy hg9 hany
        go_wp2
        go_quiet (fail)
        go_wp2
        go_roundw
        case rel =>
          go_light
          refine ⟨k + 1, _, by omega, by go_num, ?_, HG.out, rfl⟩
          rw [HSN.out]; congr 1; omega
        case measure => go_light; simp [intOf]; omega
    · have hke : (lns ms).take k = lns ms := List.take_of_length_le (by simp; omega)
      have HM : Hid (mor (lns ms) = decide (3900 < (bnd (lns ms) : Int))) := by
        show _ = _
        rw [hke] at hany
        unfold mor; rw [hany, Bool.false_or]
        congr 1; apply propext; omega
      rw [hke] at *
      clear hany hke
      go_wp2
      go_ret
      exact ⟨ret_bool (by rw [HM.out]), c, rfl⟩
end Go.Proofs.YtdhobemladckjaaDoor
