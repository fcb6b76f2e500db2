/- The walk of the law Unfolds, but for looks. -/
import Derived.Test.YtdhobemladckjaaDoorKpC
import Derived.Test.YtdhobemladckjaaDoorSameT
namespace Go.Proofs.YtdhobemladckjaaDoor
open Go.RowKit
set_option linter.unusedVariables false

/-- both Unfolds, told alike -/
theorem unfold_uni (s : ByteArray) (hs : s.size ≤ maxLen) : ∃ (ms : List ByteArray) (E A : Int), ms.length ≤ 4000 ∧
    (∀ wx, Prep4 wx → Calls Tryd.prog 6 #[.string s] wx fun e w' => ∃ v, e = .returned (.tuple #[v, .int .i64 E, .int .i64 A]) ∧ w'.ownsRow wx.heap.size 9 1 v ms.length (ms.map Value.string) ∧ Below wx.heap.size wx w') ∧
    (∀ wx, Calls Tryd.prog 7 #[.string s] wx fun e w' => ∃ v, e = .returned (.tuple #[v, .int .i64 E, .int .i64 A]) ∧ w'.ownsRow wx.heap.size 9 1 v ms.length (ms.map Value.string) ∧ Below wx.heap.size wx w') := by
  cases hb : unBad s.data.toList
  · obtain ⟨ms, hms⟩ := lns_of (un 1 [] s.data.toList).2
    have hl : ms.length ≤ 4000 := by
      have h1 := un_count s.data.toList
      rw [hms] at h1
      have h2 : (lns ms).length = ms.length := by simp
      have h3 : s.data.toList.length ≤ 4000 := by
        unfold unBad at hb; simp only [Bool.or_eq_false_iff, decide_eq_false_iff_not] at hb; omega
      omega
    refine ⟨ms, 0, 0, hl, fun wx hp => ?_, fun wx => ?_⟩
    · refine (Unfold_any s wx hs hp).mono ?_
      rintro e w' ⟨h1, h2⟩
      rcases h2 with ⟨h, _⟩ | ⟨_, v, ms', rfl, hm', hown⟩
      · rw [hb] at h; exact absurd h (by simp)
      · obtain rfl : ms' = ms := lns_inj (hm'.trans hms)
        exact ⟨v, rfl, hown, h1⟩
    · refine (rUnfold_any s wx hs).mono ?_
      rintro e w' ⟨h1, h2⟩
      rcases h2 with ⟨h, _⟩ | ⟨_, v, ms', rfl, hm', hown⟩
      · rw [hb] at h; exact absurd h (by simp)
      · obtain rfl : ms' = ms := lns_inj (hm'.trans hms)
        exact ⟨v, rfl, hown, h1⟩
  · refine ⟨[], 2, unN s.data.toList, by simp, fun wx hp => ?_, fun wx => ?_⟩
    · refine (Unfold_any s wx hs hp).mono ?_
      rintro e w' ⟨h1, h2⟩
      rcases h2 with ⟨_, rfl⟩ | ⟨h, _⟩
      · exact ⟨_, rfl, World.ownsRow_nil _ _ _ _, h1⟩
      · rw [hb] at h; exact absurd h (by simp)
    · refine (rUnfold_any s wx hs).mono ?_
      rintro e w' ⟨h1, h2⟩
      rcases h2 with ⟨_, rfl⟩ | ⟨h, _⟩
      · exact ⟨_, rfl, World.ownsRow_nil _ _ _ _, h1⟩
      · rw [hb] at h; exact absurd h (by simp)

theorem marked_keepL {w w5 w6 : World} {v : Value} {m : ByteArray} {B : Nat} (h : MarkedAt w v m) (hB : w.heap.size ≤ B) (hb : Below w.heap.size w w5) (hk : K9 B w5 w6) : MarkedAt w6 v m := by
  obtain ⟨xa, g, n, cap, rfl, hn, hh⟩ := h
  refine ⟨xa, g, n, cap, rfl, hn, fun h0 => ?_⟩
  obtain ⟨h1, cs, h2, h3⟩ := hh h0
  have hlt := lt_of_heap h2
  exact ⟨h1, cs, hk g cs (by omega) (by rw [hb.block g hlt]; exact h2), h3⟩
theorem own_keepL {w w5 w6 : World} {B0 n B : Nat} {v : Value} {xs : List Value} (h : w.ownsRow B0 9 1 v n xs) (hB : w.heap.size ≤ B) (hb : Below w.heap.size w w5) (hk : K9 B w5 w6) : w6.ownsRow B0 9 1 v n xs := by
  obtain ⟨hl, h⟩ := h
  refine ⟨hl, ?_⟩
  rcases h with h | ⟨g, cap, cur, h1, h2, h3, h4⟩
  · exact .inl h
  · have hlt := lt_of_heap h3
    exact .inr ⟨g, cap, cur, h1, h2, hk g cur (by omega) (by rw [hb.block g hlt]; exact h3), h4⟩
theorem own_keepB {w w5 : World} {B0 e n : Nat} {v : Value} {xs : List Value} (h : w.ownsRow B0 e 1 v n xs) (hb : Below w.heap.size w w5) : w5.ownsRow B0 e 1 v n xs := ownsRow_below h hb
theorem bk_below {K : Nat} {tv : Value} {w w' : World} (h : BkAt K tv w) (hb : Below w.heap.size w w') : BkAt K tv w' := by unfold BkAt; rw [hb.block K (lt_of_heap h)]; exact h
theorem marked_below {w w' : World} {v : Value} {m : ByteArray} (h : MarkedAt w v m) (hb : Below w.heap.size w w') : MarkedAt w' v m := h.keep (fun B => K9.of_below hb B)

theorem unBad_b : unBad (⟨#[97, 13, 10, 32, 98, 13, 10, 99, 13, 10]⟩ : ByteArray).data.toList = false := by decide +kernel
theorem un_b : (un 1 [] (⟨#[97, 13, 10, 32, 98, 13, 10, 99, 13, 10]⟩ : ByteArray).data.toList).2 = lns [⟨#[97, 98]⟩, ⟨#[99]⟩] := by decide +kernel

theorem get_app (vs vs' : List Value) (i : Nat) (h : i < (vs ++ vs').length) : (i < vs.length ∧ ∃ hi, (vs ++ vs')[i] = vs[i]'hi) ∨ (vs.length ≤ i ∧ (vs ++ vs')[i] ∈ vs') := by
  by_cases hi : i < vs.length
  · exact .inl ⟨hi, hi, List.getElem_append_left hi⟩
  · refine .inr ⟨by omega, ?_⟩
    rw [List.getElem_append_right (by omega)]; exact List.getElem_mem _

set_option maxRecDepth 100000 in
set_option maxHeartbeats 4000000 in
theorem unfolds_walk0 (hlooks : ∀ (K B0 N : Nat) (tv : Value) (vs : List Value) (w : World), BkAt K tv w → w.ownsRow B0 22 1 tv N vs → N ≤ 8 → (∀ i (h : i < vs.length), MarkedAt w vs[i] (mk (i / 4))) → Calls Tryd.prog 10 #[.pointer (some ⟨K, 0, none⟩)] w fun e w' => e = .returned (.bool true) ∧ Below w.heap.size w w')
    (s : ByteArray) (w : World) (hp : Prep4 w) (hs : s.size ≤ maxLen) :
    Calls Tryd.prog 3 #[.string s] w fun e w' => e = .returned (.bool true) ∧ Below w.heap.size w w' := by
  have HLK : Hid (∀ (K B0 N : Nat) (tv : Value) (vs : List Value) (w : World), BkAt K tv w → w.ownsRow B0 22 1 tv N vs → N ≤ 8 → (∀ i (h : i < vs.length), MarkedAt w vs[i] (mk (i / 4))) → Calls Tryd.prog 10 #[.pointer (some ⟨K, 0, none⟩)] w fun e w' => e = .returned (.bool true) ∧ Below w.heap.size w w') := hlooks
  clear hlooks
  have h9 := hp.size
  obtain ⟨ms, E, A, hml, cP, cR⟩ := unfold_uni s hs
  have HP : Hid (∀ wx, Prep4 wx → Calls Tryd.prog 6 #[.string s] wx fun e w' => ∃ v, e = .returned (.tuple #[v, .int .i64 E, .int .i64 A]) ∧ w'.ownsRow wx.heap.size 9 1 v ms.length (ms.map Value.string) ∧ Below wx.heap.size wx w') := cP
  have HR : Hid (∀ wx, Calls Tryd.prog 7 #[.string s] wx fun e w' => ∃ v, e = .returned (.tuple #[v, .int .i64 E, .int .i64 A]) ∧ w'.ownsRow wx.heap.size 9 1 v ms.length (ms.map Value.string) ∧ Below wx.heap.size wx w') := cR
  clear cP cR
  have c1 := Unfold_ok ⟨#[97, 13, 10, 32, 98, 13, 10, 99, 13, 10]⟩ [⟨#[97, 98]⟩, ⟨#[99]⟩] w (by show 10 ≤ maxLen; decide) hp unBad_b un_b
  go_enter Tryd.func3, Tryd.ntmps3
  go_wp2_with fail
  refine c1.mono ?_
  rintro e w1 ⟨xa0, g0, cap0, rfl, hsl0, _, hb1⟩
  obtain rfl := hsl0.at' (by simp)
  have hc0 : w1.cell? ⟨g0, 0, none⟩ = some (.string ⟨#[97, 98]⟩) := hsl0.cell 0 (by simp)
  have hc1 : w1.cell? ⟨g0, 1, none⟩ = some (.string ⟨#[99]⟩) := hsl0.cell 1 (by simp)
  clear hsl0
  go_wp2_with fail
  refine (HR.out _).mono ?_
  rintro e w3 ⟨vr, rfl, hr3, hb3⟩
  have hz1 := hb1.size
  have hb2 : Below w.heap.size w (w1.alloc (.cells #[.slice none 0 0, .slice none 0 0, .slice none 0 0, .slice none 0 0] 32)) := hb1.alloc hz1 _
  have hK2 : BkAt w1.heap.size (.slice none 0 0) (w1.alloc (.cells #[.slice none 0 0, .slice none 0 0, .slice none 0 0, .slice none 0 0] 32)) := heap_alloc_new w1 _
  have hK3 := bk_below hK2 hb3
  have hl3 : Below w.heap.size w w3 := hb2.trans (hb3.mono hb2.size)
  have hr3' : w3.ownsRow w.heap.size 9 1 vr ms.length (ms.map Value.string) := by
    obtain ⟨hl, h⟩ := hr3
    refine ⟨hl, ?_⟩
    rcases h with h | ⟨g, cap, cur, h1, h2, h3⟩
    · exact .inl h
    · exact .inr ⟨g, cap, cur, h1, by simp at h2; omega, h3⟩
  clear hr3 hb3 hK2 hb2 c1
  obtain ⟨ra, rcap, hvr⟩ := own_slice hr3'
  subst hvr
  have hml' : (ms.length : Int) ≤ 4000 := by omega
  go_wp2
  go_loopw [10] (fun i wr => ∃ (k : Nat) (tv : Value) (vs : List Value), k ≤ 2 ∧ i = .int .i64 k ∧ BkAt w1.heap.size tv wr ∧ wr.ownsRow w.heap.size 22 1 tv (4 * k) vs ∧ (∀ i (h : i < vs.length), MarkedAt wr vs[i] (mk (i / 4))) ∧ Below w.heap.size w wr ∧ wr.ownsRow w.heap.size 9 1 (.slice ra ms.length rcap) ms.length (ms.map Value.string)) (fun i _ => 2 - (intOf i).toNat)
  case atStart => exact ⟨0, _, [], by omega, rfl, hK3, World.ownsRow_nil _ _ _ _, fun i h => absurd h (by simp), hl3, hr3'⟩
  case round =>
    obtain ⟨k, tv, vs, hk, rfl, hKr, htr, hMr, hlr, hrr⟩ := hrel
    clear hK3 hl3 hr3'
    have hpr : Prep4 wr := hp.below h9 hlr
    have hzr := hlr.size
    have hk' : k = 0 ∨ k = 1 ∨ k = 2 := by omega
    rcases hk' with rfl | rfl | rfl
    · -- first
      have cU := HP.out wr hpr
      go_wp2_with fail
      refine cU.mono ?_
      rintro e w5 ⟨vl, rfl, hl5, hb5⟩
      have hz5 := hb5.size
      have hr5 := own_keepB hrr hb5
      have hK5 := bk_below hKr hb5
      have ht5 := own_keepB htr hb5
      obtain ⟨xl, gl, lcap, hvl, hsll, _⟩ := sl_of_own hl5
      obtain ⟨xr, gr, rcap', hvr, hslr, _⟩ := sl_of_own hr5
      have cS := same_any xl xr gl gr lcap rcap' ms w5 hsll hslr hml
      subst hvl
      rw [← hvr] at cS
      clear hsll hslr hvr
      go_wp2_with fail
      refine cS.mono ?_
      rintro e w6 ⟨rfl, n6, rfl⟩
      have hb56 : Below wr.heap.size wr (w5.drewN n6) := below_drewN hb5 _
      have cK := keep_0 w1.heap.size w.heap.size wr.heap.size tv _ vs ms (w5.drewN n6) (by unfold BkAt; exact hK5) (by exact ht5) (by exact hl5) hml (by omega) hzr (by exact hz5)
      go_wp2_with fail
      refine cK.mono ?_
      rintro e w7 ⟨rfl, tv', vs', hK7, ht7, hm7, hb7, hk7⟩
      have hr7 : w7.ownsRow w.heap.size 9 1 (.slice ra ms.length rcap) ms.length (ms.map Value.string) := own_keepL hrr (Nat.le_refl _) hb56 hk7
      have hM7 : ∀ i (h : i < (vs ++ vs').length), MarkedAt w7 (vs ++ vs')[i] (mk (i / 4)) := by
        intro i h
        rcases get_app vs vs' i h with ⟨h1, h2, h3⟩ | ⟨h1, h2⟩
        · rw [h3]; exact marked_keepL (hMr i h1) (Nat.le_refl _) hb56 hk7
        · have := hm7 _ h2
          have hi : i / 4 = 0 := by have := ht7.1; have := ht5.1; omega
          rw [hi]; exact this
      have hl7 : Below w.heap.size w w7 := hlr.trans ((hb56.mono hzr).trans hb7)
      have cL := HLK.out w1.heap.size w.heap.size 4 tv' (vs ++ vs') w7 hK7 ht7 (by omega) hM7
      go_wp2_with fail
      refine cL.mono ?_
      rintro e w8 ⟨rfl, hb8⟩
      have hl8 : Below w.heap.size w w8 := hl7.trans (hb8.mono hl7.size)
      have hK8 := bk_below hK7 hb8
      have ht8 := own_keepB ht7 hb8
      have hr8 := own_keepB hr7 hb8
      have hM8 : ∀ i (h : i < (vs ++ vs').length), MarkedAt w8 (vs ++ vs')[i] (mk (i / 4)) := fun i h => marked_below (hM7 i h) hb8
      have HFIN : Hid (∃ (k : Nat) (tv : Value) (vs : List Value), k ≤ 2 ∧ Value.int .i64 1 = .int .i64 k ∧ BkAt w1.heap.size tv w8 ∧ w8.ownsRow w.heap.size 22 1 tv (4 * k) vs ∧ (∀ i (h : i < vs.length), MarkedAt w8 vs[i] (mk (i / 4))) ∧ Below w.heap.size w w8 ∧ w8.ownsRow w.heap.size 9 1 (.slice ra ms.length rcap) ms.length (ms.map Value.string)) := ⟨1, tv', vs ++ vs', by omega, rfl, hK8, ht8, hM8, hl8, hr8⟩
      clear hM7 hm7 hMr hK7 ht7 hb7 hk7 hr7 hl7 cL cK cS cU hK8 ht8 hr8 hM8 hl8 hb8 hb5 hb56 hr5 hK5 ht5 hl5 hrr hlr htr hKr
      go_wp2
      go_roundw
      case rel => go_light; exact HFIN.out
      case measure => go_light; simp [intOf]
    · -- second
      have cU := HP.out wr hpr
      go_wp2_with fail
      refine cU.mono ?_
      rintro e w5 ⟨vl, rfl, hl5, hb5⟩
      have hz5 := hb5.size
      have hr5 := own_keepB hrr hb5
      have hK5 := bk_below hKr hb5
      have ht5 := own_keepB htr hb5
      obtain ⟨xl, gl, lcap, hvl, hsll, _⟩ := sl_of_own hl5
      obtain ⟨xr, gr, rcap', hvr, hslr, _⟩ := sl_of_own hr5
      have cS := same_any xl xr gl gr lcap rcap' ms w5 hsll hslr hml
      subst hvl
      rw [← hvr] at cS
      clear hsll hslr hvr
      go_wp2_with fail
      refine cS.mono ?_
      rintro e w6 ⟨rfl, n6, rfl⟩
      have hb56 : Below wr.heap.size wr (w5.drewN n6) := below_drewN hb5 _
      have cK := keep_4 w1.heap.size w.heap.size wr.heap.size tv _ vs ms (w5.drewN n6) (by unfold BkAt; exact hK5) (by exact ht5) (by exact hl5) hml (by omega) hzr (by exact hz5)
      go_wp2_with fail
      refine cK.mono ?_
      rintro e w7 ⟨rfl, tv', vs', hK7, ht7, hm7, hb7, hk7⟩
      have hr7 : w7.ownsRow w.heap.size 9 1 (.slice ra ms.length rcap) ms.length (ms.map Value.string) := own_keepL hrr (Nat.le_refl _) hb56 hk7
      have hM7 : ∀ i (h : i < (vs ++ vs').length), MarkedAt w7 (vs ++ vs')[i] (mk (i / 4)) := by
        intro i h
        rcases get_app vs vs' i h with ⟨h1, h2, h3⟩ | ⟨h1, h2⟩
        · rw [h3]; exact marked_keepL (hMr i h1) (Nat.le_refl _) hb56 hk7
        · have := hm7 _ h2
          have hi : i / 4 = 1 := by have := ht7.1; have := ht5.1; omega
          rw [hi]; exact this
      have hl7 : Below w.heap.size w w7 := hlr.trans ((hb56.mono hzr).trans hb7)
      have cL := HLK.out w1.heap.size w.heap.size 8 tv' (vs ++ vs') w7 hK7 ht7 (by omega) hM7
      go_wp2_with fail
      refine cL.mono ?_
      rintro e w8 ⟨rfl, hb8⟩
      have hl8 : Below w.heap.size w w8 := hl7.trans (hb8.mono hl7.size)
      have hK8 := bk_below hK7 hb8
      have ht8 := own_keepB ht7 hb8
      have hr8 := own_keepB hr7 hb8
      have hM8 : ∀ i (h : i < (vs ++ vs').length), MarkedAt w8 (vs ++ vs')[i] (mk (i / 4)) := fun i h => marked_below (hM7 i h) hb8
      have HFIN : Hid (∃ (k : Nat) (tv : Value) (vs : List Value), k ≤ 2 ∧ Value.int .i64 2 = .int .i64 k ∧ BkAt w1.heap.size tv w8 ∧ w8.ownsRow w.heap.size 22 1 tv (4 * k) vs ∧ (∀ i (h : i < vs.length), MarkedAt w8 vs[i] (mk (i / 4))) ∧ Below w.heap.size w w8 ∧ w8.ownsRow w.heap.size 9 1 (.slice ra ms.length rcap) ms.length (ms.map Value.string)) := ⟨2, tv', vs ++ vs', by omega, rfl, hK8, ht8, hM8, hl8, hr8⟩
      clear hM7 hm7 hMr hK7 ht7 hb7 hk7 hr7 hl7 cL cK cS cU hK8 ht8 hr8 hM8 hl8 hb8 hb5 hb56 hr5 hK5 ht5 hl5 hrr hlr htr hKr
      go_wp2
      go_roundw
      case rel => go_light; exact HFIN.out
      case measure => go_light; simp [intOf]
    · clear hKr htr hMr hrr
      go_wp2
      go_ret
      exact ⟨rfl, hlr⟩
end Go.Proofs.YtdhobemladckjaaDoor
