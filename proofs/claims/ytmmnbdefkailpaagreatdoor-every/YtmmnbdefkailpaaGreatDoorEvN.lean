/- Packages calendar and recur: a daily series. -/
import Derived.Test.YtmmnbdefkailpaaGreatDoorEvH
import Derived.Deep.CutRange
import Derived.Test.YtmmnbdefkailpaaGreatDoorEvI
import Derived.Deep.LoopGhost
import Derived.Maps.AppendAt
import Derived.Deep.AppendLies

namespace Go.Proofs.YtmmnbdefkailpaaGreatDoor
open Go.RowKit Cal
set_option linter.unusedVariables false

theorem split_any (n c : Int) (w : World) (h1 : -200000 ≤ n) (h2 : n ≤ 200000) (h3 : 0 ≤ c) (h4 : c < 86400) :
    Calls Tryz.prog 34 #[.int .i64 (n * 86400 + c)] w fun e w' => e = .returned (.tuple #[.int .i64 n, .int .i64 c]) ∧ w' = w := by
  by_cases hn : 0 ≤ n
  · have e1 : (n * 86400 + c) / 86400 = n := by omega
    have e2 : (n * 86400 + c) % 86400 = c := by omega
    have p : 0 ≤ n * 86400 + c := by omega
    have q : n * 86400 + c ≤ 20000000000 := by omega
    generalize n * 86400 + c = T at *
    go_enter Tryz.func34, Tryz.ntmps34
    go_wp2
    go_ret2
    exact ⟨ret_int2 e1 e2, rfl⟩
  · by_cases hc : c = 0
    · subst hc
      have e1 : (n * 86400 + 0).tdiv 86400 = n := by rw [Int.add_zero]; exact Int.mul_tdiv_cancel n (by decide)
      have e2 : (n * 86400 + 0).tmod 86400 = 0 := by rw [Int.add_zero]; exact Int.mul_tmod_left n 86400
      have p : n * 86400 + 0 < 0 := by omega
      have q : -20000000000 ≤ n * 86400 + 0 := by omega
      generalize n * 86400 + 0 = T at *
      go_enter Tryz.func34, Tryz.ntmps34
      go_wp2
      go_ret2
      exact ⟨rfl, rfl⟩
    · have e0 : n * 86400 + c = -((-(n * 86400 + c))) := by omega
      have e1 : (n * 86400 + c).tdiv 86400 = n + 1 := by
        rw [e0, Int.neg_tdiv, Int.tdiv_eq_ediv_of_nonneg (by omega)]; omega
      have e2 : (n * 86400 + c).tmod 86400 = c - 86400 := by
        rw [e0, Int.neg_tmod, Int.tmod_eq_emod_of_nonneg (by omega)]; omega
      have p : n * 86400 + c < 0 := by omega
      have q : -20000000000 ≤ n * 86400 + c := by omega
      clear e0
      generalize n * 86400 + c = T at *
      go_enter Tryz.func34, Tryz.ntmps34
      go_wp2
      go_ret2
      exact ⟨by congr 4 <;> omega, rfl⟩

/-- the block of a daily series -/
abbrev serA (ev ct n y m d wd c : Value) : Array Value := #[.int .i64 1, ev, ct, .int .i64 0, .bool false, .slice none 0 0, .slice none 0 0, .slice none 0 0, .slice none 0 0, .int .i64 0, n, y, m, d, wd, c]

set_option maxRecDepth 100000 in
set_option maxHeartbeats 2000000 in
theorem period_daily (Q : Nat) (ev ct y m d wd c : Value) (n bh : Int) (w : World) (h : w.heap[Q]? = some (.cells (serA ev ct (.int .i64 n) y m d wd c) 206 (0, 0))) (h1 : -25567 ≤ n + bh) (h2 : n + bh ≤ 84005) (h3 : -25567 ≤ n) (h4 : n ≤ 84005) :
    Calls Tryz.prog 150 #[.pointer (some ⟨Q, 0, none⟩), .int .i64 bh] w fun e w' => e = .returned (.tuple #[.int .i64 (n + bh), .int .i64 (n + bh)]) ∧ w' = w := by
  have c0 := hc h 0 rfl
  have c10 := hc h 10 rfl
  clear h
  go_enter Tryz.func150, Tryz.ntmps150
  go_wp2_with (first | (go_at_call 19; refine (first_any _).mono ?_; rintro e w ⟨rfl, rfl⟩) | (go_at_call 20; refine (last_any _).mono ?_; rintro e w ⟨rfl, rfl⟩))
  go_ret2
  exact ⟨ret_int2 (by omega) (by omega), rfl⟩

set_option maxRecDepth 100000 in
set_option maxHeartbeats 2000000 in
theorem isLikeStart_daily (Q : Nat) (ev ct n y m d wd c d0 d1 d2 d3 d4 : Value) (w : World) (h : w.heap[Q]? = some (.cells (serA ev ct n y m d wd c) 206 (0, 0))) :
    Calls Tryz.prog 235 #[.pointer (some ⟨Q, 0, none⟩), .agg #[d0, d1, d2, d3, d4]] w fun e w' => e = .returned (.bool true) ∧ Below w.heap.size w w' := by
  have c0 := hc h 0 rfl
  have hQ := hlt h
  clear h
  go_enter Tryz.func235, Tryz.ntmps235
  go_wp2
  go_ret
  exact ⟨rfl, (Below.refl _ _).alloc (Nat.le_refl _) _⟩

set_option maxRecDepth 100000 in
set_option maxHeartbeats 2000000 in
theorem has_daily (Q : Nat) (ev ct n y m d wd c : Value) (d0 d1 d2 d3 d4 : Int) (w : World) (h : w.heap[Q]? = some (.cells (serA ev ct n y m d wd c) 206 (0, 0))) :
    Calls Tryz.prog 201 #[.pointer (some ⟨Q, 0, none⟩), .agg #[.int .i64 d0, .int .i64 d1, .int .i64 d2, .int .i64 d3, .int .i64 d4]] w fun e w' => e = .returned (.bool true) ∧ Below w.heap.size w w' := by
  have c5 := hc h 5 rfl
  have c6 := hc h 6 rfl
  have c7 := hc h 7 rfl
  have hQ := hlt h
  have cL : Hid (∀ wx, Below w.heap.size w wx → Calls Tryz.prog 235 #[.pointer (some ⟨Q, 0, none⟩), .agg #[.int .i64 d0, .int .i64 d1, .int .i64 d2, .int .i64 d3, .int .i64 d4]] wx fun e w' => e = .returned (.bool true) ∧ Below wx.heap.size wx w') := fun wx hb => isLikeStart_daily Q ev ct n y m d wd c _ _ _ _ _ wx (hbel h hb)
  clear h
  have k5 : (w.alloc (.cells #[.int .i64 d0, .int .i64 d1, .int .i64 d2, .int .i64 d3, .int .i64 d4] 40)).cell? ⟨Q, 5, none⟩ = some (.slice none 0 0) := by rw [World.cell?_alloc_lt _ _ _ hQ]; exact c5
  have k6 : (w.alloc (.cells #[.int .i64 d0, .int .i64 d1, .int .i64 d2, .int .i64 d3, .int .i64 d4] 40)).cell? ⟨Q, 6, none⟩ = some (.slice none 0 0) := by rw [World.cell?_alloc_lt _ _ _ hQ]; exact c6
  have k7 : (w.alloc (.cells #[.int .i64 d0, .int .i64 d1, .int .i64 d2, .int .i64 d3, .int .i64 d4] 40)).cell? ⟨Q, 7, none⟩ = some (.slice none 0 0) := by rw [World.cell?_alloc_lt _ _ _ hQ]; exact c7
  go_enter Tryz.func201, Tryz.ntmps201
  go_wp2
  go_quiet (fail)
  go_wp2_with (go_at_call 235; refine (cL.out _ (bel_drewN ((Below.refl _ _).alloc (Nat.le_refl _) _) _)).mono ?_; rintro e w3 ⟨rfl, hb3⟩)
  go_ret
  exact ⟨rfl, (bel_drewN ((Below.refl _ _).alloc (Nat.le_refl _) _) _).trans (hb3.mono (by simp))⟩
end Go.Proofs.YtmmnbdefkailpaaGreatDoor

/- Packages calendar and recur: the set of one day. -/
namespace Go.Proofs.YtmmnbdefkailpaaGreatDoor
open Go.RowKit Cal
set_option linter.unusedVariables false

theorem cset_o (w : World) (b o b' o' : Nat) (v : Value) (h : ¬ (b = b' ∧ o = o')) : (w.setCell ⟨b, o, none⟩ v).cell? ⟨b', o', none⟩ = w.cell? ⟨b', o', none⟩ := World.cell?_setCell_other _ _ _ _ (by intro e; injection e with e1 e2; exact h ⟨e1, e2⟩)
theorem intInfo : (Tryz.prog.info? 3).map (fun i => (i.zero, i.size, i.bytes)) = some (some (.int .i64 0), 1, 8) := by kernel_rfl
theorem dim_pos (y m : Int) : 0 ≤ dim y m ∧ dim y m ≤ 100 := by have := dim_bd y m; omega

set_option maxRecDepth 100000 in
set_option maxHeartbeats 4000000 in
theorem next_any (n y m d wd : Int) (w : World) (ht : Tab w) (h1 : -25567 ≤ n) (h2 : n ≤ 84005) (y1 : 1800 ≤ y) (y2 : y ≤ 2300) (m1 : 1 ≤ m) (m2 : m ≤ 12) (d1 : 0 ≤ d) (d2 : d ≤ 400) (w1 : 0 ≤ wd) (w2 : wd ≤ 6) :
    Calls Tryz.prog 200 #[.agg #[.int .i64 n, .int .i64 y, .int .i64 m, .int .i64 d, .int .i64 wd]] w fun e w' => (∃ a b c f : Int, e = .returned (.agg #[.int .i64 (n + 1), .int .i64 a, .int .i64 b, .int .i64 c, .int .i64 f])) ∧ Below w.heap.size w w' := by
  have HT : Hid (∀ wx, Below w.heap.size w wx → Tab wx) := fun wx hb => ht.below hb
  have hm : Hid (∀ wx, Tab wx → Calls Tryz.prog 23 #[.int .i64 y, .int .i64 m] wx fun e w' => e = .returned (.int .i64 (dim y m)) ∧ w' = wx) := fun wx hx => monthLength_any y m wx hx (by omega) (by omega) (by omega) (by omega)
  have hd := dim_pos y m
  generalize dim y m = D at *
  clear ht
  go_enter Tryz.func200, Tryz.ntmps200
  go_wp2
  have HT2 : Hid (Tab ((w.alloc (.cells #[.int .i64 (n + 1), .int .i64 y, .int .i64 m, .int .i64 (d + 1), .int .i64 ((wd + 1) % 7)] 40)).alloc (.cells #[.int .i64 0, .int .i64 0, .int .i64 0, .int .i64 0, .int .i64 0] 40))) := HT.out _ (((Below.refl _ _).alloc (Nat.le_refl _) _).alloc (by simp) _)
  go_quiet ((go_at_call 23; exact Calls.quiet_of_same (hm.out _ HT2.out)))
  go_wp2
  · refine bodyPost_ret (v := .agg #[.int .i64 (n + 1), .int .i64 (y + 1), .int .i64 1, .int .i64 1, .int .i64 ((wd + 1) % 7)]) (by simp [results, Tryz.results200, go_sem]) rfl ⟨⟨_, _, _, _, rfl⟩, ?_⟩
    repeat (refine Below.setCell ?_ (by first | exact Nat.le_refl _ | (show w.heap.size ≤ w.heap.size + 1; omega)) _)
    exact bel_drewN (((Below.refl _ _).alloc (Nat.le_refl _) _).alloc (by simp) _) _
  · refine bodyPost_ret (v := .agg #[.int .i64 (n + 1), .int .i64 y, .int .i64 (m + 1), .int .i64 1, .int .i64 ((wd + 1) % 7)]) (by simp [results, Tryz.results200, go_sem]) rfl ⟨⟨_, _, _, _, rfl⟩, ?_⟩
    repeat (refine Below.setCell ?_ (by first | exact Nat.le_refl _ | (show w.heap.size ≤ w.heap.size + 1; omega)) _)
    exact bel_drewN (((Below.refl _ _).alloc (Nat.le_refl _) _).alloc (by simp) _) _
  · refine bodyPost_ret (v := .agg #[.int .i64 (n + 1), .int .i64 y, .int .i64 m, .int .i64 (d + 1), .int .i64 ((wd + 1) % 7)]) (by simp [results, Tryz.results200, go_sem]) rfl ⟨⟨_, _, _, _, rfl⟩, ?_⟩
    repeat (refine Below.setCell ?_ (by first | exact Nat.le_refl _ | (show w.heap.size ≤ w.heap.size + 1; omega)) _)
    exact bel_drewN (((Below.refl _ _).alloc (Nat.le_refl _) _).alloc (by simp) _) _

set_option maxRecDepth 100000 in
set_option maxHeartbeats 4000000 in
theorem set_daily (Q : Nat) (ev ct sn y m d wd c : Value) (n : Int) (w : World) (ht : Tab w) (h : w.heap[Q]? = some (.cells (serA ev ct sn y m d wd c) 206 (0, 0))) (h1 : -25567 ≤ n) (h2 : n ≤ 84005) :
    Calls Tryz.prog 151 #[.pointer (some ⟨Q, 0, none⟩), .int .i64 n, .int .i64 n] w fun e w' => ∃ g cap, e = .returned (.slice (some ⟨g, 0, none⟩) 1 cap) ∧ w'.cell? ⟨g, 0, none⟩ = some (.int .i64 n) ∧ w.heap.size ≤ g ∧ Below w.heap.size w w' := by
  obtain ⟨Y, M, D, hA, y1, y2, m1, m2, d1, d2⟩ : ∃ Y M D : Int, (Calls Tryz.prog 11 #[.int .i64 n] w fun e w' => e = .returned (.agg #[.int .i64 n, .int .i64 Y, .int .i64 M, .int .i64 D, .int .i64 ((n + 3) % 7)]) ∧ Below w.heap.size w w') ∧ 1800 ≤ Y ∧ Y ≤ 2300 ∧ 1 ≤ M ∧ M ≤ 12 ∧ 0 ≤ D ∧ D ≤ 400 := by
    have hA := at_any n w ht h1 h2
    rw [Int.sub_zero] at hA
    refine ⟨_, _, _, hA, ?_⟩
    obtain ⟨a1, a2, a3, a4⟩ := yr_is (n := n) (by omega) (by omega)
    have hs := ny_succ (yr n)
    have hl := lp_01 (yr n)
    obtain ⟨b1, b2, b3, b4⟩ := mo_is (y := yr n) (r := n - ny (yr n)) (by omega) (by omega)
    have hcb := cum_bd (yr n) (m := mo (yr n) (n - ny (yr n))) (by omega) (by omega)
    refine ⟨by omega, by omega, b3, b4, by omega, by omega⟩
  have w1 : 0 ≤ (n + 3) % 7 := by omega
  have w2 : (n + 3) % 7 ≤ 6 := by omega
  generalize (n + 3) % 7 = wd0 at *
  have HT : Hid (∀ wx, Below w.heap.size w wx → Tab wx) := fun wx hb => ht.below hb
  have hQ := hlt h
  have HH : Hid (w.heap[Q]? = some (.cells (serA ev ct sn y m d wd c) 206 (0, 0))) := h
  have HD : Hid (∀ wx, Below w.heap.size w wx → Calls Tryz.prog 201 #[.pointer (some ⟨Q, 0, none⟩), .agg #[.int .i64 n, .int .i64 Y, .int .i64 M, .int .i64 D, .int .i64 wd0]] wx fun e w' => e = .returned (.bool true) ∧ Below wx.heap.size wx w') := fun wx hb => has_daily Q ev ct sn y m d wd c _ _ _ _ _ wx (hbel h hb)
  obtain ⟨i0, hi, hz0, hz1, hz2⟩ := info_parts intInfo
  clear ht h
  go_enter Tryz.func151, Tryz.ntmps151
  go_wp2_with (go_at_call 11; refine hA.mono ?_; clear hA; rintro e wa ⟨rfl, hb1⟩)
  go_loopg [7, 8] 2 (fun gk sl dp wr => (gk = 2 ∧ sl = .slice none 0 0 ∧ ∃ P : Nat, dp = .pointer (some ⟨P, 0, none⟩) ∧ wr.heap[P]? = some (.cells #[.int .i64 n, .int .i64 Y, .int .i64 M, .int .i64 D, .int .i64 wd0] 40 (0, 0)) ∧ Below w.heap.size w wr ∧ w.heap.size ≤ P) ∨ (gk = 1 ∧ ∃ g cap P : Nat, ∃ a b e f : Int, sl = .slice (some ⟨g, 0, none⟩) 1 cap ∧ wr.cell? ⟨g, 0, none⟩ = some (.int .i64 n) ∧ w.heap.size ≤ g ∧ dp = .pointer (some ⟨P, 0, none⟩) ∧ wr.heap[P]? = some (.cells #[.int .i64 (n + 1), .int .i64 a, .int .i64 b, .int .i64 e, .int .i64 f] 40 (0, 0)) ∧ Below w.heap.size w wr))
  case atStart => exact .inl ⟨rfl, rfl, wa.heap.size, rfl, heap_alloc_new wa _, hb1.alloc hb1.size _, hb1.size⟩
  case round =>
    rcases hrel with ⟨rfl, rfl, P, rfl, hP, hbr, hPw⟩ | ⟨rfl, g, cap, P, a, b, e, f, rfl, hg, hgw, rfl, hP, hbr⟩
    · have p0 := hc hP 0 rfl
      have p1 := hc hP 1 rfl
      have p2 := hc hP 2 rfl
      have p3 := hc hP 3 rfl
      have p4 := hc hP 4 rfl
      have hPl := hlt hP
      have cH := HD.out wr hbr
      go_wp2_with (first | (go_at_call 201; refine cH.mono ?_; clear cH; rintro e w3 ⟨rfl, hb3⟩; have hP3 := hbel hP hb3; have q0 := hc hP3 0 rfl) | (at_builtin; refine wpList_append_lies _ rfl _ _ _ rfl 0 3 i0 (.int .i64 0) 1 8 Tryz.underlying27 hi hz0 hz1 hz2 rfl (by decide) _ 0 [] rfl (World.ownsRow_nil _ _ _ _) ⟨_, 0, none⟩ 1 1 [.int .i64 n] rfl rfl (World.news_of_block (heap_alloc_new _ _)) (by intro u hu; simp at hu; subst hu; rfl) (by omega) (by decide) (by decide) (by omega) _ rfl ?_; intro gg cc w5 hown hgrow hat hlt5; have g35 : w3.grownBy w5 none := gb_trans (World.grownBy_alloc _ _ _) hgrow; have hP5 := (g35.block P (hlt hP3) (by simp)).trans hP3; have s0 := hc hP5 0 rfl; have s1 := hc hP5 1 rfl; have s2 := hc hP5 2 rfl; have s3 := hc hP5 3 rfl; have s4 := hc hP5 4 rfl; have hP5l := hlt hP5; have hbw5 : Below w.heap.size w w5 := hbr.trans ((hb3.mono hbr.size).trans ⟨g35.os, g35.tape, g35.output, g35.size, fun k hk => g35.block k (Nat.lt_of_lt_of_le hk (Nat.le_trans hbr.size hb3.size)) (by simp)⟩)) | (go_at_call 200; refine (next_any n Y M D wd0 _ (HT.out _ (hbw5.alloc hbw5.size _)) h1 h2 y1 y2 m1 m2 d1 d2 w1 w2).mono ?_; rintro e w7 ⟨⟨xa, xb, xc, xd, rfl⟩, hb7⟩; obtain ⟨hc7, hf7⟩ := bcell hb7))
      have hgl : gg < w5.heap.size := hlt5
      have hgw : w.heap.size ≤ gg := by
        rcases hat with hat | hat
        · have hat' : (Value.slice none 0 0).ownBlock = some gg := hat
          simp [Value.ownBlock] at hat'
        · have a1 := hbr.size
          have a2 := hb3.size
          rw [hat]; simp; omega
      have hcg := own_cells hown 0 (.int .i64 n) rfl
      have hcg7 : w7.cell? ⟨gg, 0, none⟩ = some (.int .i64 n) := (hc7 gg 0 (by simp; omega)).trans ((World.cell?_alloc_lt _ _ ⟨gg, 0, none⟩ hgl).trans hcg)
      have h7 : w7.heap[w5.heap.size]? = some (.cells #[.int .i64 n, .int .i64 Y, .int .i64 M, .int .i64 D, .int .i64 wd0] 40 (0, 0)) := (hb7.block _ (by simp)).trans (heap_alloc_new w5 _)
      have hb7w : Below w.heap.size w w7 := (hbw5.alloc hbw5.size _).trans (hb7.mono (by have := hbw5.size; simp; omega))
      have hz5 := hbw5.size
      have hne : ∀ o, ¬ (w5.heap.size = gg ∧ o = 0) := fun o hh => by omega
      go_roundg 1
      case measure => omega
      case rel =>
        refine .inr ⟨rfl, gg, cc, w5.heap.size, xa, xb, xc, xd, rfl, ?_, hgw, rfl, hset (hset (hset (hset (hset h7 0 _) 1 _) 2 _) 3 _) 4 _, ?_⟩
        · rw [cset_o _ _ _ _ _ _ (hne _), cset_o _ _ _ _ _ _ (hne _), cset_o _ _ _ _ _ _ (hne _), cset_o _ _ _ _ _ _ (hne _), cset_o _ _ _ _ _ _ (hne _)]
          exact hcg7
        · exact ((((hb7w.setCell (p := ⟨_, _, none⟩) hz5 _).setCell (p := ⟨_, _, none⟩) hz5 _).setCell (p := ⟨_, _, none⟩) hz5 _).setCell (p := ⟨_, _, none⟩) hz5 _).setCell (p := ⟨_, _, none⟩) hz5 _
    · have p0 := hc hP 0 rfl
      have c8 := hc (hbel HH.out hbr) 8 rfl
      go_wp2
      go_ret
      exact ⟨g, cap, rfl, hg, hgw, hbr⟩
end Go.Proofs.YtmmnbdefkailpaaGreatDoor
