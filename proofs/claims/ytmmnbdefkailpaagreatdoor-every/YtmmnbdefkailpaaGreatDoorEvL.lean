/- Package pieces: the iterator over the pieces of a rule. -/
import Derived.Test.YtmmnbdefkailpaaGreatDoorRng
import Derived.Test.YtmmnbdefkailpaaGreatDoorEvK0
import Derived.RangeFuncNested
import Derived.RangeFuncBound
import Derived.RangeFuncCalls
import Derived.RangeFuncLeaves
import Derived.Shelf.Abstract
import Derived.Shelf.RegionOpen
import Derived.WalkKit
import Derived.OwnWalkIn
import Derived.TacticsInMore
import Derived.LoopNIn
import Derived.LoopIn
import Derived.Sort.LoopGhostIn

namespace Go.Proofs.YtmmnbdefkailpaaGreatDoor
open Go.RowKit Cal Go.Shelf
set_option linter.unusedVariables false
attribute [local go_sem] Oper.semAt_some

set_option maxRecDepth 100000 in
set_option maxHeartbeats 2000000 in
theorem next_at (R p : Nat) (t pc t' : ByteArray) (b : Bool) (m : Int) (w : World) (h0 : w.cell? ⟨R, 0, none⟩ = some (.int .i64 p)) (h1 : w.cell? ⟨R, 1, none⟩ = some (.string t)) (f0 : w.frozen? ⟨R, 0, none⟩ = false) (f1 : w.frozen? ⟨R, 1, none⟩ = false)
    (hm : w.cell? ⟨32, 0, none⟩ = some (.int .i64 m)) (hR : 32 < R) (hp : p ≤ 4000) (ht : t.size ≤ 4000) (hcut : Lib.cut t.data.toList [59] = (pc.data.toList, t'.data.toList, b)) :
    Calls Tryz.prog 87 #[.pointer (some ⟨R, 0, none⟩), .string ⟨#[59]⟩] w fun e w' => e = .returned (.tuple #[.string pc, .bool b]) ∧ ∃ q, w' = ((w.setCell ⟨R, 0, none⟩ (.int .i64 ((p : Int) + 1))).setCell ⟨R, 1, none⟩ (.string t')).drewN q := by
  have cC : Calls Tryz.prog 134 #[.string t, .string ⟨#[59]⟩] w fun e w' => e = .returned (.tuple #[.string pc, .string t', .bool b]) ∧ ∃ q, w' = w.drewN q := by
    have := Tryz.strings_Cut t ⟨#[59]⟩ m w (by omega) hm
    simp only at this
    rw [hcut] at this
    exact this
  clear hcut
  go_enter Tryz.func87, Tryz.ntmps87
  go_wp2_with (go_at_call 134; refine cC.mono ?_; rintro e w1 ⟨rfl, q1, rfl⟩)
  go_ret2
  exact ⟨rfl, q1, rfl⟩

set_option maxRecDepth 100000 in
theorem all_at (R : Nat) (s : ByteArray) (w : World) :
    Calls Tryz.prog 101 #[.pointer (some ⟨R, 0, none⟩), .string s] w fun e w' => e = .returned (.func (.func 147) #[] #[.pointer (some ⟨w.heap.size, 0, none⟩), .pointer (some ⟨w.heap.size + 1, 0, none⟩)]) ∧ w' = (w.alloc (.cells #[.pointer (some ⟨R, 0, none⟩)] 145)).alloc (.cells #[.string s] 9) := by
  go_enter Tryz.func101, Tryz.ntmps101
  go_wp2
  go_ret
  exact ⟨rfl, rfl⟩

theorem cset_s (w : World) (b o : Nat) (v : Value) {u : Value} (h : w.cell? ⟨b, o, none⟩ = some u) : (w.setCell ⟨b, o, none⟩ v).cell? ⟨b, o, none⟩ = some v := World.cell?_setCell_same' _ _ _ (by rw [h]; rfl)
theorem cset_o (w : World) (b o b' o' : Nat) (v : Value) (h : ¬ (b = b' ∧ o = o')) : (w.setCell ⟨b, o, none⟩ v).cell? ⟨b', o', none⟩ = w.cell? ⟨b', o', none⟩ := World.cell?_setCell_other _ _ _ _ (by intro e; injection e with e1 e2; exact h ⟨e1, e2⟩)

/-- what a round must leave as it was -/
structure KpR (R X Y : Nat) (W W' : World) : Prop where
  c0 : W'.cell? ⟨R, 0, none⟩ = W.cell? ⟨R, 0, none⟩
  c1 : W'.cell? ⟨R, 1, none⟩ = W.cell? ⟨R, 1, none⟩
  f0 : W'.frozen? ⟨R, 0, none⟩ = W.frozen? ⟨R, 0, none⟩
  f1 : W'.frozen? ⟨R, 1, none⟩ = W.frozen? ⟨R, 1, none⟩
  x : W'.cell? ⟨X, 0, none⟩ = W.cell? ⟨X, 0, none⟩
  y : W'.cell? ⟨Y, 0, none⟩ = W.cell? ⟨Y, 0, none⟩
  m : W'.cell? ⟨32, 0, none⟩ = W.cell? ⟨32, 0, none⟩

set_option maxRecDepth 100000 in
set_option maxHeartbeats 4000000 in
theorem all1_in (l R X Y N : Nat) (pc L : Nat → ByteArray) (m : Int) (J Jx : List ByteArray → World → Prop) (W : World) (hR : 32 < R) (hXR : X ≠ R) (hYR : Y ≠ R) (hN : 1 ≤ N) (hN2 : N ≤ 100)
    (hX : W.cell? ⟨X, 0, none⟩ = some (.pointer (some ⟨R, 0, none⟩))) (hY : W.cell? ⟨Y, 0, none⟩ = some (.string ⟨#[59]⟩)) (hm : W.cell? ⟨32, 0, none⟩ = some (.int .i64 m))
    (h0 : W.cell? ⟨R, 0, none⟩ = some (.int .i64 (0 : Nat))) (h1 : W.cell? ⟨R, 1, none⟩ = some (.string (L 0))) (f0 : W.frozen? ⟨R, 0, none⟩ = false) (f1 : W.frozen? ⟨R, 1, none⟩ = false)
    (hL : ∀ j, (L j).size ≤ 4000) (hcut : ∀ j, j < N → Lib.cut (L j).data.toList [59] = ((pc j).data.toList, (L (j + 1)).data.toList, decide (j + 1 < N)))
    (hJ : ∀ pre W p t q, J pre W → J pre (((W.setCell ⟨R, 0, none⟩ (.int .i64 p)).setCell ⟨R, 1, none⟩ (.string t)).drewN q)) :
    IterAt Fence.wide 3 Tryz.prog 147 #[.pointer (some ⟨X, 0, none⟩), .pointer (some ⟨Y, 0, none⟩)] (fun x : ByteArray => #[.string x]) (fun pre x => pre.length < N ∧ x = pc pre.length) (KpR R X Y) (fun xs => xs.length = N) (fun _ => True) l J Jx W := by
  intro hYd hJ0
  refine callsIn_of_wp Tryz.func147 rfl trivial ?_ rfl
  simp only [Tryz.ntmps147, List.size_toArray, List.length_cons, List.length_nil, Nat.reduceAdd, Nat.reduceSub, Array.replicate_succ, Array.replicate_zero, List.push_toArray, List.append_toArray, List.nil_append, List.cons_append]
  gi_wp2
  gi_loopg [4] (N + 1) (fun gk more wr => ∃ pre : List ByteArray, pre.length + gk = N + 1 ∧ pre.length ≤ N ∧ more = .bool (decide (pre.length < N)) ∧ J pre wr ∧ wr.cell? ⟨R, 0, none⟩ = some (.int .i64 pre.length) ∧ wr.cell? ⟨R, 1, none⟩ = some (.string (L pre.length)) ∧ wr.frozen? ⟨R, 0, none⟩ = false ∧ wr.frozen? ⟨R, 1, none⟩ = false ∧ wr.cell? ⟨X, 0, none⟩ = some (.pointer (some ⟨R, 0, none⟩)) ∧ wr.cell? ⟨Y, 0, none⟩ = some (.string ⟨#[59]⟩) ∧ wr.cell? ⟨32, 0, none⟩ = some (.int .i64 m))
  case atStart => exact ⟨[], by simp, by simp, by simp; omega, hJ0, h0, h1, f0, f1, hX, hY, hm⟩
  case round =>
    obtain ⟨pre, hg, hle, rfl, hJr, r0, r1, rf0, rf1, rX, rY, rm⟩ := hrel
    by_cases hlt : pre.length < N
    · have cN := next_at R pre.length (L pre.length) (pc pre.length) (L (pre.length + 1)) (decide (pre.length + 1 < N)) m wr r0 r1 rf0 rf1 rm hR (by omega) (hL _) (hcut _ hlt)
      have hd : decide (pre.length < N) = true := decide_eq_true hlt
      obtain ⟨bb, hbb⟩ : ∃ bb, decide (pre.length + 1 < N) = bb := ⟨_, rfl⟩
      rw [hbb] at cN
      have HBB : Hid (decide (pre.length + 1 < N) = bb) := hbb
      clear hbb
      gi_wp2_with fail
      refine ⟨trivial, ?_⟩
      gi_at_call 87
      refine (callsIn_wide.2 cN).mono ?_
      rintro e w1 ⟨rfl, q1, rfl⟩
      obtain ⟨fn, tmps, assign, body, hy, hRd⟩ := hYd pre (pc pre.length) _ (hJ pre wr ((pre.length : Int) + 1) (L (pre.length + 1)) q1 hJr) ⟨hlt, rfl⟩
      gi_wp2
      refine hRd.mono ?_
      have g0 := cset_s wr R 0 (.int .i64 ((pre.length : Int) + 1)) r0
      have g1 := cset_s (wr.setCell ⟨R, 0, none⟩ (.int .i64 ((pre.length : Int) + 1))) R 1 (.string (L (pre.length + 1))) ((cset_o wr R 0 R 1 _ (by simp)).trans r1)
      rintro e W3 (⟨rfl, hJ3, hk⟩ | ⟨rfl, hJx3⟩)
      · obtain ⟨k0, k1, kf0, kf1, kx, ky, km⟩ := hk
        have HK : Hid (W3.cell? ⟨R, 0, none⟩ = some (.int .i64 ((pre.length : Int) + 1)) ∧ W3.cell? ⟨R, 1, none⟩ = some (.string (L (pre.length + 1))) ∧ W3.frozen? ⟨R, 0, none⟩ = false ∧ W3.frozen? ⟨R, 1, none⟩ = false ∧ W3.cell? ⟨X, 0, none⟩ = some (.pointer (some ⟨R, 0, none⟩)) ∧ W3.cell? ⟨Y, 0, none⟩ = some (.string ⟨#[59]⟩) ∧ W3.cell? ⟨32, 0, none⟩ = some (.int .i64 m)) := by
          refine ⟨k0.trans ((cset_o _ R 1 R 0 _ (by simp)).trans g0), k1.trans g1, kf0.trans ?_, kf1.trans ?_, kx.trans ((cset_o _ R 1 X 0 _ (by intro h; exact hXR h.1.symm)).trans ((cset_o _ R 0 X 0 _ (by intro h; exact hXR h.1.symm)).trans rX)), ky.trans ((cset_o _ R 1 Y 0 _ (by intro h; exact hYR h.1.symm)).trans ((cset_o _ R 0 Y 0 _ (by intro h; exact hYR h.1.symm)).trans rY)), km.trans ((cset_o _ R 1 32 0 _ (by intro h; omega)).trans ((cset_o _ R 0 32 0 _ (by intro h; omega)).trans rm))⟩
          · show ((wr.setCell ⟨R, 0, none⟩ _).setCell ⟨R, 1, none⟩ _).frozen? ⟨R, 0, none⟩ = false
            rw [World.frozen?_setCell, World.frozen?_setCell]; exact rf0
          · show ((wr.setCell ⟨R, 0, none⟩ _).setCell ⟨R, 1, none⟩ _).frozen? ⟨R, 1, none⟩ = false
            rw [World.frozen?_setCell, World.frozen?_setCell]; exact rf1
        clear k0 k1 kf0 kf1 kx ky km g0 g1
        gi_wp2
        gi_roundg (gk - 1)
        case measure => omega
        case rel =>
          obtain ⟨k0, k1, kf0, kf1, kx, ky, km⟩ := HK.out
          have hlen : (pre ++ [pc pre.length]).length = pre.length + 1 := by simp
          exact ⟨pre ++ [pc pre.length], by rw [hlen]; omega, by rw [hlen]; omega, by rw [hlen, HBB.out], hJ3, by rw [hlen, Int.natCast_add]; exact k0, by rw [hlen]; exact k1, kf0, kf1, kx, ky, km⟩
      · gi_wp2
        refine bodyPost_ret (results_none rfl _ _ _) rfl ?_
        exact ⟨⟨_, rfl⟩, .inr ⟨_, trivial, hJx3⟩⟩
    · have hd : decide (pre.length < N) = false := decide_eq_false hlt
      gi_wp2
      go_end0
      exact ⟨⟨_, rfl⟩, .inl ⟨pre, by omega, hJr⟩⟩
end Go.Proofs.YtmmnbdefkailpaaGreatDoor
