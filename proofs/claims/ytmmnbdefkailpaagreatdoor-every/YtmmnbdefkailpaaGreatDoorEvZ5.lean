/- Package recur: the iterator over the days of a daily series. -/
import Derived.Test.YtmmnbdefkailpaaGreatDoorEvZ2
import Derived.Test.YtmmnbdefkailpaaGreatDoorRng

namespace Go.Proofs.YtmmnbdefkailpaaGreatDoor
open Go.RowKit Cal Go.Shelf
set_option linter.unusedVariables false
attribute [local go_sem] Oper.semAt_some

/-- what the iterators lean on -/
structure DF (Q X Y : Nat) (k ct n c : Int) (y m d wd : Value) (T : Int) (w : World) : Prop where
  tab : Tab w
  ser : w.heap[Q]? = some (.cells (serA (.int .i64 k) (.int .i64 ct) (.int .i64 n) y m d wd (.int .i64 c)) 206 (0, 0))
  px : w.heap[X]? = some (.cells #[.pointer (some ⟨Q, 0, none⟩)] 202 (0, 0))
  py : w.heap[Y]? = some (.cells #[.int .i64 T] 3 (0, 0))
theorem DF.below {Q X Y : Nat} {k ct n c : Int} {y m d wd : Value} {T : Int} {w w' : World} (h : DF Q X Y k ct n c y m d wd T w) (hb : Below w.heap.size w w') : DF Q X Y k ct n c y m d wd T w' :=
  ⟨h.tab.below hb, hbel h.ser hb, hbel h.px hb, hbel h.py hb⟩
theorem DF.same {Q X Y : Nat} {k ct n c : Int} {y m d wd : Value} {T : Int} {w w' : World} (h : DF Q X Y k ct n c y m d wd T w) (e0 : w'.heap[0]? = w.heap[0]?) (eQ : w'.heap[Q]? = w.heap[Q]?) (eX : w'.heap[X]? = w.heap[X]?) (eY : w'.heap[Y]? = w.heap[Y]?) : DF Q X Y k ct n c y m d wd T w' := by
  refine ⟨?_, eQ.trans h.ser, eX.trans h.px, eY.trans h.py⟩
  obtain ⟨t0, t1, t2, t3, t4, t5, t6, t7, t8, t9, t10, t11⟩ := h.tab
  have e : ∀ j, w'.cell? ⟨0, j, none⟩ = w.cell? ⟨0, j, none⟩ := fun j => World.cell?_of_block e0
  exact ⟨(e 0).trans t0, (e 1).trans t1, (e 2).trans t2, (e 3).trans t3, (e 4).trans t4, (e 5).trans t5, (e 6).trans t6, (e 7).trans t7, (e 8).trans t8, (e 9).trans t9, (e 10).trans t10, (e 11).trans t11⟩

set_option maxRecDepth 100000 in
set_option maxHeartbeats 8000000 in
theorem days1_in (l Q X Y M N0 : Nat) (k ct n c : Int) (y m d wd : Value) (nf cf : Int) (Kp : World → World → Prop) (J Jx : List Int → World → Prop) (W : World)
    (hk : 1 ≤ k) (hk9 : k ≤ 1000) (hct : 1 ≤ ct) (hn1 : -25567 ≤ n) (hn2 : n ≤ 84005) (hf1 : -200000 ≤ nf) (hf2 : nf ≤ 200000) (hf3 : 0 ≤ cf) (hf4 : cf < 86400)
    (hM : ∀ j : Nat, j < M → n + k * j ≤ 84005)
    (hD : DF Q X Y k ct n c y m d wd (nf * 86400 + cf) W) (hN : N0 ≤ W.heap.size)
    (hKp : ∀ A B, Kp A B → A.heap.size ≤ B.heap.size ∧ ∀ b, b = 0 ∨ b = Q ∨ b = X ∨ b = Y → B.heap[b]? = A.heap[b]?)
    (hJb : ∀ pre A B, J pre A → Below A.heap.size A B → J pre B) (hJM : ∀ pre A, J pre A → pre.length < M) :
    IterAtN Fence.wide 3 Tryz.prog 175 #[.pointer (some ⟨X, 0, none⟩), .pointer (some ⟨Y, 0, none⟩)] (fun x : Int => #[.int .i64 x]) (fun pre x => x = n + k * pre.length) Kp (fun _ => False) (fun _ => True) N0 l J Jx W := by
  intro hYd hJ0
  refine callsIn_of_wp Tryz.func175 rfl trivial ?_ rfl
  simp only [Tryz.ntmps175, List.size_toArray, List.length_cons, List.length_nil, Nat.reduceAdd, Nat.reduceSub, Array.replicate_succ, Array.replicate_zero, List.push_toArray, List.append_toArray, List.nil_append, List.cons_append]
  have x0 := hc hD.px 0 rfl
  have y0 := hc hD.py 0 rfl
  have cS := skipped_no Q (.int .i64 k) undef (.int .i64 n) y m d wd (.int .i64 c) ct nf cf hf1 hf2 hf3 hf4 hct W hD.ser
  gi_wp2_with fail
  refine ⟨trivial, ?_⟩
  gi_at_call 176
  refine (callsIn_wide.2 cS).mono ?_
  clear cS
  rintro e wz ⟨rfl, rfl⟩
  clear x0 y0
  gi_wp2
  gi_loopg [4] M (fun gk s4 wr => ∃ pre : List Int, gk + pre.length = M ∧ s4 = .int .i64 (k * pre.length) ∧ J pre wr ∧ DF Q X Y k ct n c y m d wd (nf * 86400 + cf) wr ∧ N0 ≤ wr.heap.size)
  case atStart => exact ⟨[], by simp, by simp, hJ0, hD, hN⟩
  case round =>
    obtain ⟨pre, hgk, rfl, hJr, hDr, hNr⟩ := hrel
    have hltM := hJM pre wr hJr
    have hbM := hM pre.length hltM
    have hnn : 0 ≤ k * (pre.length : Int) := Int.mul_nonneg (by omega) (by omega)
    have HKS : Hid (k * ((pre.length : Int) + 1) = k * pre.length + k) := by show k * ((pre.length : Int) + 1) = k * pre.length + k; rw [Int.mul_add, Int.mul_one]
    have HY := hYd pre (n + k * pre.length)
    generalize k * (pre.length : Int) = bh at *
    have x0 := hc hDr.px 0 rfl
    have cP := period_daily Q (.int .i64 k) (.int .i64 ct) y m d wd (.int .i64 c) n bh wr hDr.ser (by omega) hbM hn1 hn2
    have cT := set_daily Q (.int .i64 k) (.int .i64 ct) (.int .i64 n) y m d wd (.int .i64 c) (n + bh) wr hDr.tab hDr.ser (by omega) hbM
    gi_wp2_with fail
    refine ⟨trivial, ?_⟩
    gi_at_call 150
    refine (callsIn_wide.2 cP).mono ?_
    clear cP
    rintro e wr ⟨rfl, rfl⟩
    gi_wp2_with fail
    refine ⟨trivial, ?_⟩
    gi_at_call 151
    refine (callsIn_wide.2 cT).mono ?_
    clear cT
    rintro e w2 ⟨g, cap, rfl, hg, hgz, hb2⟩
    obtain ⟨fn, tmps, assign, body, hy, hRd⟩ := HY w2 (hJb pre wr w2 hJr hb2) (by first | rfl | trivial) (Nat.le_trans hNr hb2.size)
    have hD2 := hDr.below hb2
    clear HY x0
    gi_wp2
    refine wpIn_loop_rounds 2 ?_
    rw [roundsIn_succ]
    gi_wp2
    refine hRd.mono ?_
    clear hRd hy
    rintro e W3 (⟨rfl, hJ3, hk3⟩ | ⟨rfl, hJx3, _⟩)
    · obtain ⟨hs3, hK3⟩ := hKp _ _ hk3
      have hD3 := hD2.same (hK3 0 (.inl rfl)) (hK3 Q (.inr (.inl rfl))) (hK3 X (.inr (.inr (.inl rfl)))) (hK3 Y (.inr (.inr (.inr rfl))))
      have x3 := hc hD3.px 0 rfl
      have s3 := hc hD3.ser 1 rfl
      gi_wp2
      rw [roundsIn_succ]
      gi_wp2
      gi_roundg (gk - 1)
      case measure => omega
      case rel =>
        have hlen : (pre ++ [n + bh]).length = pre.length + 1 := by simp
        exact ⟨pre ++ [n + bh], by rw [hlen]; omega, by rw [hlen, Int.natCast_add, Int.natCast_one, HKS.out], hJ3, hD3, by have := hb2.size; omega⟩
    · gi_wp2
      refine bodyPost_ret (results_none rfl _ _ _) rfl ?_
      exact ⟨⟨_, rfl⟩, .inr ⟨_, trivial, hJx3⟩⟩
end Go.Proofs.YtmmnbdefkailpaaGreatDoor
