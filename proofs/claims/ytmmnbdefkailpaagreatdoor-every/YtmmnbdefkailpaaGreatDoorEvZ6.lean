/- Package recur: the iterator over the dates of a daily series. -/
import Derived.Test.YtmmnbdefkailpaaGreatDoorEvZ5
import Derived.RegionIn

namespace Go.Proofs.YtmmnbdefkailpaaGreatDoor
open Go.RowKit Cal Go.Shelf
set_option linter.unusedVariables false
attribute [local go_sem] Oper.semAt_some

theorem roundIn_any {n n' l' : Nat} {P : Program} {l : Nat} {f : FuncId} {tmps : Array Value} {assign body : Code} {w : World} {R : Ending → World → Prop} (h : RoundIn Fence.wide n P l f tmps assign body w R) : RoundIn (Fence.wide.inRound l') n' P l f tmps assign body w R :=
  ⟨h.1, fun c cs _ => h.2 c cs (room_wide _)⟩

/-- what the iterator over dates has laid -/
structure CI (l Q X0 Zs z : Nat) (k : Int) (M : Nat) (n c : Int) (y m d wd : Value) (T : Int) (j : Nat) (w : World) : Prop where
  yb : w.heap[z]? = some (.cells #[.func (.yield l) #[] #[]] 38 (0, 0))
  ct : w.heap[z + 1]? = some (.cells #[.int .i64 j] 3 (0, 0))
  df : DF Q (z + 1 + 1) (z + 1 + 1 + 1) k M n c y m d wd T w
  px : w.heap[X0]? = some (.cells #[.pointer (some ⟨Q, 0, none⟩)] 202 (0, 0))
  pz : w.heap[Zs]? = some (.cells #[.int .i64 (n * 86400 + c)] 3 (0, 0))
  sz : z + 4 ≤ w.heap.size
theorem CI.same {l Q X0 Zs z : Nat} {k : Int} {M : Nat} {n c : Int} {y m d wd : Value} {T : Int} {j j' : Nat} {w w' : World} (h : CI l Q X0 Zs z k M n c y m d wd T j w) (hs : w.heap.size ≤ w'.heap.size)
    (hc' : w'.heap[z + 1]? = some (.cells #[.int .i64 j'] 3 (0, 0))) (hsame : ∀ b, b = 0 ∨ b = Q ∨ b = X0 ∨ b = Zs ∨ b = z ∨ b = z + 2 ∨ b = z + 3 → w'.heap[b]? = w.heap[b]?) : CI l Q X0 Zs z k M n c y m d wd T j' w' :=
  ⟨(hsame z (by simp)).trans h.yb, hc', h.df.same (hsame 0 (by simp)) (hsame Q (by simp)) (hsame (z + 1 + 1) (by simp)) (hsame (z + 1 + 1 + 1) (by simp)), (hsame X0 (by simp)).trans h.px, (hsame Zs (by simp)).trans h.pz, Nat.le_trans h.sz hs⟩

set_option maxRecDepth 100000 in
set_option maxHeartbeats 8000000 in
theorem dates1_in (l Q X0 Yf Zs M : Nat) (k n c : Int) (y m d wd : Value) (nf cf : Int) (Kp : World → World → Prop) (J Jx : List Int → World → Prop) (W : World)
    (hk : 1 ≤ k) (hk9 : k ≤ 1000) (hM1 : 1 ≤ M) (hM2 : M ≤ 1000) (hn1 : -25567 ≤ n) (hn2 : n ≤ 84005) (hc1 : 0 ≤ c) (hc2 : c < 86400) (hf1 : -200000 ≤ nf) (hf2 : nf ≤ 200000) (hf3 : 0 ≤ cf) (hf4 : cf < 86400)
    (hMb : ∀ j : Nat, j < M → n + k * j ≤ 84005)
    (hD : DF Q X0 Yf k M n c y m d wd (nf * 86400 + cf) W) (pz : W.heap[Zs]? = some (.cells #[.int .i64 (n * 86400 + c)] 3 (0, 0)))
    (hKp : ∀ A B, Kp A B → A.heap.size ≤ B.heap.size ∧ (∀ b, (b = 0 ∨ b = Q ∨ b = X0 ∨ b = Yf ∨ b = Zs ∨ (W.heap.size ≤ b ∧ b < W.heap.size + 6)) → B.heap[b]? = A.heap[b]?) ∧ (∀ b o, W.heap.size ≤ b → A.heap[b]? = some o → o.isCells = false → B.heap[b]? = some o))
    (hJo : OwnFrom W.heap.size J) (hJxo : OwnFrom W.heap.size Jx) (hJt : ∀ pre A B, J pre A → A.grownBy B (some (W.heap.size + 1)) → J pre B) :
    IterAtN Fence.wide 5 Tryz.prog 120 #[.pointer (some ⟨X0, 0, none⟩), .pointer (some ⟨Yf, 0, none⟩), .pointer (some ⟨Zs, 0, none⟩)] (fun x : Int => #[.int .i64 x]) (fun pre x => x = (n + k * pre.length) * 86400 + c ∧ pre.length < M) Kp (fun xs => xs.length = M) (fun _ => True) (W.heap.size + 6) l J Jx W := by
  intro hYd hJ0
  refine callsIn_of_wp_marks Tryz.func120 rfl trivial ?_ rfl
  simp only [Tryz.ntmps120, List.size_toArray, List.length_cons, List.length_nil, Nat.reduceAdd, Nat.reduceSub, Array.replicate_succ, Array.replicate_zero, List.push_toArray, List.append_toArray, List.nil_append, List.cons_append]
  refine wpIn_wide.2 ?_
  have hQl := hlt hD.ser
  have hXl := hlt hD.px
  have hYl := hlt hD.py
  have hZl := hlt pz
  have x0 := hc hD.px 0 rfl
  have y0 := hc hD.py 0 rfl
  go_wp2_with (go_at_call 121; refine (days_at Q _ _).mono ?_; rintro e wz ⟨rfl, rfl⟩)
  have hCI : CI l Q X0 Zs W.heap.size k M n c y m d wd (nf * 86400 + cf) 0 ((((W.alloc (.cells #[.func (.yield l) #[] #[]] 38)).alloc (.cells #[.int .i64 0] 3)).alloc (.cells #[.pointer (some ⟨Q, 0, none⟩)] 202)).alloc (.cells #[.int .i64 (nf * 86400 + cf)] 3)) := by
    have hbx : Below W.heap.size W ((((W.alloc (.cells #[.func (.yield l) #[] #[]] 38)).alloc (.cells #[.int .i64 0] 3)).alloc (.cells #[.pointer (some ⟨Q, 0, none⟩)] 202)).alloc (.cells #[.int .i64 (nf * 86400 + cf)] 3)) := ((((Below.refl _ _).alloc (Nat.le_refl _) _).alloc (by simp only [World.size_alloc]; omega) _).alloc (by simp only [World.size_alloc]; omega) _).alloc (by simp only [World.size_alloc]; omega) _
    have hDx := hD.below hbx
    refine ⟨?_, ?_, ⟨hDx.tab, hDx.ser, ?_, ?_⟩, hDx.px, hbel pz hbx, by simp only [World.size_alloc]; omega⟩
    · exact (Below.heap_alloc _ _ _ (by simp only [World.size_alloc]; omega)).trans ((Below.heap_alloc _ _ _ (by simp only [World.size_alloc]; omega)).trans ((Below.heap_alloc _ _ _ (by simp only [World.size_alloc]; omega)).trans (heap_alloc_new W _)))
    · exact (Below.heap_alloc _ _ _ (by simp only [World.size_alloc]; omega)).trans ((Below.heap_alloc _ _ _ (by simp only [World.size_alloc]; omega)).trans (heap_alloc2 W _ _))
    · have := heap_alloc2 (W.alloc (.cells #[.func (.yield l) #[] #[]] 38)) (.cells #[.int .i64 0] 3) (.cells #[.pointer (some ⟨Q, 0, none⟩)] 202)
      rw [World.size_alloc] at this
      exact (Below.heap_alloc _ _ _ (by simp only [World.size_alloc]; omega)).trans this
    · have := heap_alloc2 ((W.alloc (.cells #[.func (.yield l) #[] #[]] 38)).alloc (.cells #[.int .i64 0] 3)) (.cells #[.pointer (some ⟨Q, 0, none⟩)] 202) (.cells #[.int .i64 (nf * 86400 + cf)] 3)
      rw [World.size_alloc, World.size_alloc] at this
      exact this
  have hbR : Below W.heap.size W ((((W.alloc (.cells #[.func (.yield l) #[] #[]] 38)).alloc (.cells #[.int .i64 0] 3)).alloc (.cells #[.pointer (some ⟨Q, 0, none⟩)] 202)).alloc (.cells #[.int .i64 (nf * 86400 + cf)] 3)) := ((((Below.refl _ _).alloc (Nat.le_refl _) _).alloc (by simp) _).alloc (by simp; omega) _).alloc (by simp; omega) _
  have hzR : ((((W.alloc (.cells #[.func (.yield l) #[] #[]] 38)).alloc (.cells #[.int .i64 0] 3)).alloc (.cells #[.pointer (some ⟨Q, 0, none⟩)] 202)).alloc (.cells #[.int .i64 (nf * 86400 + cf)] 3)).heap.size = W.heap.size + 4 := by simp
  revert hCI hbR hzR
  generalize ((((W.alloc (.cells #[.func (.yield l) #[] #[]] 38)).alloc (.cells #[.int .i64 0] 3)).alloc (.cells #[.pointer (some ⟨Q, 0, none⟩)] 202)).alloc (.cells #[.int .i64 (nf * 86400 + cf)] 3)) = WR
  intro hCI hbR hzR
  have hJR : J [] WR := hJo [] W WR none hJ0 (gb_of_below hbR none) (by simp)
  clear x0 y0
  refine (wpIn_wide (n := 4)).1 ?_
  refine wpIn_rangeFunc_rawN (α := Int) (gf := 175) (lb := #[.pointer (some ⟨W.heap.size + 1 + 1, 0, none⟩), .pointer (some ⟨W.heap.size + 1 + 1 + 1, 0, none⟩)]) rfl (by omega) rfl trivial (enters_of Tryz.func175 (by kernel_rfl) rfl)
    (encs := fun x : Int => #[.int .i64 x]) (Pre := fun pre x => x = n + k * pre.length) (Kp := fun A B => A.heap.size ≤ B.heap.size ∧ ∀ b, b = 0 ∨ b = Q ∨ b = W.heap.size + 1 + 1 ∨ b = W.heap.size + 1 + 1 + 1 → B.heap[b]? = A.heap[b]?) (S := fun _ => False) (Sp := fun _ => True) (W.heap.size + 6)
    (fun pre W' => pre.length < M ∧ J (pre.map fun x => x * 86400 + c) W' ∧ CI l Q X0 Zs W.heap.size k M n c y m d wd (nf * 86400 + cf) pre.length W')
    (fun cd pre W' => cd = .ret ∧ ((pre.length = M ∧ J (pre.map fun x => x * 86400 + c) W') ∨ Jx (pre.map fun x => x * 86400 + c) W')) ?hI ?hIx ⟨by show 0 < M; omega, hJR, hCI⟩
    ?hseq ?hKt ?hKb (fun _ => rfl)
    (fun x a' _ => a' = { tmps := #[.func (.yield l) #[] #[], .pointer (some ⟨X0, 0, none⟩), .pointer (some ⟨Yf, 0, none⟩), .pointer (some ⟨Zs, 0, none⟩), .pointer (some ⟨W.heap.size, 0, none⟩), .pointer (some ⟨W.heap.size + 1, 0, none⟩), .int .i64 x, undef, .pointer (some ⟨Q, 0, none⟩), .int .i64 (nf * 86400 + cf), .func (.func 175) #[] #[.pointer (some ⟨W.heap.size + 1 + 1, 0, none⟩), .pointer (some ⟨W.heap.size + 1 + 1 + 1, 0, none⟩)], .int .i64 x, undef, undef, undef, undef, undef, undef, undef, undef, undef, undef, undef, undef, undef, undef, undef, undef, undef, undef, undef, undef, undef, undef, undef, undef, undef, undef, undef, undef, undef, undef, undef, undef, undef, undef, undef, undef, undef, undef, undef], defers := [] }) (fun _ _ _ _ _ _ hs _ _ => hs) ?assign ?body ?done ?stop
  case hI =>
    rintro s A B row ⟨h1, h2, h3⟩ hg hr
    refine ⟨h1, hJo _ A B row h2 hg (fun r e => ⟨by have := (hr r e).1; omega, (hr r e).2⟩), h3.same hg.size ((hg.block _ (hlt h3.ct) (fun e => by have := (hr _ e.symm).1; omega)).trans h3.ct) (fun b hb => ?_)⟩
    have hbl : b < A.heap.size := by
      have := hlt h3.df.ser
      have := hlt h3.px
      have := hlt h3.pz
      have := h3.sz
      omega
    exact hg.block b hbl (fun e => by have := (hr _ e.symm).1; omega)
  case hIx =>
    rintro cd s A B row ⟨h1, h2⟩ hg hr
    refine ⟨h1, h2.elim (fun h => .inl ⟨h.1, hJo _ A B row h.2 hg (fun r e => ⟨by have := (hr r e).1; omega, (hr r e).2⟩)⟩) (fun h => .inr (hJxo _ A B row h hg (fun r e => ⟨by have := (hr r e).1; omega, (hr r e).2⟩)))⟩
  case hseq =>
    intro W1 oR oD oX hr1 hr2 hd1 hd2 hxx hb1 hz1
    refine days1_in _ Q _ _ M (W.heap.size + 6) k M n c y m d wd nf cf _ _ _ W1 hk hk9 (by omega) hn1 hn2 hf1 hf2 hf3 hf4 hMb (hCI.df.below hb1) (by omega) (fun A B h => h) ?_ (fun pre A h => h.1.1)
    rintro pre A B ⟨⟨h1, h2, h3⟩, ho1, ho2⟩ hb
    have hg := gb_of_below hb none
    refine ⟨⟨h1, hJo _ A B none h2 hg (by simp), h3.same hb.size (hbel h3.ct hb) (fun b hbb => hb.block b ?_)⟩, hbel ho1 hb, hbel ho2 hb⟩
    have := hlt h3.df.ser
    have := hlt h3.px
    have := hlt h3.pz
    have := h3.sz
    omega
  case hKt =>
    rintro A B C ⟨h1, h2⟩ ⟨h3, h4⟩
    exact ⟨Nat.le_trans h1 h3, fun b hb => (h4 b hb).trans (h2 b hb)⟩
  case hKb =>
    intro A o o' h1 _ _
    exact ⟨by rw [World.putObj_size]; exact Nat.le_refl _, fun b hb => World.putObj_heap_other (by omega)⟩
  case assign =>
    intro l2 pre x A K hIp hPre hN hK
    clear hPre
    gi_wp2
    exact hK _ A (KeepsFrom.refl _ _) ⟨Nat.le_refl _, fun _ _ => rfl⟩ hIp rfl
  case body =>
    rintro l2 pre x a' A hzl hloop ⟨hlM, hJp, hCp⟩ rfl hx hN6
    have hbM := hMb pre.length hlM
    have hnn : 0 ≤ k * (pre.length : Int) := Int.mul_nonneg (by omega) (by omega)
    have hml : (pre.map fun x => x * 86400 + c).length = pre.length := by simp
    obtain ⟨fn, tmps, assign, body, hy, hRd⟩ := hYd (pre.map fun x => x * 86400 + c) (x * 86400 + c) A hJp ⟨by rw [hml, hx], by rw [hml]; exact hlM⟩ hN6
    have hxn : n ≤ x := by omega
    have hxm : x ≤ 84005 := by omega
    clear hx hbM hnn hml
    have x0 := hc hCp.px 0 rfl
    have q15 := hc hCp.df.ser 15 rfl
    have q4 := hc hCp.df.ser 4 rfl
    have z0 := hc hCp.pz 0 rfl
    have b0 := hc hCp.yb 0 rfl
    have hge : ¬ x * 86400 + c < n * 86400 + c := by omega
    gi_wp2
    refine (roundIn_any hRd).mono ?_
    clear hRd hy x0 q15 q4 z0 b0
    have HML : Hid ((pre ++ [x]).map (fun x => x * 86400 + c) = (pre.map fun x => x * 86400 + c) ++ [x * 86400 + c]) := List.map_append
    rintro e W3 (⟨rfl, hJ3, hk3⟩ | ⟨rfl, hJx3, hk3⟩)
    · obtain ⟨hs3, hK3, hNC3⟩ := hKp _ _ hk3
      have hC3 := hCp.same hs3 ((hK3 (W.heap.size + 1) (by omega)).trans hCp.ct) (fun b hb => hK3 b (by omega))
      have t3 := hc hC3.ct 0 rfl
      have f3 := Lib.frozen_of_heap hC3.ct 0
      gi_wp2
      have hg4 := gb_set W3 (W.heap.size + 1) 0 (.int .i64 ((pre.length : Int) + 1))
      have hC4 : CI l Q X0 Zs W.heap.size k M n c y m d wd (nf * 86400 + cf) (pre.length + 1) (W3.setCell ⟨W.heap.size + 1, 0, none⟩ (.int .i64 ((pre.length : Int) + 1))) := by
        refine hC3.same hg4.size (by rw [Int.natCast_add, Int.natCast_one]; exact hset hC3.ct 0 _) (fun b hb => hg4.block b ?_ (by simp; omega))
        have := hlt hC3.df.ser
        have := hlt hC3.px
        have := hlt hC3.pz
        have := hC3.sz
        omega
      have hJ4 := hJt _ _ _ hJ3 hg4
      revert hg4 hC4 hJ4
      generalize W3.setCell ⟨W.heap.size + 1, 0, none⟩ (.int .i64 ((pre.length : Int) + 1)) = W4
      intro hg4 hC4 hJ4
      clear t3 f3
      have t4 := hc hC4.ct 0 rfl
      have x4 := hc hC4.px 0 rfl
      have q4 := hc hC4.df.ser 2 rfl
      rw [Int.natCast_add, Int.natCast_one] at t4
      have KF : KeepsFrom WR.heap.size A W4.drew := ⟨Nat.le_trans hs3 hg4.size, fun b o hb ho hn => (hg4.block b (hlt (hNC3 b o (by omega) ho hn)) (by simp; omega)).trans (hNC3 b o (by omega) ho hn)⟩
      have KP : A.heap.size ≤ W4.drew.heap.size ∧ ∀ b, b = 0 ∨ b = Q ∨ b = W.heap.size + 1 + 1 ∨ b = W.heap.size + 1 + 1 + 1 → W4.drew.heap[b]? = A.heap[b]? := ⟨Nat.le_trans hs3 hg4.size, fun b hb => (hg4.block b (by
        have := hlt hC3.df.ser
        have := hC3.sz
        omega) (by simp; omega)).trans (hK3 b (by omega))⟩
      have hlen : (pre ++ [x]).length = pre.length + 1 := by simp
      have hJ5 : J ((pre ++ [x]).map fun x => x * 86400 + c) W4.drew := by rw [HML.out]; exact hJo _ W4 W4.drew none hJ4 (gb_drewN W4 1 none) (by simp)
      have hC5 : CI l Q X0 Zs W.heap.size k M n c y m d wd (nf * 86400 + cf) (pre ++ [x]).length W4.drew := by rw [hlen]; exact ⟨hC4.yb, hC4.ct, ⟨hC4.df.tab, hC4.df.ser, hC4.df.px, hC4.df.py⟩, hC4.px, hC4.pz, hC4.sz⟩
      have HF : Hid (_ ∧ _) := And.intro KF (And.intro KP (And.intro hJ5 (And.intro hC5 hlen)))
      clear KF KP hJ5 hC5 hlen hJ3 hk3 hNC3 hK3 hC3 hg4 hJ4 hJp hCp
      by_cases hMM : (pre.length : Int) + 1 = M
      · gi_region
        all_goals gi_wp2
        all_goals (obtain ⟨KF, KP, hJ5, hC5, hlen⟩ := HF.out; exact ⟨KF, KP, rfl, .inl ⟨by omega, hJ5⟩⟩)
      · gi_region
        all_goals gi_wp2
        all_goals (obtain ⟨KF, KP, hJ5, hC5, hlen⟩ := HF.out; exact ⟨KF, KP, by omega, hJ5, hC5⟩)
    · obtain ⟨hs3, hK3, hNC3⟩ := hKp _ _ hk3
      gi_wp2
      exact ⟨⟨hs3, fun b o hb ho hn => hNC3 b o (by omega) ho hn⟩, ⟨hs3, fun b hb => hK3 b (by omega)⟩, rfl, .inr (by rw [HML.out]; exact hJx3)⟩
  case done =>
    rintro D xs A _ hfalse
    exact hfalse.elim
  case stop =>
    rintro D cd pre A hDz _ ⟨rfl, hx⟩ hdef
    gi_wp2
    refine ⟨by simp, .inl ⟨_, _, rfl, run_takeDeferred hdef, ?_⟩⟩
    have hg : A.grownBy (A.putObj D (.deferred none)) (some D) := grownBy_putObj' A D _
    have hr : ∀ r, (some D : Option Nat) = some r → W.heap.size ≤ r ∧ ∃ o : Obj, A.heap[r]? = some o ∧ o.isCells = false := fun r e => by cases e; exact ⟨by omega, _, hdef, rfl⟩
    exact ⟨_, results_none rfl _ _ _, ⟨_, rfl⟩, hx.elim (fun h => .inl ⟨_, by simpa using h.1, hJo _ A _ _ h.2 hg hr⟩) (fun h => .inr ⟨_, trivial, hJxo _ A _ _ h hg hr⟩)⟩
end Go.Proofs.YtmmnbdefkailpaaGreatDoor
