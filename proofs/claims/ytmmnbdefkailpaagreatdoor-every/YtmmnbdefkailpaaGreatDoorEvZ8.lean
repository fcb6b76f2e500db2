/- Package event: expand, of an event that comes again by days. -/
import Derived.Test.YtmmnbdefkailpaaGreatDoorEvZ7

namespace Go.Proofs.YtmmnbdefkailpaaGreatDoor
open Go.RowKit Cal Go.Shelf
set_option linter.unusedVariables false
attribute [local go_sem] Oper.semAt_some

/-- the date with the number j -/
def atJ (k n c : Int) (j : Nat) : Int := (n + k * j) * 86400 + c
def hits (f t : Int) (pre : List Int) : List Int := pre.filter (inW f t)
def allJ (k n c : Int) (M : Nat) : List Int := (List.range M).map (atJ k n c)
theorem hits_upto (k n c F t : Int) (hk : 1 ≤ k) (L M : Nat) (hL : L ≤ M) (hlast : L = M ∨ ∃ (p : List Int) (x : Int), allJ k n c L = p ++ [x] ∧ t ≤ x) : hits F t (allJ k n c L) = hits F t (allJ k n c M) := by
  rcases hlast with rfl | ⟨p, x, hp, hx⟩
  · rfl
  · obtain ⟨d, rfl⟩ : ∃ d, M = L + d := ⟨M - L, by omega⟩
    have e : allJ k n c (L + d) = allJ k n c L ++ (List.range d).map (fun i => atJ k n c (L + i)) := by
      unfold allJ
      rw [List.range_add, List.map_append, List.map_map]
      rfl
    rw [e]
    unfold hits
    rw [List.filter_append]
    have e2 : ((List.range d).map (fun i => atJ k n c (L + i))).filter (inW F t) = [] := by
      rw [List.filter_eq_nil_iff]
      intro a ha
      rw [List.mem_map] at ha
      obtain ⟨i, _, rfl⟩ := ha
      have hLp : L = p.length + 1 := by have := congrArg List.length hp; simpa [allJ] using this
      have hxe : x = atJ k n c p.length := by
        have h := congrArg (fun l => l[p.length]?) hp
        subst hLp
        simpa [allJ] using h.symm
      subst hxe
      have hm : k * (p.length : Int) ≤ k * ((L + i : Nat) : Int) := Int.mul_le_mul_of_nonneg_left (by omega) (by omega)
      unfold atJ at hx ⊢
      unfold inW
      rw [decide_eq_false (by omega)]
      simp
    rw [e2, List.append_nil]
theorem hits_rise (k n c F t : Int) (hk : 1 ≤ k) (M : Nat) : (hits F t (allJ k n c M)).Pairwise (· < ·) := List.Pairwise.filter _ (rise_all k n c hk M)
theorem hits_len (k n c F t : Int) (M : Nat) : (hits F t (allJ k n c M)).length ≤ M := by
  refine Nat.le_trans (List.length_filter_le _ _) ?_
  simp [allJ]

/-- what expand has laid -/
structure EX (z0 : Nat) (k : Int) (M : Nat) (n c F t : Int) (w : World) : Prop where
  ev : w.heap[z0]? = some (.cells #[.string ⟨#[120]⟩, .string ⟨#[]⟩, .int .i64 (n * 86400 + c), .bool false, .bool false, .int .i64 0, .int .i64 1, .int .i64 k, .int .i64 M, .int .i64 0, .bool false, .slice none 0 0, .slice none 0 0, .slice none 0 0, .slice none 0 0, .int .i64 0, .slice none 0 0, .slice none 0 0] 32 (0, 0))
  wn : w.heap[z0 + 1]? = some (.cells #[.int .i64 F, .int .i64 t] 55 (0, 0))
  mo : w.heap[z0 + 1 + 1]? = some (.cells #[.int .i64 1000] 3 (0, 0))
theorem EX.same {z0 : Nat} {k : Int} {M : Nat} {n c F t : Int} {w w' : World} (h : EX z0 k M n c F t w) (hs : ∀ b, b = z0 ∨ b = z0 + 1 ∨ b = z0 + 2 → w'.heap[b]? = w.heap[b]?) : EX z0 k M n c F t w' :=
  ⟨(hs _ (by simp)).trans h.ev, (hs _ (by simp)).trans h.wn, (hs (z0 + 1 + 1) (by simp)).trans h.mo⟩
theorem own_nocell {w w' : World} {B : Nat} {v : Value} {m : Nat} {xs : List Value} {row : Option Nat} (h : w.ownsRow B 3 1 v m xs) (hg : w.grownBy w' row) (hr : ∀ r, row = some r → ∃ o : Obj, w.heap[r]? = some o ∧ o.isCells = false) : w'.ownsRow B 3 1 v m xs := by
  refine h.kept hg ?_
  rcases h.2 with ⟨h0, _⟩ | ⟨g, cap, cur, h1, _, h3, _⟩
  · left; rw [h0]; rfl
  · right
    rw [h1]
    intro e
    obtain ⟨o, ho, hn⟩ := hr g e.symm
    rw [h3] at ho
    cases ho
    cases hn

theorem own_base {w : World} {B B' : Nat} {v : Value} {m : Nat} {xs : List Value} (h : w.ownsRow B 3 1 v m xs) (hb : B' ≤ B) : w.ownsRow B' 3 1 v m xs := by
  refine ⟨h.1, ?_⟩
  rcases h.2 with h0 | ⟨g, cap, cur, h1, h2, h3⟩
  · exact .inl h0
  · exact .inr ⟨g, cap, cur, h1, Nat.le_trans hb h2, h3⟩
/-- how far expand is, by the dates that have come -/
structure IH (z z0 : Nat) (k n c f t : Int) (w3 : World) (pre : List Int) (w : World) : Prop where
  is : pre = (List.range pre.length).map (atJ k n c)
  out : ∃ v, w.heap[z0 + 3]? = some (.cells #[v] 27 (0, 0)) ∧ w.ownsRow (z + 8) 3 1 v (hits f t pre).length ((hits f t pre).map (Value.int .i64))
  sz : z ≤ w.heap.size
  old : ∀ b, b < z → b ≠ z0 + 3 → w.heap[b]? = w3.heap[b]?
  s3 : w.os = w3.os ∧ w.tape = w3.tape ∧ w.output = w3.output
theorem IH.own {z z0 : Nat} {k n c f t : Int} {w3 : World} (hz : z0 + 3 < z) : OwnFrom z (IH z z0 k n c f t w3) := by
  rintro pre A B row h hg hr
  obtain ⟨v, hv, ho⟩ := h.out
  have hne : ∀ b, b < z → some b ≠ row := fun b hb e => by have := (hr b e.symm).1; omega
  exact ⟨h.is, ⟨v, (hg.block _ (hlt hv) (hne _ hz)).trans hv, own_nocell ho hg (fun r e => (hr r e).2)⟩, Nat.le_trans h.sz hg.size, fun b hb hb3 => (hg.block b (Nat.lt_of_lt_of_le hb h.sz) (hne b hb)).trans (h.old b hb hb3), ⟨hg.os.trans h.s3.1, hg.tape.trans h.s3.2.1, hg.output.trans h.s3.2.2⟩⟩
theorem IH.told {z z0 q : Nat} {k n c f t : Int} {w3 A B : World} {pre : List Int} (h : IH z z0 k n c f t w3 pre A) (hg : A.grownBy B (some q)) (hq1 : z ≤ q) (hq2 : q < z + 8) (hz : z0 + 3 < z) : IH z z0 k n c f t w3 pre B := by
  obtain ⟨v, hv, ho⟩ := h.out
  refine ⟨h.is, ⟨v, (hg.block _ (hlt hv) (by simp; omega)).trans hv, ho.kept hg ?_⟩, Nat.le_trans h.sz hg.size, fun b hb hb3 => (hg.block b (Nat.lt_of_lt_of_le hb h.sz) (by simp; omega)).trans (h.old b hb hb3), ⟨hg.os.trans h.s3.1, hg.tape.trans h.s3.2.1, hg.output.trans h.s3.2.2⟩⟩
  rcases ho.2 with ⟨h0, _⟩ | ⟨g, cap, cur, h1, h2, _⟩
  · left; rw [h0]; rfl
  · right; rw [h1]; intro e; have : g = q := by simpa [Value.ownBlock] using e
    omega

set_option maxRecDepth 100000 in
set_option maxHeartbeats 8000000 in
theorem expand_in (k : Int) (M : Nat) (n c nf cf t : Int) (w : World) (ht : Tab w) (h1 : -25567 ≤ n) (h2 : n ≤ 84005) (h3 : 0 ≤ c) (h4 : c < 86400)
    (hk : 1 ≤ k) (hk9 : k ≤ 1000) (hM1 : 1 ≤ M) (hM2 : M ≤ 1000) (hMb : ∀ j : Nat, j < M → n + k * j ≤ 84005) (hf1 : -200000 ≤ nf) (hf2 : nf ≤ 200000) (hf3 : 0 ≤ cf) (hf4 : cf < 86400) :
    CallsIn Fence.wide 9 Tryz.prog 18 #[.agg #[.string ⟨#[120]⟩, .string ⟨#[]⟩, .int .i64 (n * 86400 + c), .bool false, .bool false, .int .i64 0, .int .i64 1, .int .i64 k, .int .i64 M, .int .i64 0, .bool false, .slice none 0 0, .slice none 0 0, .slice none 0 0, .slice none 0 0, .int .i64 0, .slice none 0 0, .slice none 0 0], .agg #[.int .i64 (nf * 86400 + cf), .int .i64 t], .int .i64 1000] w fun e w' => ∃ v, e = .returned v ∧ w'.ownsRow w.heap.size 3 1 v (hits (nf * 86400 + cf) t (allJ k n c M)).length ((hits (nf * 86400 + cf) t (allJ k n c M)).map (Value.int .i64)) ∧ Below w.heap.size w w' := by
  have HR : Hid (∀ wx, Below w.heap.size w wx → Calls Tryz.prog 35 #[.agg #[.string ⟨#[120]⟩, .string ⟨#[]⟩, .int .i64 (n * 86400 + c), .bool false, .bool false, .int .i64 0, .int .i64 1, .int .i64 k, .int .i64 M, .int .i64 0, .bool false, .slice none 0 0, .slice none 0 0, .slice none 0 0, .slice none 0 0, .int .i64 0, .slice none 0 0, .slice none 0 0], .int .i64 (nf * 86400 + cf)] wx fun e w' => DatesAt wx.heap.size k M n c (nf * 86400 + cf) e w' ∧ Below wx.heap.size wx w') := fun wx hb => ruleDates_at k M n c _ wx (ht.below hb) h1 h2 h3 h4
  obtain ⟨F, hFe0⟩ : ∃ F, F = nf * 86400 + cf := ⟨_, rfl⟩
  have hFe : Hid (F = nf * 86400 + cf) := hFe0
  rw [← hFe0] at HR ⊢
  have hF1 : -20000000000 ≤ F := by omega
  have hF2 : F ≤ 20000000000 := by omega
  clear hFe0
  obtain ⟨i0, hi0, hz0, hz1, hz2⟩ := info_parts intInfo
  refine callsIn_of_wp_marks Tryz.func18 rfl trivial ?_ rfl
  simp only [Tryz.ntmps18, List.size_toArray, List.length_cons, List.length_nil, Nat.reduceAdd, Nat.reduceSub, Array.replicate_succ, Array.replicate_zero, List.push_toArray, List.append_toArray, List.nil_append, List.cons_append]
  refine wpIn_wide.2 ?_
  go_upto_region 2 with fail
  have HFD : Hid (∃ nf cf : Int, F = nf * 86400 + cf ∧ -200000 ≤ nf ∧ nf ≤ 200000 ∧ 0 ≤ cf ∧ cf < 86400) := ⟨nf, cf, hFe.out, hf1, hf2, hf3, hf4⟩
  have hEX : EX w.heap.size k M n c F t ((((w.alloc (.cells #[.string ⟨#[120]⟩, .string ⟨#[]⟩, .int .i64 (n * 86400 + c), .bool false, .bool false, .int .i64 0, .int .i64 1, .int .i64 k, .int .i64 M, .int .i64 0, .bool false, .slice none 0 0, .slice none 0 0, .slice none 0 0, .slice none 0 0, .int .i64 0, .slice none 0 0, .slice none 0 0] 32)).alloc (.cells #[.int .i64 F, .int .i64 t] 55)).alloc (.cells #[.int .i64 1000] 3)).alloc (.cells #[.slice none 0 0] 27)) := by
    refine ⟨?_, ?_, ?_⟩
    · exact (Below.heap_alloc _ _ _ (by simp only [World.size_alloc]; omega)).trans ((Below.heap_alloc _ _ _ (by simp only [World.size_alloc]; omega)).trans ((Below.heap_alloc _ _ _ (by simp only [World.size_alloc]; omega)).trans (heap_alloc_new w _)))
    · exact (Below.heap_alloc _ _ _ (by simp only [World.size_alloc]; omega)).trans ((Below.heap_alloc _ _ _ (by simp only [World.size_alloc]; omega)).trans (heap_alloc2 w _ _))
    · have := heap_alloc2 (w.alloc (.cells #[.string ⟨#[120]⟩, .string ⟨#[]⟩, .int .i64 (n * 86400 + c), .bool false, .bool false, .int .i64 0, .int .i64 1, .int .i64 k, .int .i64 M, .int .i64 0, .bool false, .slice none 0 0, .slice none 0 0, .slice none 0 0, .slice none 0 0, .int .i64 0, .slice none 0 0, .slice none 0 0] 32)) (.cells #[.int .i64 F, .int .i64 t] 55) (.cells #[.int .i64 1000] 3)
      rw [World.size_alloc] at this
      exact (Below.heap_alloc _ _ _ (by simp only [World.size_alloc]; omega)).trans this
  have hO : ((((w.alloc (.cells #[.string ⟨#[120]⟩, .string ⟨#[]⟩, .int .i64 (n * 86400 + c), .bool false, .bool false, .int .i64 0, .int .i64 1, .int .i64 k, .int .i64 M, .int .i64 0, .bool false, .slice none 0 0, .slice none 0 0, .slice none 0 0, .slice none 0 0, .int .i64 0, .slice none 0 0, .slice none 0 0] 32)).alloc (.cells #[.int .i64 F, .int .i64 t] 55)).alloc (.cells #[.int .i64 1000] 3)).alloc (.cells #[.slice none 0 0] 27)).heap[w.heap.size + 3]? = some (.cells #[.slice none 0 0] 27 (0, 0)) := by
    have := heap_alloc2 ((w.alloc (.cells #[.string ⟨#[120]⟩, .string ⟨#[]⟩, .int .i64 (n * 86400 + c), .bool false, .bool false, .int .i64 0, .int .i64 1, .int .i64 k, .int .i64 M, .int .i64 0, .bool false, .slice none 0 0, .slice none 0 0, .slice none 0 0, .slice none 0 0, .int .i64 0, .slice none 0 0, .slice none 0 0] 32)).alloc (.cells #[.int .i64 F, .int .i64 t] 55)) (.cells #[.int .i64 1000] 3) (.cells #[.slice none 0 0] 27)
    rw [World.size_alloc, World.size_alloc] at this
    exact this
  have hb4 : Below w.heap.size w ((((w.alloc (.cells #[.string ⟨#[120]⟩, .string ⟨#[]⟩, .int .i64 (n * 86400 + c), .bool false, .bool false, .int .i64 0, .int .i64 1, .int .i64 k, .int .i64 M, .int .i64 0, .bool false, .slice none 0 0, .slice none 0 0, .slice none 0 0, .slice none 0 0, .int .i64 0, .slice none 0 0, .slice none 0 0] 32)).alloc (.cells #[.int .i64 F, .int .i64 t] 55)).alloc (.cells #[.int .i64 1000] 3)).alloc (.cells #[.slice none 0 0] 27)) := ((((Below.refl _ _).alloc (Nat.le_refl _) _).alloc (by simp only [World.size_alloc]; omega) _).alloc (by simp only [World.size_alloc]; omega) _).alloc (by simp only [World.size_alloc]; omega) _
  have hz4 : ((((w.alloc (.cells #[.string ⟨#[120]⟩, .string ⟨#[]⟩, .int .i64 (n * 86400 + c), .bool false, .bool false, .int .i64 0, .int .i64 1, .int .i64 k, .int .i64 M, .int .i64 0, .bool false, .slice none 0 0, .slice none 0 0, .slice none 0 0, .slice none 0 0, .int .i64 0, .slice none 0 0, .slice none 0 0] 32)).alloc (.cells #[.int .i64 F, .int .i64 t] 55)).alloc (.cells #[.int .i64 1000] 3)).alloc (.cells #[.slice none 0 0] 27)).heap.size = w.heap.size + 4 := by simp
  revert hEX hO hb4 hz4
  generalize ((((w.alloc (.cells #[.string ⟨#[120]⟩, .string ⟨#[]⟩, .int .i64 (n * 86400 + c), .bool false, .bool false, .int .i64 0, .int .i64 1, .int .i64 k, .int .i64 M, .int .i64 0, .bool false, .slice none 0 0, .slice none 0 0, .slice none 0 0, .slice none 0 0, .int .i64 0, .slice none 0 0, .slice none 0 0] 32)).alloc (.cells #[.int .i64 F, .int .i64 t] 55)).alloc (.cells #[.int .i64 1000] 3)).alloc (.cells #[.slice none 0 0] 27)) = W0
  intro hEX hO hb4 hz4
  have hr := range_app [] [.string ⟨#[120]⟩, .string ⟨#[]⟩, .int .i64 (n * 86400 + c), .bool false, .bool false, .int .i64 0, .int .i64 1, .int .i64 k, .int .i64 M, .int .i64 0, .bool false, .slice none 0 0, .slice none 0 0, .slice none 0 0, .slice none 0 0, .int .i64 0, .slice none 0 0, .slice none 0 0] hEX.ev
  have e5 := hc hEX.ev 5 rfl
  have w0 := hc hEX.wn 0 rfl
  refine wp_region_lit ?_
  refine wpList_load_mid (by rfl) 32 (.tmp 3) (by rfl) w.heap.size 0 (by rfl) [.string ⟨#[120]⟩, .string ⟨#[]⟩, .int .i64 (n * 86400 + c), .bool false, .bool false, .int .i64 0, .int .i64 1, .int .i64 k, .int .i64 M, .int .i64 0, .bool false, .slice none 0 0, .slice none 0 0, .slice none 0 0, .slice none 0 0, .int .i64 0, .slice none 0 0, .slice none 0 0] _ hr Tryz.underlying32 rfl (by kernel_rfl) ?_
  simp only [Act.put, List.setIfInBounds_toArray, List.set_cons_zero, List.set_cons_succ]
  clear hr
  have cR := HR.out W0 hb4
  go_wp2_with (go_at_call 35; refine cR.mono ?_; clear cR; rintro e w3 ⟨⟨Q, X0, Yf, Zs, y, m, d, wd, rfl, hD, hZ, b1, b2, b3, b4⟩, hb3⟩)
  have hEX3 := hEX.same (fun b hb => hb3.block b (by omega))
  have hO3 := hbel hO hb3
  have hz3 := hb3.size
  have hbw3 : Below w.heap.size w w3 := hb4.trans (hb3.mono hb4.size)
  have hQl := hlt hD.ser
  have hXl := hlt hD.px
  have hYl := hlt hD.py
  have hZl := hlt hZ
  clear HR hEX hO hb4 e5 w0 hb3
  refine (wpIn_wide (n := 6)).1 ?_
  refine wpIn_rangeFunc_rawN (α := Int) (gf := 120) (lb := #[.pointer (some ⟨X0, 0, none⟩), .pointer (some ⟨Yf, 0, none⟩), .pointer (some ⟨Zs, 0, none⟩)]) rfl (by omega) rfl trivial (enters_of Tryz.func120 (by kernel_rfl) rfl)
    (encs := fun x : Int => #[.int .i64 x]) (Pre := fun pre x => x = (n + k * pre.length) * 86400 + c ∧ pre.length < M)
    (Kp := fun A B => A.heap.size ≤ B.heap.size ∧ (∀ b, b < w3.heap.size + 8 → b ≠ w.heap.size + 3 → b ≠ w3.heap.size + 1 → B.heap[b]? = A.heap[b]?) ∧ (∀ b o, w3.heap.size + 2 ≤ b → A.heap[b]? = some o → o.isCells = false → B.heap[b]? = some o)) (S := fun xs => xs.length = M) (Sp := fun _ => True) (w3.heap.size + 8)
    (IH w3.heap.size w.heap.size k n c F t w3)
    (fun cd pre W' => cd = .exit 0 ∧ IH w3.heap.size w.heap.size k n c F t w3 pre W' ∧ ∃ p x, pre = p ++ [x] ∧ t ≤ x ∧ p.length < M) (IH.own (by omega)) ?hIx ⟨rfl, ⟨_, hO3, World.ownsRow_nil _ _ _ _⟩, Nat.le_refl _, fun _ _ _ => rfl, ⟨rfl, rfl, rfl⟩⟩
    ?hseq ?hKt ?hKb (fun _ => rfl)
    (fun x a' _ => a' = { tmps := #[.agg #[.string ⟨#[120]⟩, .string ⟨#[]⟩, .int .i64 (n * 86400 + c), .bool false, .bool false, .int .i64 0, .int .i64 1, .int .i64 k, .int .i64 M, .int .i64 0, .bool false, .slice none 0 0, .slice none 0 0, .slice none 0 0, .slice none 0 0, .int .i64 0, .slice none 0 0, .slice none 0 0], .agg #[.int .i64 F, .int .i64 t], .int .i64 1000, .pointer (some ⟨w.heap.size, 0, none⟩), .pointer (some ⟨w.heap.size + 1, 0, none⟩), .pointer (some ⟨w.heap.size + 1 + 1, 0, none⟩), .slice none 0 0, .pointer (some ⟨w.heap.size + 1 + 1 + 1, 0, none⟩), .int .i64 x, undef, undef, .agg #[.string ⟨#[120]⟩, .string ⟨#[]⟩, .int .i64 (n * 86400 + c), .bool false, .bool false, .int .i64 0, .int .i64 1, .int .i64 k, .int .i64 M, .int .i64 0, .bool false, .slice none 0 0, .slice none 0 0, .slice none 0 0, .slice none 0 0, .int .i64 0, .slice none 0 0, .slice none 0 0], .pointer (some ⟨w.heap.size + 1, 0, none⟩), .int .i64 F, .pointer (some ⟨w.heap.size, 5, none⟩), .int .i64 0, .int .i64 F, .func (.func 120) #[] #[.pointer (some ⟨X0, 0, none⟩), .pointer (some ⟨Yf, 0, none⟩), .pointer (some ⟨Zs, 0, none⟩)], .int .i64 x, undef, undef, undef, undef, undef, undef, undef, undef, undef, undef, undef, undef, undef, undef, undef, undef, undef, undef, undef, undef, undef, undef, undef, undef, undef, undef, undef, undef, undef, undef, undef, undef, undef, undef, undef, undef, undef, undef, undef, undef, undef, undef, undef, undef, undef, undef, undef, undef, undef, undef, undef, undef, undef, undef], defers := [] }) (fun _ _ _ _ _ _ hs _ _ => hs) ?assign ?body ?done ?stop
  case hIx =>
    rintro cd s A B row ⟨h1, h2, h3⟩ hg hr
    exact ⟨h1, IH.own (by omega) _ A B row h2 hg hr, h3⟩
  case hseq =>
    intro W1 oR oD oX hr1 hr2 hd1 hd2 hxx hb1 hz1
    obtain ⟨nf, cf, hFe, hf1, hf2, hf3, hf4⟩ := HFD.out
    have hD1 := hD.below hb1
    rw [hFe] at hD1
    have e8 : w3.heap.size + 8 = W1.heap.size + 6 := by omega
    rw [e8]
    refine dates1_in _ Q X0 Yf Zs M k n c y m d wd nf cf _ _ _ W1 hk hk9 hM1 hM2 h1 h2 h3 h4 hf1 hf2 hf3 hf4 hMb hD1 (hbel hZ hb1) ?_ ?_ ?_ ?_
    · rintro A B ⟨g1, g2, g3⟩
      exact ⟨g1, fun b hb => g2 b (by omega) (by omega) (by omega), fun b o hb => g3 b o (by omega)⟩
    · rintro s A B row ⟨g1, g2, g3⟩ hg hr
      have hne : ∀ b, b < w3.heap.size + 2 → some b ≠ row := fun b hb e => by have := (hr b e.symm).1; omega
      exact ⟨IH.own (by omega) _ A B row g1 hg (fun r e => ⟨by have := (hr r e).1; omega, (hr r e).2⟩), (hg.block _ (hlt g2) (hne _ (by omega))).trans g2, (hg.block _ (hlt g3) (hne _ (by omega))).trans g3⟩
    · rintro s A B row ⟨cd, ⟨g0, g1, g4⟩, g2, g3⟩ hg hr
      have hne : ∀ b, b < w3.heap.size + 2 → some b ≠ row := fun b hb e => by have := (hr b e.symm).1; omega
      exact ⟨cd, ⟨g0, IH.own (by omega) _ A B row g1 hg (fun r e => ⟨by have := (hr r e).1; omega, (hr r e).2⟩), g4⟩, (hg.block _ (hlt g2) (hne _ (by omega))).trans g2, (hg.block _ (hlt g3) (hne _ (by omega))).trans g3⟩
    · rintro pre A B ⟨g1, g2, g3⟩ hg
      exact ⟨g1.told hg (by omega) (by omega) (by omega), (hg.block _ (hlt g2) (by simp; omega)).trans g2, (hg.block _ (hlt g3) (by simp; omega)).trans g3⟩
  case hKt =>
    rintro A B C ⟨h1, h2, h3⟩ ⟨h4, h5, h6⟩
    exact ⟨Nat.le_trans h1 h4, fun b q1 q2 q3 => (h5 b q1 q2 q3).trans (h2 b q1 q2 q3), fun b o q1 q2 q3 => h6 b o q1 (h3 b o q1 q2 q3) q3⟩
  case hKb =>
    intro A o o' h1 _ _
    exact ⟨by rw [World.putObj_size]; exact Nat.le_refl _, fun b _ _ hb => World.putObj_heap_other (by omega), fun b o hb ho _ => (World.putObj_heap_other (by omega)).trans ho⟩
  case assign =>
    intro l2 pre x A K hIp hPre hN hK
    clear hPre
    gi_wp2
    exact hK _ A (KeepsFrom.refl _ _) ⟨Nat.le_refl _, fun _ _ _ _ => rfl, fun _ _ _ h _ => h⟩ hIp rfl
  case body =>
    rintro l2 pre x a' A hzl hloop hI rfl ⟨hx, hlM⟩ hN8
    have hbM := hMb pre.length hlM
    have hnn : 0 ≤ k * (pre.length : Int) := Int.mul_nonneg (by omega) (by omega)
    have hx1 : -20000000000 ≤ x := by omega
    have hx2 : x ≤ 20000000000 := by omega
    have hIs : pre ++ [x] = (List.range (pre ++ [x]).length).map (atJ k n c) := by
      rw [List.length_append, List.length_singleton, List.range_succ, List.map_append, ← hI.is]
      simp [atJ, hx]
    have hle : (hits F t pre).length ≤ pre.length := List.length_filter_le _ _
    have hEXA := hEX3.same (fun b hb => hI.old b (by omega) (by omega))
    clear hx hbM hnn
    obtain ⟨v, hv, ho⟩ := hI.out
    have hno : inW F t x = false → hits F t (pre ++ [x]) = hits F t pre := fun h => by unfold hits; rw [List.filter_append]; simp [h]
    have hyes : inW F t x = true → hits F t (pre ++ [x]) = hits F t pre ++ [x] := fun h => by unfold hits; rw [List.filter_append]; simp [h]
    have w1 := hc hEXA.wn 1 rfl
    have w0 := hc hEXA.wn 0 rfl
    by_cases htx : t ≤ x
    · have hfalse : inW F t x = false := by unfold inW; rw [decide_eq_false (by omega)]; rfl
      have HF : Hid (IH w3.heap.size w.heap.size k n c F t w3 (pre ++ [x]) A) := ⟨hIs, ⟨v, hv, by rw [hno hfalse]; exact ho⟩, hI.sz, hI.old, hI.s3⟩
      clear hIs hno hyes hfalse hI
      gi_wp2
      exact ⟨KeepsFrom.refl _ _, ⟨Nat.le_refl _, fun _ _ _ _ => rfl, fun _ _ _ h _ => h⟩, rfl, HF.out, pre, x, rfl, htx, hlM⟩
    · have o0 : A.cell? ⟨w.heap.size + 1 + 1 + 1, 0, none⟩ = some v := hc hv 0 rfl
      have m0 := hc hEXA.mo 0 rfl
      have e5 := hc hEXA.ev 5 rfl
      obtain ⟨va, vc, rfl⟩ : ∃ va vc, v = .slice va (hits F t pre).length vc := by
        rcases ho.2 with ⟨h0, h00⟩ | ⟨g, cap, cur, h1, _⟩
        · exact ⟨none, 0, by rw [h0, h00]⟩
        · exact ⟨_, _, h1⟩
      have hle2 : ¬ ((1000 : Int) < ((hits F t pre).length : Nat)) := by omega
      have cw := whas F t x A hx1 hx2
      gi_wp2_with fail
      refine ⟨trivial, ?_⟩
      gi_at_call 36
      refine (CallsIn.inRound l2 (callsIn_wide.2 cw)).mono ?_
      clear cw
      rintro e w5 ⟨rfl, hb5⟩
      have hsA := hI.sz
      have hEX5 := hEXA.same (fun b hb => hb5.block b (by omega))
      have hv5 := hbel hv hb5
      have ho5 := ho.kept (gb_of_below hb5 none) (Classical.em _)
      have o5 : w5.cell? ⟨w.heap.size + 1 + 1 + 1, 0, none⟩ = some (.slice va (hits F t pre).length vc) := hc hv5 0 rfl
      have e17 := hc hEX5.ev 17 rfl
      have HI : Hid (IH w3.heap.size w.heap.size k n c F t w3 pre A) := hI
      have HIs : Hid (pre ++ [x] = (List.range (pre ++ [x]).length).map (atJ k n c)) := hIs
      have Hno : Hid (inW F t x = false → hits F t (pre ++ [x]) = hits F t pre) := hno
      have Hyes : Hid (inW F t x = true → hits F t (pre ++ [x]) = hits F t pre ++ [x]) := hyes
      clear o0 m0 e5 w0 w1 hI hIs hno hyes hEXA
      cases hin : inW F t x
      · gi_wp2_with fail
        refine ⟨trivial, ?_⟩
        gi_wp2
        exact ⟨⟨hb5.size, fun b o hb ho' hn => hbel ho' hb5⟩, ⟨hb5.size, fun b q1 _ _ => hb5.block b (by omega), fun b o _ h _ => hbel h hb5⟩, HIs.out, ⟨_, hv5, by rw [Hno.out hin]; exact ho5⟩, Nat.le_trans hsA hb5.size, fun b q1 q2 => (hb5.block b (by omega)).trans (HI.out.old b q1 q2), ⟨hb5.os.trans HI.out.s3.1, hb5.tape.trans HI.out.s3.2.1, hb5.output.trans HI.out.s3.2.2⟩⟩
      · have cN := Tryz.slices_Contains_int_empty none 0 x w5
        gi_wp2_with fail
        refine ⟨trivial, ?_⟩
        gi_at_call 37
        refine (CallsIn.inRound l2 (callsIn_wide.2 cN)).mono ?_
        clear cN
        rintro e w5 ⟨rfl, rfl⟩
        have hz5 := hb5.size
        have hbase : ∀ q, (Value.slice va (hits F t pre).length vc).ownBlock = some q → w3.heap.size + 8 ≤ q := fun q hq => (ho5.lt q hq).1
        have hcell : ∀ q o, (Value.slice va (hits F t pre).length vc).ownBlock = some q → w5.heap[q]? = some o → o.isCells = true := fun q o hq ho' => by
          rcases ho5.2 with ⟨h0, _⟩ | ⟨g, cap, cur, h1, _, h3, _⟩
          · rw [h0] at hq; cases hq
          · rw [h1] at hq
            have : g = q := by simpa [Value.ownBlock] using hq
            subst this
            rw [h3] at ho'; cases ho'; rfl
        have hvO : w5.heap[w.heap.size + 3]? = some (.cells #[.slice va (hits F t pre).length vc] 27 (0, 0)) := hv5
        have hOl := hlt hvO
        gi_wp2_with (gi_at_builtin; refine wpListIn_append_own _ rfl _ _ 27 rfl (w3.heap.size + 8) 3 i0 (.int .i64 0) 1 8 Tryz.underlying27 hi0 hz0 hz1 hz2 rfl (by decide) _ _ _ rfl (ho5.alloc _) ⟨w5.heap.size, 0, none⟩ 1 1 [.int .i64 x] rfl rfl (World.news_of_block (heap_alloc_new _ _)) (by intro u hu; simp at hu; subst hu; rfl) (by unfold maxLen; omega) (by omega) (by simp; omega) ?_; intro v6 w6 ho6 hg6 _; obtain ⟨va6, vn6, vc6, rfl⟩ : ∃ a n c, v6 = Value.slice a n c := (by rcases ho6.2 with ⟨h, _⟩ | ⟨g, cap, cur, h, _⟩ <;> exact ⟨_, _, _, h⟩); have g0 : (w5.alloc (.cells #[.int .i64 x] 3)).heap[w.heap.size + 3]? = some (.cells #[.slice va (hits F t pre).length vc] 27 (0, 0)) := (Below.heap_alloc _ _ _ hOl).trans hvO; have hv6 := (hg6.block _ (hlt g0) (fun e => by have := hbase _ e.symm; omega)).trans g0; have o6 : w6.cell? ⟨w.heap.size + 1 + 1 + 1, 0, none⟩ = some (.slice va (hits F t pre).length vc) := hc hv6 0 rfl; have f6 : w6.frozen? ⟨w.heap.size + 1 + 1 + 1, 0, none⟩ = false := Lib.frozen_of_heap hv6 0)
        have gO := gb_set w6 (w.heap.size + 3) 0 (.slice va6 vn6 vc6)
        have hs6 := hg6.size
        simp only [World.size_alloc] at hs6
        have blk : ∀ b, b < w3.heap.size + 8 → b ≠ w.heap.size + 3 → (w6.setCell ⟨w.heap.size + 3, 0, none⟩ (.slice va6 vn6 vc6)).heap[b]? = A.heap[b]? := fun b q1 q2 =>
          (gO.block b (by omega) (by simp; omega)).trans ((hg6.block b (by simp; omega) (fun e => by have := hbase _ e.symm; omega)).trans ((Below.heap_alloc _ _ _ (by omega)).trans (hb5.block b (by omega))))
        have noc : ∀ b o, w3.heap.size ≤ b → A.heap[b]? = some o → o.isCells = false → (w6.setCell ⟨w.heap.size + 3, 0, none⟩ (.slice va6 vn6 vc6)).heap[b]? = some o := fun b o q1 q2 q3 => by
          have q4 := hbel q2 hb5
          have q5 := (Below.heap_alloc w5 (.cells #[.int .i64 x] 3) b (hlt q4)).trans q4
          have q6 := (hg6.block b (hlt q5) (fun e => by have := hcell b o e.symm q4; rw [q3] at this; cases this)).trans q5
          exact (gO.block b (hlt q6) (by simp; omega)).trans q6
        refine ⟨⟨by show _ ≤ (w6.setCell ⟨w.heap.size + 3, 0, none⟩ (.slice va6 vn6 vc6)).heap.size; have := gO.size; omega, fun b o q1 q2 q3 => noc b o q1 q2 q3⟩, ⟨by show _ ≤ (w6.setCell ⟨w.heap.size + 3, 0, none⟩ (.slice va6 vn6 vc6)).heap.size; have := gO.size; omega, fun b q1 q2 _ => blk b q1 q2, fun b o q1 q2 q3 => noc b o (by omega) q2 q3⟩, HIs.out, ⟨_, hset hv6 0 _, ?_⟩, by show _ ≤ (w6.setCell ⟨w.heap.size + 3, 0, none⟩ (.slice va6 vn6 vc6)).heap.size; have := gO.size; omega, fun b q1 q2 => (blk b (by omega) q2).trans (HI.out.old b q1 q2), ⟨gO.os.trans (hg6.os.trans (hb5.os.trans HI.out.s3.1)), gO.tape.trans (hg6.tape.trans (hb5.tape.trans HI.out.s3.2.1)), gO.output.trans (hg6.output.trans (hb5.output.trans HI.out.s3.2.2))⟩⟩
        rw [Hyes.out hin, List.length_append, List.map_append]
        exact ho6.kept gO (.inr (fun e => by have := (ho6.lt _ e).1; omega))
  case done =>
    rintro D xs W hDz hlen hIW hK
    have hhe : hits F t xs = hits F t (allJ k n c M) := by
      rw [hIW.is, hlen]; rfl
    obtain ⟨v, hv, ho⟩ := hIW.out
    have hEXW := hEX3.same (fun b hb => hIW.old b (by omega) (by omega))
    rw [hhe] at ho
    have hrise := hits_rise k n c F t hk M
    have hll := hits_len k n c F t M
    have hsW := hIW.sz
    have bW : Below w.heap.size w W := ⟨hIW.s3.1.trans hbw3.os, hIW.s3.2.1.trans hbw3.tape, hIW.s3.2.2.trans hbw3.output, by omega, fun b hb => (hIW.old b (by omega) (by omega)).trans (hbw3.block b hb)⟩
    have e16 := hc hEXW.ev 16 rfl
    have o0 : W.cell? ⟨w.heap.size + 1 + 1 + 1, 0, none⟩ = some v := hc hv 0 rfl
    have cS := own_sort ho hrise (by omega)
    clear hEXW hIW hhe hrise
    go_wp2_with fail
    refine wp_loop_rounds 1 ?_
    rw [rounds_succ]
    go_wp2_with (go_at_call 38; refine cS.mono ?_; clear cS; rintro e w7 ⟨rfl, hb7⟩; have hv7 := hbel hv hb7; have ho7 := ho.kept (gb_of_below hb7 none) (Classical.em _); have o7 : w7.cell? ⟨w.heap.size + 1 + 1 + 1, 0, none⟩ = some v := hc hv7 0 rfl; have cC := own_compact ho7 (hits_rise k n c F t hk M) (by have := hits_len k n c F t M; omega); have hK7 := hbel hK hb7; have bw7 := bW.trans (hb7.mono bW.size))
    clear o0 e16 hv ho hK bW hv7
    go_wp2_with (go_at_call 39; refine cC.mono ?_; clear cC; rintro e w8 ⟨rfl, hb8⟩; have ho8 := ho7.kept (gb_of_below hb8 none) (Classical.em _); have hK8 := hbel hK7 hb8; have bw8 := bw7.trans (hb8.mono bw7.size))
    refine ⟨by simp, .inl ⟨_, _, rfl, run_takeDeferred hK8, ?_⟩⟩
    have gD : w8.grownBy (w8.putObj D (.deferred none)) (some D) := ⟨rfl, rfl, rfl, by simp [World.putObj], fun k hk hkB => World.putObj_heap_other (fun e => hkB (by rw [e]))⟩
    have hDl : w.heap.size ≤ D := by omega
    exact ⟨v, by simp [results, Tryz.results18, go_sem], v, rfl, own_base (own_nocell ho8 gD (fun r e => ⟨_, by cases e; exact hK8, rfl⟩)) (by omega), ⟨bw8.os, bw8.tape, bw8.output, by simpa [World.putObj] using bw8.size, fun k hk => (World.putObj_heap_other (by omega)).trans (bw8.block k hk)⟩⟩
  case stop =>
    rintro D cx xs W hDz _ ⟨rfl, hIW, p, x, hpx, htx, hpM⟩ hK
    have hhe : hits F t xs = hits F t (allJ k n c M) := by
      have e1 : xs = allJ k n c xs.length := hIW.is
      rw [e1]
      refine hits_upto k n c F t hk xs.length M (by rw [hpx]; simp; omega) (.inr ⟨p, x, ?_, htx⟩)
      rw [← e1]; exact hpx
    obtain ⟨v, hv, ho⟩ := hIW.out
    have hEXW := hEX3.same (fun b hb => hIW.old b (by omega) (by omega))
    rw [hhe] at ho
    have hrise := hits_rise k n c F t hk M
    have hll := hits_len k n c F t M
    have hsW := hIW.sz
    have bW : Below w.heap.size w W := ⟨hIW.s3.1.trans hbw3.os, hIW.s3.2.1.trans hbw3.tape, hIW.s3.2.2.trans hbw3.output, by omega, fun b hb => (hIW.old b (by omega) (by omega)).trans (hbw3.block b hb)⟩
    have e16 := hc hEXW.ev 16 rfl
    have o0 : W.cell? ⟨w.heap.size + 1 + 1 + 1, 0, none⟩ = some v := hc hv 0 rfl
    have cS := own_sort ho hrise (by omega)
    clear hEXW hIW hhe hrise
    gi_wp2
    go_wp2_with fail
    refine wp_loop_rounds 1 ?_
    rw [rounds_succ]
    go_wp2_with (go_at_call 38; refine cS.mono ?_; clear cS; rintro e w7 ⟨rfl, hb7⟩; have hv7 := hbel hv hb7; have ho7 := ho.kept (gb_of_below hb7 none) (Classical.em _); have o7 : w7.cell? ⟨w.heap.size + 1 + 1 + 1, 0, none⟩ = some v := hc hv7 0 rfl; have cC := own_compact ho7 (hits_rise k n c F t hk M) (by have := hits_len k n c F t M; omega); have hK7 := hbel hK hb7; have bw7 := bW.trans (hb7.mono bW.size))
    clear o0 e16 hv ho hK bW hv7
    go_wp2_with (go_at_call 39; refine cC.mono ?_; clear cC; rintro e w8 ⟨rfl, hb8⟩; have ho8 := ho7.kept (gb_of_below hb8 none) (Classical.em _); have hK8 := hbel hK7 hb8; have bw8 := bw7.trans (hb8.mono bw7.size))
    refine ⟨by simp, .inl ⟨_, _, rfl, run_takeDeferred hK8, ?_⟩⟩
    have gD : w8.grownBy (w8.putObj D (.deferred none)) (some D) := ⟨rfl, rfl, rfl, by simp [World.putObj], fun k hk hkB => World.putObj_heap_other (fun e => hkB (by rw [e]))⟩
    have hDl : w.heap.size ≤ D := by omega
    exact ⟨v, by simp [results, Tryz.results18, go_sem], v, rfl, own_base (own_nocell ho8 gD (fun r e => ⟨_, by cases e; exact hK8, rfl⟩)) (by omega), ⟨bw8.os, bw8.tape, bw8.output, by simpa [World.putObj] using bw8.size, fun k hk => (World.putObj_heap_other (by omega)).trans (bw8.block k hk)⟩⟩
end Go.Proofs.YtmmnbdefkailpaaGreatDoor
