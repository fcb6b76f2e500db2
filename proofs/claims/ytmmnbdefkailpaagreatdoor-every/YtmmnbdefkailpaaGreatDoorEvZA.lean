/- Expand of an event that comes again by days. -/
import Derived.Test.YtmmnbdefkailpaaGreatDoorEvZ8
import Derived.Test.YtmmnbdefkailpaaGreatDoorEvZ2

namespace Go.Proofs.YtmmnbdefkailpaaGreatDoor
open Go.RowKit Cal
set_option linter.unusedVariables false

theorem own_form {w : World} {B : Nat} {v : Value} {m : Nat} {xs : List Value} (h : w.ownsRow B 3 1 v m xs) : ∃ va vc, v = Value.slice va m vc := by
  rcases h.2 with ⟨h0, h00⟩ | ⟨g, cap, cur, h1, _⟩
  · exact ⟨none, 0, by rw [h0, h00]⟩
  · exact ⟨_, _, h1⟩
set_option maxRecDepth 100000 in
set_option maxHeartbeats 8000000 in
theorem Expand_in (T ev ct A B : Int) (L : List Int) (w : World) (hL : L.length ≤ 1000)
    (cP : ∀ wx, Below w.heap.size w wx → Calls Tryz.prog 16 #[.agg #[.string ⟨#[120]⟩, .string ⟨#[]⟩, .int .i64 T, .bool false, .bool false, .int .i64 0, .int .i64 1, .int .i64 ev, .int .i64 ct, .int .i64 0, .bool false, .slice none 0 0, .slice none 0 0, .slice none 0 0, .slice none 0 0, .int .i64 0, .slice none 0 0, .slice none 0 0]] wx fun e w' => (∃ s, e = .returned (.tuple #[.string s, .int .i64 0])) ∧ Below wx.heap.size wx w')
    (cA : ∀ wx, Calls Tryz.prog 17 #[.int .i64 A] wx fun e w' => e = .returned (.bool true) ∧ w' = wx)
    (cB : ∀ wx, Calls Tryz.prog 17 #[.int .i64 B] wx fun e w' => e = .returned (.bool true) ∧ w' = wx)
    (cE : ∀ wx, Below w.heap.size w wx → Calls Tryz.prog 18 #[.agg #[.string ⟨#[120]⟩, .string ⟨#[]⟩, .int .i64 T, .bool false, .bool false, .int .i64 0, .int .i64 1, .int .i64 ev, .int .i64 ct, .int .i64 0, .bool false, .slice none 0 0, .slice none 0 0, .slice none 0 0, .slice none 0 0, .int .i64 0, .slice none 0 0, .slice none 0 0], .agg #[.int .i64 A, .int .i64 B], .int .i64 1000] wx fun e w' => ∃ v, e = .returned v ∧ w'.ownsRow wx.heap.size 3 1 v L.length (L.map (Value.int .i64)) ∧ Below wx.heap.size wx w') :
    Calls Tryz.prog 9 #[.agg #[.string ⟨#[120]⟩, .string ⟨#[]⟩, .int .i64 T, .bool false, .bool false, .int .i64 0, .int .i64 1, .int .i64 ev, .int .i64 ct, .int .i64 0, .bool false, .slice none 0 0, .slice none 0 0, .slice none 0 0, .slice none 0 0, .int .i64 0, .slice none 0 0, .slice none 0 0], .int .i64 A, .int .i64 B, .int .i64 1000] w fun e w' => ∃ v, e = .returned (.tuple #[v, .int .i64 0]) ∧ w'.ownsRow w.heap.size 3 1 v L.length (L.map (Value.int .i64)) ∧ Below w.heap.size w w' := by
  have CP : Hid (∀ wx, Below w.heap.size w wx → Calls Tryz.prog 16 #[.agg #[.string ⟨#[120]⟩, .string ⟨#[]⟩, .int .i64 T, .bool false, .bool false, .int .i64 0, .int .i64 1, .int .i64 ev, .int .i64 ct, .int .i64 0, .bool false, .slice none 0 0, .slice none 0 0, .slice none 0 0, .slice none 0 0, .int .i64 0, .slice none 0 0, .slice none 0 0]] wx fun e w' => (∃ s, e = .returned (.tuple #[.string s, .int .i64 0])) ∧ Below wx.heap.size wx w') := cP
  have CA : Hid (∀ wx, Calls Tryz.prog 17 #[.int .i64 A] wx fun e w' => e = .returned (.bool true) ∧ w' = wx) := cA
  have CB : Hid (∀ wx, Calls Tryz.prog 17 #[.int .i64 B] wx fun e w' => e = .returned (.bool true) ∧ w' = wx) := cB
  have CE : Hid (∀ wx, Below w.heap.size w wx → Calls Tryz.prog 18 #[.agg #[.string ⟨#[120]⟩, .string ⟨#[]⟩, .int .i64 T, .bool false, .bool false, .int .i64 0, .int .i64 1, .int .i64 ev, .int .i64 ct, .int .i64 0, .bool false, .slice none 0 0, .slice none 0 0, .slice none 0 0, .slice none 0 0, .int .i64 0, .slice none 0 0, .slice none 0 0], .agg #[.int .i64 A, .int .i64 B], .int .i64 1000] wx fun e w' => ∃ v, e = .returned v ∧ w'.ownsRow wx.heap.size 3 1 v L.length (L.map (Value.int .i64)) ∧ Below wx.heap.size wx w') := cE
  clear cP cA cB cE
  go_enter Tryz.func9, Tryz.ntmps9
  go_upto_region 1 with fail
  have hE0 := heap_alloc_new w (.cells #[.string ⟨#[120]⟩, .string ⟨#[]⟩, .int .i64 T, .bool false, .bool false, .int .i64 0, .int .i64 1, .int .i64 ev, .int .i64 ct, .int .i64 0, .bool false, .slice none 0 0, .slice none 0 0, .slice none 0 0, .slice none 0 0, .int .i64 0, .slice none 0 0, .slice none 0 0] 32)
  have hbw0 : Below w.heap.size w (w.alloc (.cells #[.string ⟨#[120]⟩, .string ⟨#[]⟩, .int .i64 T, .bool false, .bool false, .int .i64 0, .int .i64 1, .int .i64 ev, .int .i64 ct, .int .i64 0, .bool false, .slice none 0 0, .slice none 0 0, .slice none 0 0, .slice none 0 0, .int .i64 0, .slice none 0 0, .slice none 0 0] 32)) := (Below.refl _ _).alloc (Nat.le_refl _) _
  revert hE0 hbw0
  generalize w.alloc (.cells #[.string ⟨#[120]⟩, .string ⟨#[]⟩, .int .i64 T, .bool false, .bool false, .int .i64 0, .int .i64 1, .int .i64 ev, .int .i64 ct, .int .i64 0, .bool false, .slice none 0 0, .slice none 0 0, .slice none 0 0, .slice none 0 0, .int .i64 0, .slice none 0 0, .slice none 0 0] 32) = W0
  intro hE0 hbw0
  have hr0 := range_app [] [.string ⟨#[120]⟩, .string ⟨#[]⟩, .int .i64 T, .bool false, .bool false, .int .i64 0, .int .i64 1, .int .i64 ev, .int .i64 ct, .int .i64 0, .bool false, .slice none 0 0, .slice none 0 0, .slice none 0 0, .slice none 0 0, .int .i64 0, .slice none 0 0, .slice none 0 0] hE0
  refine wp_region_lit ?_
  refine wpList_load_mid (by rfl) 32 (.tmp 4) (by rfl) w.heap.size 0 (by rfl) [.string ⟨#[120]⟩, .string ⟨#[]⟩, .int .i64 T, .bool false, .bool false, .int .i64 0, .int .i64 1, .int .i64 ev, .int .i64 ct, .int .i64 0, .bool false, .slice none 0 0, .slice none 0 0, .slice none 0 0, .slice none 0 0, .int .i64 0, .slice none 0 0, .slice none 0 0] _ hr0 Tryz.underlying32 rfl (by kernel_rfl) ?_
  simp only [Act.put, List.setIfInBounds_toArray, List.set_cons_zero, List.set_cons_succ]
  clear hr0
  go_upto_region 6 with (first
    | (go_at_call 16; refine (CP.out _ hbw0).mono ?_; clear CP; rintro e w1 ⟨⟨s, rfl⟩, hb1⟩; have hE1 := hbel hE0 hb1; have hbw1 : Below w.heap.size w w1 := hbw0.trans (hb1.mono hbw0.size); clear hb1 hE0 hbw0)
    | (go_at_call 17; refine (CA.out _).mono ?_; clear CA; rintro e wz ⟨rfl, rfl⟩)
    | (go_at_call 17; refine (CB.out _).mono ?_; clear CB; rintro e wz ⟨rfl, rfl⟩))
  have hr1 := range_app [] [.string ⟨#[120]⟩, .string ⟨#[]⟩, .int .i64 T, .bool false, .bool false, .int .i64 0, .int .i64 1, .int .i64 ev, .int .i64 ct, .int .i64 0, .bool false, .slice none 0 0, .slice none 0 0, .slice none 0 0, .slice none 0 0, .int .i64 0, .slice none 0 0, .slice none 0 0] hE1
  refine wp_region_lit ?_
  refine wpList_load_mid (by rfl) 32 (.tmp 4) (by rfl) w.heap.size 0 (by rfl) [.string ⟨#[120]⟩, .string ⟨#[]⟩, .int .i64 T, .bool false, .bool false, .int .i64 0, .int .i64 1, .int .i64 ev, .int .i64 ct, .int .i64 0, .bool false, .slice none 0 0, .slice none 0 0, .slice none 0 0, .slice none 0 0, .int .i64 0, .slice none 0 0, .slice none 0 0] _ hr1 Tryz.underlying32 rfl (by kernel_rfl) ?_
  simp only [Act.put, List.setIfInBounds_toArray, List.set_cons_zero, List.set_cons_succ]
  clear hr1
  have hle2 : ¬ ((1000 : Int) < (L.length : Nat)) := by omega
  go_wp2_with (go_at_call 18; refine (CE.out _ hbw1).mono ?_; clear CE; rintro e w2 ⟨v, rfl, ho, hb2⟩; have hbw2 : Below w.heap.size w w2 := hbw1.trans (hb2.mono hbw1.size); obtain ⟨va, vc, rfl⟩ : ∃ va vc, v = Value.slice va L.length vc := own_form ho)
  go_ret2
  exact ⟨_, rfl, own_base ho hbw1.size, hbw2⟩
theorem Expand_at {n : Int} (hn1 : -25567 ≤ n) (hn2 : n ≤ 84005) {y mo d : Nat} (ey : dY n = y) (em : dM n = mo) (ed : dD n = d) (hy1 : 1000 ≤ y) (hy : y < 10000) (hm : mo < 100) (hd : d < 100) {k m : Nat} (hk1 : 1 ≤ k) (hk : k < 100) (hm1 : 1 ≤ m) (hm2 : m < 100)
    (hMb : ∀ j : Nat, j < m → n + (k : Int) * j ≤ 84005) (a b : Int) (ha1 : -25567 ≤ a) (ha2 : a ≤ 84005) (hb1 : -25567 ≤ b) (hb2 : b ≤ 84005) (w : World) (hw : GW w) :
    Calls Tryz.prog 9 #[.agg (evA n k m), .int .i64 (a * 86400), .int .i64 (b * 86400), .int .i64 1000] w fun e w' => ∃ v, e = .returned (.tuple #[v, .int .i64 0]) ∧ w'.ownsRow w.heap.size 3 1 v (hits (a * 86400) (b * 86400) (allJ k n 43200 m)).length ((hits (a * 86400) (b * 86400) (allJ k n 43200 m)).map (Value.int .i64)) ∧ Below w.heap.size w w' := by
  refine Expand_in (n * 86400 + 43200) k m (a * 86400) (b * 86400) _ w (Nat.le_trans (hits_len _ _ _ _ _ _) (by omega)) ?_ ?_ ?_ ?_
  · intro wx hbx
    by_cases h1 : k = 1
    · subst h1; exact Print2 hn1 hn2 ey em ed hy1 hy hm hd hm1 hm2 wx (hw.below hbx)
    · exact Print3 hn1 hn2 ey em ed hy1 hy hm hd (by omega) hk hm1 hm2 wx (hw.below hbx)
  · intro wx
    have := isTime_yes a 0 wx ha1 ha2 (by omega) (by omega)
    rwa [Int.add_zero] at this
  · intro wx
    have := isTime_yes b 0 wx hb1 hb2 (by omega) (by omega)
    rwa [Int.add_zero] at this
  · intro wx hbx
    have := callsIn_wide.1 (expand_in k m n 43200 a 0 (b * 86400) wx (hw.below hbx).gv.tab hn1 hn2 (by omega) (by omega) (by omega) (by omega) hm1 (by omega) hMb (by omega) (by omega) (by omega) (by omega))
    rw [Int.add_zero] at this
    exact this
end Go.Proofs.YtmmnbdefkailpaaGreatDoor

/- The harness: pick, two. -/
namespace Go.Proofs.YtmmnbdefkailpaaGreatDoor
open Go.RowKit Cal
set_option linter.unusedVariables false

def pk (c n : Int) : Int := if c < 0 then (-(c + 1)) % n else c % n
theorem pk_bd {c n : Int} (h : 1 ≤ n) : 0 ≤ pk c n ∧ pk c n < n := by
  unfold pk; split
  · exact ⟨Int.emod_nonneg _ (by omega), Int.emod_lt_of_pos _ (by omega)⟩
  · exact ⟨Int.emod_nonneg _ (by omega), Int.emod_lt_of_pos _ (by omega)⟩

theorem pick_any (c n : Int) (w : World) (h1 : -9223372036854775807 ≤ c + 1) (h2 : c ≤ 9223372036854775807) (h3 : 1 ≤ n) (h4 : n ≤ 1000000) :
    Calls Tryz.prog 4 #[.int .i64 c, .int .i64 n] w fun e w' => e = .returned (.int .i64 (pk c n)) ∧ w' = w := by
  by_cases hc : c < 0
  · have e : pk c n = (-(c + 1)) % n := by simp [pk, hc]
    rw [e]; clear e
    go_enter Tryz.func4, Tryz.ntmps4
    go_wp2
    go_ret
    exact ⟨ret_int (by rw [← Int.neg_tmod, Int.tmod_eq_emod_of_nonneg (by omega)]), rfl⟩
  · have e : pk c n = c % n := by simp [pk, hc]
    rw [e]; clear e
    go_enter Tryz.func4, Tryz.ntmps4
    go_wp2
    go_ret
    exact ⟨rfl, rfl⟩
theorem conv2 {m : Nat} (h : m < 100) (w : World) : (convert 42 9 (.slice (some ⟨w.heap.size, 0, none⟩) 2 2)).run Tryz.prog (w.alloc (.cells #[.int .u8 (48 + (m : Int) / 10), .int .u8 (48 + (m : Int) % 10)] 5)) = .ok (.string (ba (d2 m))) (w.alloc (.cells #[.int .u8 (48 + (m : Int) / 10), .int .u8 (48 + (m : Int) % 10)] 5)) := by
  refine run_convert_bytes_back _ 42 9 5 ⟨w.heap.size, 0, none⟩ 2 (d2 m) Tryz.underlying42 Tryz.underlying5 Tryz.underlying9 ?_
  intro j hj
  have e1 : ((UInt8.ofNat (48 + m / 10)).toNat : Int) = 48 + (m : Int) / 10 := by rw [UInt8.toNat_ofNat']; omega
  have e2 : ((UInt8.ofNat (48 + m % 10)).toNat : Int) = 48 + (m : Int) % 10 := by rw [UInt8.toNat_ofNat']; omega
  have : j = 0 ∨ j = 1 := by simp [d2] at hj; omega
  rcases this with rfl | rfl
  · rw [Addr.add_lit, Lib.cell_of_heap (heap_alloc_new w _)]
    show some _ = some (Value.int .u8 ((UInt8.ofNat (48 + m / 10)).toNat : Int))
    rw [e1]; rfl
  · rw [Addr.add_lit, Lib.cell_of_heap (heap_alloc_new w _)]
    show some _ = some (Value.int .u8 ((UInt8.ofNat (48 + m % 10)).toNat : Int))
    rw [e2]; rfl
set_option maxRecDepth 100000 in
theorem two_any {m : Nat} (h : m < 100) (w : World) :
    Calls Tryz.prog 7 #[.int .i64 m] w fun e w' => e = .returned (.string (ba (d2 m))) ∧ Below w.heap.size w w' := by
  have hc := conv2 h w
  go_enter Tryz.func7, Tryz.ntmps7
  go_wp2
  go_ret
  exact ⟨rfl, (Below.refl _ _).alloc (Nat.le_refl _) _⟩
end Go.Proofs.YtmmnbdefkailpaaGreatDoor

/- Which days an event by days is on; the text of the harness. -/
namespace Go.Proofs.YtmmnbdefkailpaaGreatDoor
open Go.RowKit Cal
set_option linter.unusedVariables false

theorem hits_split (f t t' : Int) (htt : t ≤ t') : ∀ (L : List Int), L.Pairwise (· < ·) → hits f t' L = hits f t L ++ L.filter (fun x => decide (t ≤ x) && inW f t' x)
  | [], _ => rfl
  | x :: xs, h => by
    obtain ⟨hx, hxs⟩ := List.pairwise_cons.1 h
    have ih := hits_split f t t' htt xs hxs
    unfold hits at ih ⊢
    by_cases hlt : x < t
    · have e1 : inW f t' x = inW f t x := by unfold inW; simp [hlt, show x < t' by omega]
      rw [List.filter_cons, List.filter_cons, List.filter_cons, ih, e1]
      have e2 : (decide (t ≤ x) && inW f t x) = false := by simp; omega
      rw [e2]
      cases inW f t x <;> simp
    · have e0 : xs.filter (inW f t) = [] := by
        rw [List.filter_eq_nil_iff]
        intro z hz
        have := hx z hz
        unfold inW
        simp; omega
      have e1 : inW f t x = false := by unfold inW; simp; omega
      rw [e0] at ih
      rw [List.filter_cons, List.filter_cons, List.filter_cons, ih, e1, e0]
      have e2 : decide (t ≤ x) = true := by simp; omega
      rw [e2]
      cases inW f t' x <;> simp
theorem filter_one (j0 : Nat) : ∀ (m : Nat), (List.range m).filter (fun j => decide (j = j0)) = if j0 < m then [j0] else []
  | 0 => by simp
  | m + 1 => by
    rw [List.range_succ, List.filter_append, filter_one j0 m]
    by_cases h : m = j0
    · subst h; simp
    · by_cases h2 : j0 < m
      · rw [if_pos h2, if_pos (by omega)]; simp [h]
      · rw [if_neg h2, if_neg (by omega)]; simp [h]
/-- the days an event is on -/
def onD (n k m D : Int) : Bool := decide (n ≤ D) && decide ((D - n) % k = 0) && decide ((D - n) / k < m)
theorem hits_day (k : Nat) (hk : 1 ≤ k) (n : Int) (m : Nat) (a D : Int) (haD : a ≤ D) :
    hits (a * 86400) ((D + 1) * 86400) (allJ k n 43200 m) = hits (a * 86400) (D * 86400) (allJ k n 43200 m) ++ (if onD n k m D then [D * 86400 + 43200] else []) := by
  have h0 := hits_split (a * 86400) (D * 86400) ((D + 1) * 86400) (by omega) _ (rise_all k n 43200 (by omega) m)
  change hits _ _ (allJ k n 43200 m) = hits _ _ (allJ k n 43200 m) ++ _ at h0
  rw [h0]
  congr 1
  change (allJ k n 43200 m).filter _ = _
  unfold allJ
  rw [List.filter_map]
  have e : ((fun x => decide (D * 86400 ≤ x) && inW (a * 86400) ((D + 1) * 86400) x) ∘ atJ k n 43200) = fun j : Nat => decide (n + (k : Int) * j = D) := by
    funext j
    show (decide (D * 86400 ≤ atJ k n 43200 j) && inW (a * 86400) ((D + 1) * 86400) (atJ k n 43200 j)) = _
    unfold atJ inW
    generalize n + (k : Int) * j = z
    rw [Bool.eq_iff_iff]
    simp only [Bool.and_eq_true, decide_eq_true_eq]
    omega
  rw [e]
  by_cases hon : onD n k m D = true
  · rw [if_pos hon]
    unfold onD at hon
    simp only [Bool.and_eq_true, decide_eq_true_eq] at hon
    obtain ⟨⟨h1, h2⟩, h3⟩ := hon
    have hq := Int.mul_ediv_add_emod (D - n) k
    rw [h2] at hq
    have hq0 : 0 ≤ (D - n) / k := Int.ediv_nonneg (by omega) (by omega)
    obtain ⟨j0, hj0⟩ : ∃ j0 : Nat, (D - n) / k = j0 := ⟨((D - n) / k).toNat, by omega⟩
    rw [hj0] at hq h3
    have e2 : (fun j : Nat => decide (n + (k : Int) * j = D)) = fun j => decide (j = j0) := by
      funext j
      rw [Bool.eq_iff_iff]
      simp only [decide_eq_true_eq]
      constructor
      · intro h
        have : (k : Int) * j = k * j0 := by omega
        have := Int.eq_of_mul_eq_mul_left (by omega : (k : Int) ≠ 0) this
        omega
      · rintro rfl; omega
    rw [e2, filter_one, if_pos (by omega)]
    have e3 : atJ k n 43200 j0 = D * 86400 + 43200 := by
      unfold atJ
      have : n + (k : Int) * j0 = D := by omega
      rw [this]
    rw [List.map_cons, List.map_nil, e3]
  · rw [if_neg hon]
    have e2 : (List.range m).filter (fun j : Nat => decide (n + (k : Int) * j = D)) = [] := by
      rw [List.filter_eq_nil_iff]
      intro j hj hc'
      refine hon ?_
      have hjm := List.mem_range.1 hj
      have hc : n + (k : Int) * j = D := by simpa using hc'
      have e3 : D - n = (k : Int) * j := by omega
      have hnn : 0 ≤ (k : Int) * j := Int.mul_nonneg (by omega) (by omega)
      unfold onD
      rw [e3, Int.mul_emod_right, Int.mul_ediv_cancel_left _ (by omega : (k : Int) ≠ 0)]
      simp
      omega
    rw [e2]; rfl
theorem hits_none (k : Nat) (n : Int) (m : Nat) (a : Int) : hits (a * 86400) (a * 86400) (allJ k n 43200 m) = [] := by
  unfold hits
  rw [List.filter_eq_nil_iff]
  intro x _
  unfold inW
  simp
theorem hits_at (k : Nat) (hk : 1 ≤ k) (n : Int) (m : Nat) (a D b : Int) (haD : a ≤ D) (hDb : D < b) (hon : onD n k m D = true) :
    (hits (a * 86400) (D * 86400) (allJ k n 43200 m)).length < (hits (a * 86400) (b * 86400) (allJ k n 43200 m)).length ∧
    (hits (a * 86400) (b * 86400) (allJ k n 43200 m))[(hits (a * 86400) (D * 86400) (allJ k n 43200 m)).length]? = some (D * 86400 + 43200) := by
  have h1 := hits_day k hk n m a D haD
  rw [if_pos hon] at h1
  have h2 := hits_split (a * 86400) ((D + 1) * 86400) (b * 86400) (by omega) _ (rise_all k n 43200 (by omega) m)
  change hits _ _ (allJ k n 43200 m) = hits _ _ (allJ k n 43200 m) ++ _ at h2
  rw [h1] at h2
  rw [h2]
  constructor
  · simp
  · simp
theorem text_is (y mo d k m : Nat) : (ba [66, 69, 71, 73, 78, 58, 86, 69, 86, 69, 78, 84, 13, 10, 85, 73, 68, 58, 120, 13, 10, 68, 84, 83, 84, 65, 82, 84, 58] ++ ba (d4 y) ++ ba (d2 mo) ++ ba (d2 d) ++ ba [84, 49, 50, 48, 48, 48, 48, 13, 10, 82, 82, 85, 76, 69, 58, 70, 82, 69, 81, 61, 68, 65, 73, 76, 89, 59, 73, 78, 84, 69, 82, 86, 65, 76, 61] ++ ba (dl k) ++ ba [59, 67, 79, 85, 78, 84, 61] ++ ba (dl m) ++ ba [13, 10, 69, 78, 68, 58, 86, 69, 86, 69, 78, 84, 13, 10]) = ba (evT y mo d (rule3 k m)) := by
  simp only [ba_app]
  congr 1
  simp [evT, evL, joinCR, lBeg, lUid, lStart, date8, lRule, lEnd, rule3, pF, pI, pC, d4, d2]
end Go.Proofs.YtmmnbdefkailpaaGreatDoor
