/- The harness Every. -/
import Derived.Test.YtmmnbdefkailpaaGreatDoorEvZA

namespace Go.Proofs.YtmmnbdefkailpaaGreatDoor
open Go.RowKit Cal
set_option linter.unusedVariables false

theorem own_cell {w : World} {B : Nat} {va : Option Addr} {vc m j : Nat} {zs : List Int} {x : Int} (h : w.ownsRow B 3 1 (.slice va m vc) m (zs.map (Value.int .i64))) (hj : j < m) (hx : zs[j]? = some x) : ∃ g, va = some ⟨g, 0, none⟩ ∧ w.cell? ⟨g, j, none⟩ = some (.int .i64 x) := by
  have hl := own_len h
  rcases h.2 with ⟨h0, h00⟩ | ⟨g, cap, cur, h1, h2, h3, h4, h5, h6, h7⟩
  · omega
  · have e1 : va = some ⟨g, 0, none⟩ := by injection h1
    refine ⟨g, e1, ?_⟩
    subst hl
    have := (own_holds h3 h7 j (by simpa using hj)).1
    rw [Nat.zero_add] at this
    rw [this]
    have : zs.toArray[j]! = x := by
      have h8 : zs[j] = x := by rw [List.getElem?_eq_getElem hj] at hx; exact Option.some.inj hx
      simp [getElem!_pos, hj, h8]
    rw [this]
set_option maxRecDepth 100000 in
set_option maxHeartbeats 8000000 in
theorem every_in (C E U F S pc pe pu pf ps n a b T : Int) (y mo d k m : Nat) (L : List Int) (s1 s2 s3 s4 s5 s : ByteArray) (w : World)
    (en : pc - 20000 = n) (ek : 1 + pe = k) (em : 1 + pu = m) (ea : n + pf - 50 = a) (eb : a + ps = b)
    (bn : -20000 ≤ n ∧ n ≤ 59999) (bk : 1 ≤ k ∧ k ≤ 30) (bm : 1 ≤ m ∧ m ≤ 40) (bf : 0 ≤ pf ∧ pf < 200) (bs : 0 ≤ ps ∧ ps < 200)
    (cC : (∀ wx, Calls Tryz.prog 4 #[.int .i64 C, .int .i64 80000] wx fun e w' => e = .returned (.int .i64 pc) ∧ w' = wx)) (cE : (∀ wx, Calls Tryz.prog 4 #[.int .i64 E, .int .i64 30] wx fun e w' => e = .returned (.int .i64 pe) ∧ w' = wx)) (cU : (∀ wx, Calls Tryz.prog 4 #[.int .i64 U, .int .i64 40] wx fun e w' => e = .returned (.int .i64 pu) ∧ w' = wx)) (cF : (∀ wx, Calls Tryz.prog 4 #[.int .i64 F, .int .i64 200] wx fun e w' => e = .returned (.int .i64 pf) ∧ w' = wx)) (cS : (∀ wx, Calls Tryz.prog 4 #[.int .i64 S, .int .i64 200] wx fun e w' => e = .returned (.int .i64 ps) ∧ w' = wx))
    (cD : ∀ wx, Below w.heap.size w wx → Calls Tryz.prog 5 #[.int .i64 n] wx fun e w' => e = .returned (.tuple #[.int .i64 y, .int .i64 mo, .int .i64 d, .int .i64 0]) ∧ Below wx.heap.size wx w')
    (cY : ∀ wx, Below w.heap.size w wx → Calls Tryz.prog 6 #[.int .i64 y] wx fun e w' => e = .returned (.string s1) ∧ Below wx.heap.size wx w')
    (cM : ∀ wx, Calls Tryz.prog 7 #[.int .i64 mo] wx fun e w' => e = .returned (.string s2) ∧ Below wx.heap.size wx w')
    (cG : ∀ wx, Calls Tryz.prog 7 #[.int .i64 d] wx fun e w' => e = .returned (.string s3) ∧ Below wx.heap.size wx w')
    (cK : ∀ wx, Calls Tryz.prog 6 #[.int .i64 k] wx fun e w' => e = .returned (.string s4) ∧ Below wx.heap.size wx w')
    (cN : ∀ wx, Calls Tryz.prog 6 #[.int .i64 m] wx fun e w' => e = .returned (.string s5) ∧ Below wx.heap.size wx w')
    (z1 : s1.size ≤ 100) (z2 : s2.size ≤ 100) (z3 : s3.size ≤ 100) (z4 : s4.size ≤ 100) (z5 : s5.size ≤ 100)
    (hs : (⟨#[66, 69, 71, 73, 78, 58, 86, 69, 86, 69, 78, 84, 13, 10, 85, 73, 68, 58, 120, 13, 10, 68, 84, 83, 84, 65, 82, 84, 58]⟩ : ByteArray) ++ s1 ++ s2 ++ s3 ++ (⟨#[84, 49, 50, 48, 48, 48, 48, 13, 10, 82, 82, 85, 76, 69, 58, 70, 82, 69, 81, 61, 68, 65, 73, 76, 89, 59, 73, 78, 84, 69, 82, 86, 65, 76, 61]⟩ : ByteArray) ++ s4 ++ (⟨#[59, 67, 79, 85, 78, 84, 61]⟩ : ByteArray) ++ s5 ++ (⟨#[13, 10, 69, 78, 68, 58, 86, 69, 86, 69, 78, 84, 13, 10]⟩ : ByteArray) = s)
    (cP : ∀ wx, Below w.heap.size w wx → Calls Tryz.prog 8 #[.string s] wx fun e w' => e = .returned (.tuple #[.agg #[.string ⟨#[120]⟩, .string ⟨#[]⟩, .int .i64 T, .bool false, .bool false, .int .i64 0, .int .i64 1, .int .i64 k, .int .i64 m, .int .i64 0, .bool false, .slice none 0 0, .slice none 0 0, .slice none 0 0, .slice none 0 0, .int .i64 0, .slice none 0 0, .slice none 0 0], .int .i64 0, .int .i64 0]) ∧ Below wx.heap.size wx w')
    (cX : -25567 ≤ a → b ≤ 84005 → ∀ wx, Below w.heap.size w wx → Calls Tryz.prog 9 #[.agg #[.string ⟨#[120]⟩, .string ⟨#[]⟩, .int .i64 T, .bool false, .bool false, .int .i64 0, .int .i64 1, .int .i64 k, .int .i64 m, .int .i64 0, .bool false, .slice none 0 0, .slice none 0 0, .slice none 0 0, .slice none 0 0, .int .i64 0, .slice none 0 0, .slice none 0 0], .int .i64 (a * 86400), .int .i64 (b * 86400), .int .i64 1000] wx fun e w' => ∃ v, e = .returned (.tuple #[v, .int .i64 0]) ∧ w'.ownsRow wx.heap.size 3 1 v L.length (L.map (Value.int .i64)) ∧ Below wx.heap.size wx w')
    (hL : L = hits (a * 86400) (b * 86400) (allJ k n 43200 m)) :
    Calls Tryz.prog 3 #[.int .i64 C, .int .i64 E, .int .i64 U, .int .i64 F, .int .i64 S] w fun e w' => e = .returned (.bool true) ∧ Below w.heap.size w w' := by
  have CC : Hid (∀ wx, Calls Tryz.prog 4 #[.int .i64 C, .int .i64 80000] wx fun e w' => e = .returned (.int .i64 pc) ∧ w' = wx) := cC
  have CE : Hid (∀ wx, Calls Tryz.prog 4 #[.int .i64 E, .int .i64 30] wx fun e w' => e = .returned (.int .i64 pe) ∧ w' = wx) := cE
  have CU : Hid (∀ wx, Calls Tryz.prog 4 #[.int .i64 U, .int .i64 40] wx fun e w' => e = .returned (.int .i64 pu) ∧ w' = wx) := cU
  have CF : Hid (∀ wx, Calls Tryz.prog 4 #[.int .i64 F, .int .i64 200] wx fun e w' => e = .returned (.int .i64 pf) ∧ w' = wx) := cF
  have CS : Hid (∀ wx, Calls Tryz.prog 4 #[.int .i64 S, .int .i64 200] wx fun e w' => e = .returned (.int .i64 ps) ∧ w' = wx) := cS
  have CD : Hid (∀ wx, Below w.heap.size w wx → Calls Tryz.prog 5 #[.int .i64 n] wx fun e w' => e = .returned (.tuple #[.int .i64 y, .int .i64 mo, .int .i64 d, .int .i64 0]) ∧ Below wx.heap.size wx w') := cD
  have CY : Hid (∀ wx, Below w.heap.size w wx → Calls Tryz.prog 6 #[.int .i64 y] wx fun e w' => e = .returned (.string s1) ∧ Below wx.heap.size wx w') := cY
  have CM : Hid (∀ wx, Calls Tryz.prog 7 #[.int .i64 mo] wx fun e w' => e = .returned (.string s2) ∧ Below wx.heap.size wx w') := cM
  have CG : Hid (∀ wx, Calls Tryz.prog 7 #[.int .i64 d] wx fun e w' => e = .returned (.string s3) ∧ Below wx.heap.size wx w') := cG
  have CK : Hid (∀ wx, Calls Tryz.prog 6 #[.int .i64 k] wx fun e w' => e = .returned (.string s4) ∧ Below wx.heap.size wx w') := cK
  have CN : Hid (∀ wx, Calls Tryz.prog 6 #[.int .i64 m] wx fun e w' => e = .returned (.string s5) ∧ Below wx.heap.size wx w') := cN
  have CP : Hid (∀ wx, Below w.heap.size w wx → Calls Tryz.prog 8 #[.string s] wx fun e w' => e = .returned (.tuple #[.agg #[.string ⟨#[120]⟩, .string ⟨#[]⟩, .int .i64 T, .bool false, .bool false, .int .i64 0, .int .i64 1, .int .i64 k, .int .i64 m, .int .i64 0, .bool false, .slice none 0 0, .slice none 0 0, .slice none 0 0, .slice none 0 0, .int .i64 0, .slice none 0 0, .slice none 0 0], .int .i64 0, .int .i64 0]) ∧ Below wx.heap.size wx w') := cP
  have CX : Hid (-25567 ≤ a → b ≤ 84005 → ∀ wx, Below w.heap.size w wx → Calls Tryz.prog 9 #[.agg #[.string ⟨#[120]⟩, .string ⟨#[]⟩, .int .i64 T, .bool false, .bool false, .int .i64 0, .int .i64 1, .int .i64 k, .int .i64 m, .int .i64 0, .bool false, .slice none 0 0, .slice none 0 0, .slice none 0 0, .slice none 0 0, .int .i64 0, .slice none 0 0, .slice none 0 0], .int .i64 (a * 86400), .int .i64 (b * 86400), .int .i64 1000] wx fun e w' => ∃ v, e = .returned (.tuple #[v, .int .i64 0]) ∧ w'.ownsRow wx.heap.size 3 1 v L.length (L.map (Value.int .i64)) ∧ Below wx.heap.size wx w') := cX
  have HL : Hid (L = hits (a * 86400) (b * 86400) (allJ k n 43200 m)) := hL
  have HS : Hid _ := hs
  have HB := Below.refl w.heap.size w
  clear cC cE cU cF cS cD cY cM cG cK cN cP cX hL hs
  obtain ⟨bn1, bn2⟩ := bn
  obtain ⟨bk1, bk2⟩ := bk
  obtain ⟨bm1, bm2⟩ := bm
  obtain ⟨bf1, bf2⟩ := bf
  obtain ⟨bs1, bs2⟩ := bs
  go_enter Tryz.func3, Tryz.ntmps3
  go_upto_region 4 with (first
    | (go_at_call 4; refine (CC.out _).mono ?_; clear CC; rintro e wz ⟨rfl, rfl⟩)
    | (go_at_call 4; refine (CE.out _).mono ?_; clear CE; rintro e wz ⟨rfl, rfl⟩)
    | (go_at_call 4; refine (CU.out _).mono ?_; clear CU; rintro e wz ⟨rfl, rfl⟩))
  go_upto_region 7 with (go_at_call 5; refine (CD.out _ HB).mono ?_; clear CD; rintro e w1 ⟨rfl, hb1⟩; replace HB := HB.trans (hb1.mono HB.size); clear hb1)
  go_upto_region 8 with (first
    | (go_at_call 6; refine (CY.out _ HB).mono ?_; clear CY; rintro e w2 ⟨rfl, hb1⟩; replace HB := HB.trans (hb1.mono HB.size); clear hb1)
    | (go_at_call 7; refine (CM.out _).mono ?_; clear CM; rintro e w3 ⟨rfl, hb1⟩; replace HB := HB.trans (hb1.mono HB.size); clear hb1)
    | (go_at_call 7; refine (CG.out _).mono ?_; clear CG; rintro e w4 ⟨rfl, hb1⟩; replace HB := HB.trans (hb1.mono HB.size); clear hb1)
    | (go_at_call 6; refine (CK.out _).mono ?_; clear CK; rintro e w5 ⟨rfl, hb1⟩; replace HB := HB.trans (hb1.mono HB.size); clear hb1)
    | (go_at_call 6; refine (CN.out _).mono ?_; clear CN; rintro e w6 ⟨rfl, hb1⟩; replace HB := HB.trans (hb1.mono HB.size); clear hb1))
  rw [HS.out]
  clear HS z1 z2 z3 z4 z5
  refine wp_region_lit ?_
  refine wpList_plain rfl (fun K hK => ?_)
  go_simp
  refine hK _ _ ?_
  clear hK K
  refine wpList_plain rfl (fun K hK => ?_)
  go_simp
  refine (CP.out _ HB).mono ?_
  clear CP
  rintro e w7 ⟨rfl, hb1⟩
  replace HB := HB.trans (hb1.mono HB.size)
  clear hb1
  go_simp
  refine hK _ _ ?_
  clear hK K
  refine wpList_plain rfl (fun K hK => ?_)
  go_simp
  refine hK _ _ ?_
  clear hK K
  refine wpList_plain rfl (fun K hK => ?_)
  go_simp
  refine hK _ _ ?_
  clear hK K
  refine wpList_plain rfl (fun K hK => ?_)
  go_simp
  refine hK _ _ ?_
  clear hK K
  refine wpList_plain rfl (fun K hK => ?_)
  go_simp
  refine hK _ _ ?_
  clear hK K
  refine wpList_plain rfl (fun K hK => ?_)
  go_simp
  refine hK _ _ ?_
  clear hK K
  refine wpList_store_fresh (by rfl) 32 (.tmp 19) (.tmp 68) (by rfl) #[.string ⟨#[]⟩, .string ⟨#[]⟩, .int .i64 0, .bool false, .bool false, .int .i64 0, .int .i64 0, .int .i64 0, .int .i64 0, .int .i64 0, .bool false, .slice none 0 0, .slice none 0 0, .slice none 0 0, .slice none 0 0, .int .i64 0, .slice none 0 0, .slice none 0 0] #[.string ⟨#[120]⟩, .string ⟨#[]⟩, .int .i64 T, .bool false, .bool false, .int .i64 0, .int .i64 1, .int .i64 k, .int .i64 m, .int .i64 0, .bool false, .slice none 0 0, .slice none 0 0, .slice none 0 0, .slice none 0 0, .int .i64 0, .slice none 0 0, .slice none 0 0] (by rfl) (by rfl) rfl (by kernel_rfl) (by kernel_rfl) (by kernel_rfl) ?_
  refine wpList_plain rfl (fun K hK => ?_)
  go_simp
  refine hK _ _ ?_
  clear hK K
  refine wpList_plain rfl (fun K hK => ?_)
  go_simp
  refine hK _ _ ?_
  clear hK K
  refine wpList_nil ?_
  have hN := heap_alloc_new w7 (.cells #[.string ⟨#[120]⟩, .string ⟨#[]⟩, .int .i64 T, .bool false, .bool false, .int .i64 0, .int .i64 1, .int .i64 k, .int .i64 m, .int .i64 0, .bool false, .slice none 0 0, .slice none 0 0, .slice none 0 0, .slice none 0 0, .int .i64 0, .slice none 0 0, .slice none 0 0] 32)
  replace HB := HB.alloc HB.size (.cells #[.string ⟨#[120]⟩, .string ⟨#[]⟩, .int .i64 T, .bool false, .bool false, .int .i64 0, .int .i64 1, .int .i64 k, .int .i64 m, .int .i64 0, .bool false, .slice none 0 0, .slice none 0 0, .slice none 0 0, .slice none 0 0, .int .i64 0, .slice none 0 0, .slice none 0 0] 32)
  revert hN HB
  generalize w7.alloc (.cells #[.string ⟨#[120]⟩, .string ⟨#[]⟩, .int .i64 T, .bool false, .bool false, .int .i64 0, .int .i64 1, .int .i64 k, .int .i64 m, .int .i64 0, .bool false, .slice none 0 0, .slice none 0 0, .slice none 0 0, .slice none 0 0, .int .i64 0, .slice none 0 0, .slice none 0 0] 32) = W
  intro hN HB
  go_upto_region 13 with (first
    | (go_at_call 4; refine (CF.out _).mono ?_; clear CF; rintro e wz ⟨rfl, rfl⟩)
    | (go_at_call 4; refine (CS.out _).mono ?_; clear CS; rintro e wz ⟨rfl, rfl⟩))
  by_cases ha : a < -25567
  · go_wp2
    go_ret
    exact ⟨rfl, HB⟩
  by_cases hb : 84005 < b
  · go_wp2
    go_ret
    exact ⟨rfl, HB⟩
  have cX := CX.out (by omega) (by omega) wz HB
  clear CX
  go_upto_region 15 with fail
  have hr := range_app [] [.string ⟨#[120]⟩, .string ⟨#[]⟩, .int .i64 T, .bool false, .bool false, .int .i64 0, .int .i64 1, .int .i64 k, .int .i64 m, .int .i64 0, .bool false, .slice none 0 0, .slice none 0 0, .slice none 0 0, .slice none 0 0, .int .i64 0, .slice none 0 0, .slice none 0 0] hN
  refine wp_region_lit ?_
  refine wpList_load_mid (by rfl) 32 (.tmp 19) (by rfl) w7.heap.size 0 (by rfl) [.string ⟨#[120]⟩, .string ⟨#[]⟩, .int .i64 T, .bool false, .bool false, .int .i64 0, .int .i64 1, .int .i64 k, .int .i64 m, .int .i64 0, .bool false, .slice none 0 0, .slice none 0 0, .slice none 0 0, .slice none 0 0, .int .i64 0, .slice none 0 0, .slice none 0 0] _ hr Tryz.underlying32 rfl (by kernel_rfl) ?_
  simp only [Act.put, List.setIfInBounds_toArray, List.set_cons_zero, List.set_cons_succ]
  clear hr hN
  go_wp2_with (go_at_call 9; refine cX.mono ?_; clear cX; rintro e w8 ⟨v, rfl, ho, hb8⟩; replace HB := HB.trans (hb8.mono HB.size); clear hb8; obtain ⟨va, vc, rfl⟩ : ∃ va vc, v = Value.slice va L.length vc := own_form ho)
  have hab : a ≤ b := by omega
  have hll : L.length ≤ 40 := by rw [HL.out]; exact Nat.le_trans (hits_len _ _ _ _ _ _) bm2
  clear en ek em ea eb bf1 bf2 bs1 bs2
  go_loop [26, 27] (fun i dy => ∃ D : Int, a ≤ D ∧ D ≤ b ∧ dy = .int .i64 D ∧ i = .int .i64 ((hits (a * 86400) (D * 86400) (allJ k n 43200 m)).length : Nat)) (fun _ dy => (b + 1 - intOf dy).toNat)
  case atStart => exact ⟨a, by omega, by omega, rfl, by rw [hits_none]; rfl⟩
  case round =>
    obtain ⟨D, d1, d2, rfl, rfl⟩ := hrel
    have hil := Nat.le_trans (hits_len k n 43200 (a * 86400) (D * 86400) m) bm2
    by_cases hlt : D < b
    · have HN : Hid (onD n k m D = false → (hits (a * 86400) ((D + 1) * 86400) (allJ k n 43200 m)).length = (hits (a * 86400) (D * 86400) (allJ k n 43200 m)).length) := fun h => by rw [hits_day k bk1 n m a D d1, h]; simp
      have HY : Hid (onD n k m D = true → (hits (a * 86400) ((D + 1) * 86400) (allJ k n 43200 m)).length = (hits (a * 86400) (D * 86400) (allJ k n 43200 m)).length + 1) := fun h => by rw [hits_day k bk1 n m a D d1, h]; simp
      have HA : Hid (onD n k m D = true → (hits (a * 86400) (D * 86400) (allJ k n 43200 m)).length < L.length ∧ L[(hits (a * 86400) (D * 86400) (allJ k n 43200 m)).length]? = some (D * 86400 + 43200)) := fun h => by rw [HL.out]; exact hits_at k bk1 n m a D b d1 hlt h
      generalize (hits (a * 86400) (D * 86400) (allJ k n 43200 m)).length = I at *
      by_cases h1 : n ≤ D
      · by_cases h2 : (D - n) % k = 0
        · by_cases h3 : (D - n) / k < m
          · have hon : onD n k m D = true := by simp [onD, h1, h2, h3]
            obtain ⟨hI, hIx⟩ := HA.out hon
            have HYo := HY.out hon
            obtain ⟨g, hva, hcell⟩ := own_cell ho hI hIx
            subst hva
            clear HN HY HA hon hIx
            go_wp2
            go_round
            case rel => exact ⟨D + 1, by omega, by omega, rfl, by rw [HYo]; go_num⟩
            case measure => simp [intOf]; omega
          · have HNo := HN.out (by simp [onD, h1, h2, h3])
            clear HN HY HA
            go_wp2
            go_round
            case rel => exact ⟨D + 1, by omega, by omega, rfl, by rw [HNo]⟩
            case measure => simp [intOf]; omega
        · have HNo := HN.out (by simp [onD, h1, h2])
          clear HN HY HA
          go_wp2
          go_round
          case rel => exact ⟨D + 1, by omega, by omega, rfl, by rw [HNo]⟩
          case measure => simp [intOf]; omega
      · have HNo := HN.out (by simp [onD, h1])
        clear HN HY HA
        go_wp2
        go_round
        case rel => exact ⟨D + 1, by omega, by omega, rfl, by rw [HNo]⟩
        case measure => simp [intOf]; omega
    · have hDb : D = b := by omega
      subst hDb
      rw [← HL.out]
      go_wp2
      go_ret
      exact ⟨by simp, HB⟩
end Go.Proofs.YtmmnbdefkailpaaGreatDoor

/- Every, at any five numbers. -/
namespace Go.Proofs.YtmmnbdefkailpaaGreatDoor
open Go.RowKit Cal
set_option linter.unusedVariables false

theorem date_nat {n : Int} (h1 : -25567 ≤ n) (h2 : n ≤ 84005) : ∃ y mo d : Nat, dY n = y ∧ dM n = mo ∧ dD n = d ∧ 1000 ≤ y ∧ y < 10000 ∧ mo < 100 ∧ d < 100 := by
  obtain ⟨e1, e2, e3, _⟩ := day_is (day_mk h1 h2)
  have hy := yr_day h1 h2
  obtain ⟨a1, a2, _, _⟩ := yr_is (n := n) (by omega) (by omega)
  rw [ny_succ] at a2
  obtain ⟨m1, m2, m3, m4⟩ := mo_is (y := yr n) (r := n - ny (yr n)) (by omega) (by omega)
  rw [cum_succ _ m3 m4] at m2
  have hd := dim_bd (yr n) (mo (yr n) (n - ny (yr n)))
  refine ⟨(dY n).toNat, (dM n).toNat, (dD n).toNat, ?_, ?_, ?_, ?_, ?_, ?_, ?_⟩ <;> omega

theorem every_walk (C E U F S : Int) (w : World) (hw : GW w) (C1 : -9223372036854775808 ≤ C) (C2 : C ≤ 9223372036854775807) (E1 : -9223372036854775808 ≤ E) (E2 : E ≤ 9223372036854775807) (U1 : -9223372036854775808 ≤ U) (U2 : U ≤ 9223372036854775807) (F1 : -9223372036854775808 ≤ F) (F2 : F ≤ 9223372036854775807) (S1 : -9223372036854775808 ≤ S) (S2 : S ≤ 9223372036854775807) :
    Calls Tryz.prog 3 #[.int .i64 C, .int .i64 E, .int .i64 U, .int .i64 F, .int .i64 S] w fun e w' => e = .returned (.bool true) ∧ Below w.heap.size w w' := by
  have hC := pk_bd (c := C) (n := 80000) (by omega)
  have hE := pk_bd (c := E) (n := 30) (by omega)
  have hU := pk_bd (c := U) (n := 40) (by omega)
  have hF := pk_bd (c := F) (n := 200) (by omega)
  have hS := pk_bd (c := S) (n := 200) (by omega)
  have pC : ∀ wx, _ := fun wx => pick_any C 80000 wx (by omega) (by omega) (by omega) (by omega)
  have pE : ∀ wx, _ := fun wx => pick_any E 30 wx (by omega) (by omega) (by omega) (by omega)
  have pU : ∀ wx, _ := fun wx => pick_any U 40 wx (by omega) (by omega) (by omega) (by omega)
  have pF : ∀ wx, _ := fun wx => pick_any F 200 wx (by omega) (by omega) (by omega) (by omega)
  have pS : ∀ wx, _ := fun wx => pick_any S 200 wx (by omega) (by omega) (by omega) (by omega)
  generalize pk C 80000 = pc at *
  generalize pk E 30 = pe at *
  generalize pk U 40 = pu at *
  generalize pk F 200 = pf at *
  generalize pk S 200 = ps at *
  obtain ⟨n, en⟩ : ∃ n, pc - 20000 = n := ⟨_, rfl⟩
  obtain ⟨k, ek⟩ : ∃ k : Nat, 1 + pe = k := ⟨(1 + pe).toNat, by omega⟩
  obtain ⟨m, em⟩ : ∃ m : Nat, 1 + pu = m := ⟨(1 + pu).toNat, by omega⟩
  obtain ⟨a, ea⟩ : ∃ a, n + pf - 50 = a := ⟨_, rfl⟩
  obtain ⟨b, eb⟩ : ∃ b, a + ps = b := ⟨_, rfl⟩
  have hn1 : -25567 ≤ n := by omega
  have hn2 : n ≤ 84005 := by omega
  obtain ⟨y, mo, d, ey, emo, ed, y1, y2, mo1, d1⟩ := date_nat hn1 hn2
  have hdE : dE n = 0 := by unfold dE; rw [if_pos (day_mk hn1 hn2)]
  have hk1 : 1 ≤ k := by omega
  have hk2 : k < 100 := by omega
  have hm1 : 1 ≤ m := by omega
  have hm2 : m < 100 := by omega
  have hMb : ∀ j : Nat, j < m → n + (k : Int) * j ≤ 84005 := fun j hj => by
    have h1 : (k : Int) * j ≤ 30 * j := Int.mul_le_mul_of_nonneg_right (by omega) (by omega)
    omega
  refine every_in C E U F S pc pe pu pf ps n a b (n * 86400 + 43200) y mo d k m _ (ba (d4 y)) (ba (d2 mo)) (ba (d2 d)) (ba (dl k)) (ba (dl m)) (ba (evT y mo d (rule3 k m))) w en ek em ea eb (by omega) (by omega) (by omega) (by omega) (by omega) pC pE pU pF pS
    ?_ ?_ ?_ ?_ ?_ ?_ ?_ ?_ ?_ ?_ ?_ ?_ ?_ ?_ rfl
  · intro wx hb
    have := date_any n wx (hw.below hb).gv.tab
    rw [ey, emo, ed, hdE] at this
    exact this
  · intro wx hb
    exact itoa_year y1 y2 wx (hw.below hb)
  · intro wx; exact two_any mo1 wx
  · intro wx; exact two_any d1 wx
  · intro wx
    rw [← num_ba hk2]
    refine (itoa_num k hk2 wx).mono ?_
    rintro e w' ⟨rfl, rfl⟩; exact ⟨rfl, Below.refl _ _⟩
  · intro wx
    rw [← num_ba hm2]
    refine (itoa_num m hm2 wx).mono ?_
    rintro e w' ⟨rfl, rfl⟩; exact ⟨rfl, Below.refl _ _⟩
  · rw [ba_size]; simp [d4]
  · rw [ba_size]; simp [d2]
  · rw [ba_size]; simp [d2]
  · rw [ba_size]; unfold dl; split <;> simp
  · rw [ba_size]; unfold dl; split <;> simp
  · exact text_is y mo d k m
  · intro wx hb
    exact Parse_good hn1 hn2 ey emo ed y2 mo1 d1 (asc_rule3 hk2 hm2) (by have := rule3_len hk2 hm2; omega) (by omega) (by omega) (rule_ok3 hk1 hk2 hm1 hm2) wx (hw.below hb).gv
  · intro ha hb wx hbx
    exact Expand_at hn1 hn2 ey emo ed y1 y2 mo1 d1 hk1 hk2 hm1 hm2 hMb a b ha (by omega) (by omega) hb wx (hw.below hbx)
end Go.Proofs.YtmmnbdefkailpaaGreatDoor
