/-
  The walk of the statement DigestTells.
-/
import Derived.Test.YtofaminpdcapkaaDoorTwice
namespace Go.Proofs.YtofaminpdcapkaaDoor
open Go Go.RowKit

theorem areLists_three {w : World} {g : Nat} {E : TypeId} {x y z : Value} {l m n : List UInt8} (h : Row w g E #[x, y, z]) (hx : IsVals w x (l.map VB)) (hy : IsVals w y (m.map VB)) (hz : IsVals w z (n.map VB)) : AreLists w (.slice (some ⟨g, 0, none⟩) 3 3) [l, m, n] :=
  ⟨[x, y, z], rfl, isVals_lit (l := [x, y, z]) h, fun i u L h1 h2 => by
    match i, h1, h2 with
    | 0, h1, h2 => simp at h1 h2; subst h1; subst h2; exact hx
    | 1, h1, h2 => simp at h1 h2; subst h1; subst h2; exact hy
    | 2, h1, h2 => simp at h1 h2; subst h1; subst h2; exact hz
    | i + 3, h1, h2 => simp at h1⟩
theorem flat3 (A B C : List UInt8) : [A, B, C].flatten = A ++ B ++ C := by simp
theorem flat3' (A B C : List UInt8) : ([] ++ A.map VB) ++ B.map VB ++ C.map VB = (A ++ B ++ C).map VB := by simp

set_option maxRecDepth 100000 in
set_option maxHeartbeats 2000000 in
theorem DigestTells_any (A B C : List UInt8) (va vb vc : Value) (w : World) (hK : Keys w) (ha : IsVals w va (A.map VB)) (hb : IsVals w vb (B.map VB)) (hc : IsVals w vc (C.map VB)) :
    Calls Tryd.prog 4 #[va, vb, vc] w fun e w' => e = .returned (.bool true) ∧ Below w.heap.size w w' := by
  obtain ⟨i, hi, hz, hs1, hby⟩ := byteInfo
  obtain ⟨ib, hib, hzb, hsb⟩ := bytesInfo
  by_cases h1 : A.length ≤ 1000
  · have hd1 : decide ((A.length : Int) > 1000) = false := by simp; omega
    by_cases h2 : B.length ≤ 1000
    · have hd2 : decide ((B.length : Int) > 1000) = false := by simp; omega
      by_cases h3 : C.length ≤ 1000
      · have hd3 : decide ((C.length : Int) > 1000) = false := by simp; omega
        have Hfl := Lib.hid (flat3 A B C)
        have hll : (A ++ B ++ C).length ≤ 1000000 := by simp; omega
        go_enter Tryd.func4, Tryd.ntmps4
        go_wp2_with (first
          | (go_at_call 10; refine (alive_any _ hK).mono ?_; rintro e w1 ⟨rfl, hB1⟩; have hs1' := hB1.size)
          | ((with_reducible change wpList _ _ _ (Oper.mk (some 11) _ _ _ _ _ :: _) _ _); refine kLenN _ _ _ _ _ A.length rfl rfl rfl (ha.below hB1) (by simp) Tryd.underlying25 ?_)
          | ((with_reducible change wpList _ _ _ (Oper.mk (some 15) _ _ _ _ _ :: _) _ _); refine kLenN _ _ _ _ _ B.length rfl rfl rfl (hb.below hB1) (by simp) Tryd.underlying25 ?_)
          | ((with_reducible change wpList _ _ _ (Oper.mk (some 20) _ _ _ _ _ :: _) _ _); refine kLenN _ _ _ _ _ C.length rfl rfl rfl (hc.below hB1) (by simp) Tryd.underlying25 ?_)
          | ((with_reducible change wpList _ _ _ (Oper.mk (some 23) _ _ _ _ _ :: _) _ _); refine kBuildSlice0 _ _ rfl rfl Tryd.underlying25 i hi ?_; intro w2 hR2 hz2 hB2; have hO2 := own_empty (Nat.le_refl w1.heap.size) hR2; have hB02 := hB1.trans (hB2.mono hs1'); clear hz2; have hs2 := hB2.size)
          | ((with_reducible change wpList _ _ _ (Oper.mk (some 25) _ _ _ _ _ :: _) _ _); refine kAppend _ _ _ _ rfl rfl w1.heap.size i _ Tryd.underlying25 hi hz hs1 rfl _ _ [] (A.map VB) rfl hO2 rfl (ha.below hB02) (vb_one A) (by unfold maxLen; simp; omega) (by rw [hby]; simp; omega) hs2 ?_; intro v3 w3 hO3 hG3; have hB3 := hB2.trans (below_grown hO2 hG3 hs2); have hB03 := hB1.trans (hB3.mono hs1'); have hs3 := hB3.size)
          | ((with_reducible change wpList _ _ _ (Oper.mk (some 27) _ _ _ _ _ :: _) _ _); refine kAppend _ _ _ _ rfl rfl w1.heap.size i _ Tryd.underlying25 hi hz hs1 rfl v3 _ ([] ++ A.map VB) (B.map VB) rfl hO3 rfl (hb.below hB03) (vb_one B) (by unfold maxLen; simp; omega) (by rw [hby]; simp; omega) hs3 ?_; intro v4 w4 hO4 hG4; have hB4 := hB3.trans (below_grown hO3 hG4 hs3); have hB04 := hB1.trans (hB4.mono hs1'); have hs4 := hB4.size)
          | ((with_reducible change wpList _ _ _ (Oper.mk (some 29) _ _ _ _ _ :: _) _ _); refine kAppend _ _ _ _ rfl rfl w1.heap.size i _ Tryd.underlying25 hi hz hs1 rfl v4 _ ([] ++ A.map VB ++ B.map VB) (C.map VB) rfl hO4 rfl (hc.below hB04) (vb_one C) (by unfold maxLen; simp; omega) (by rw [hby]; simp; omega) hs4 ?_; intro v5 w5 hO5 hG5; have hB5 := hB4.trans (below_grown hO4 hG5 hs4); have hB05 := hB1.trans (hB5.mono hs1'); have hs5 := hB05.size; rw [flat3'] at hO5; have hV5 := isVals_own hO5)
          | ((with_reducible change wpList _ _ _ (Oper.mk (some 33) _ _ _ _ _ :: _) _ _); refine kBuildSlice3 _ _ _ _ _ va vb vc rfl rfl Tryd.underlying34 ib _ hib hzb hsb rfl ha.one rfl hb.one rfl hc.one ?_; intro w6 hR6 hz6 hB6; have hB06 := hB05.trans (hB6.mono hs5); clear hz6; have hs6 := hB6.size)
          | (go_at_call 9; refine (Sum_any [A, B, C] _ _ (hK.below hB06) (areLists_three hR6 (ha.below hB06) (hb.below hB06) (hc.below hB06)) (by simp) (by simp; omega)).mono ?_; rintro e w7 ⟨rfl, hB7⟩; have hB57 := hB6.trans (hB7.mono hs6); have hB07 := hB05.trans (hB57.mono hs5); have hs7 := hB57.size; rw [Hfl.out])
          | (go_at_call 12; refine (rSum_any (A ++ B ++ C) _ _ (hV5.below hB57) hll).mono ?_; rintro e w8 ⟨rfl, hB8⟩; have hB58 := hB57.trans (hB8.mono hs7); have hB08 := hB05.trans (hB58.mono hs5); have hs8 := hB58.size)
          | ((with_reducible change wpList _ _ _ (Oper.mk (some 42) _ _ _ _ _ :: _) _ _); refine kBuildSlice3 _ _ _ _ _ va vb vc rfl rfl Tryd.underlying34 ib _ hib hzb hsb rfl ha.one rfl hb.one rfl hc.one ?_; intro w9 hR9 hz9 hB9; have hB59 := hB58.trans (hB9.mono hs8); have hB09 := hB05.trans (hB59.mono hs5); clear hz9; have hs9 := hB59.size)
          | (go_at_call 13; refine (Twice_any [A, B, C] _ _ (hK.below hB09) (areLists_three hR9 (ha.below hB09) (hb.below hB09) (hc.below hB09)) (by simp) (by simp; omega)).mono ?_; rintro e w10 ⟨rfl, hB10⟩; have hB510 := hB59.trans (hB10.mono hs9); have hB010 := hB05.trans (hB510.mono hs5); have hs10 := hB510.size; rw [Hfl.out])
          | (go_at_call 14; refine (rTwice_any (A ++ B ++ C) _ _ (hV5.below hB510) hll).mono ?_; rintro e w11 ⟨rfl, hB11⟩; have hB511 := hB510.trans (hB11.mono hs10); have hB011 := hB05.trans (hB511.mono hs5); have hs11 := hB511.size)
          | ((with_reducible change wpList _ _ _ (Oper.mk (some 52) _ _ _ _ _ :: _) _ _); refine kBuildSlice3 _ _ _ _ _ va vb vc rfl rfl Tryd.underlying34 ib _ hib hzb hsb rfl ha.one rfl hb.one rfl hc.one ?_; intro w12 hR12 hz12 hB12; have hB512 := hB511.trans (hB12.mono hs11); have hB012 := hB05.trans (hB512.mono hs5); clear hz12; have hs12 := hB512.size)
          | (go_at_call 15; refine (Short_any [A, B, C] _ _ (hK.below hB012) (areLists_three hR12 (ha.below hB012) (hb.below hB012) (hc.below hB012)) (by simp) (by simp; omega)).mono ?_; rintro e w13 ⟨rfl, hB13⟩; have hB513 := hB512.trans (hB13.mono hs12); have hs13 := hB513.size; rw [Hfl.out])
          | (go_at_call 16; refine (rShort_any (A ++ B ++ C) _ _ (hV5.below hB513) hll).mono ?_; rintro e w14 ⟨rfl, hB14⟩; have hB514 := hB513.trans (hB14.mono hs13))
          | ((with_reducible change wpList _ _ _ (Oper.mk (some 37) _ _ _ _ _ :: _) _ _); refine kEqlArr _ _ _ _ _ 32 .u8 _ (fun j => _) (fun j => _) true rfl rfl rfl rfl Tryd.underlying23 Tryd.underlying5 info_byte (by kernel_rfl) (all_refl _ _) ?_)
          | ((with_reducible change wpList _ _ _ (Oper.mk (some 46) _ _ _ _ _ :: _) _ _); refine kEqlArr _ _ _ _ _ 32 .u8 _ (fun j => _) (fun j => _) true rfl rfl rfl rfl Tryd.underlying23 Tryd.underlying5 info_byte (by kernel_rfl) (all_refl _ _) ?_)
          | ((with_reducible change wpList _ _ _ (Oper.mk (some 56) _ _ _ _ _ :: _) _ _); refine kEqlArr _ _ _ _ _ 20 .u8 _ (fun j => _) (fun j => _) true rfl rfl rfl rfl Tryd.underlying30 Tryd.underlying5 info_byte (by kernel_rfl) (all_refl _ _) ?_))
        go_ret
        exact ⟨rfl, hB05.trans (hB514.mono hs5)⟩
      · have hd3 : decide ((C.length : Int) > 1000) = true := by simp; omega
        go_enter Tryd.func4, Tryd.ntmps4
        go_wp2_with (first
          | (go_at_call 10; refine (alive_any _ hK).mono ?_; rintro e w1 ⟨rfl, hB1⟩)
          | ((with_reducible change wpList _ _ _ (Oper.mk (some 11) _ _ _ _ _ :: _) _ _); refine kLenN _ _ _ _ _ A.length rfl rfl rfl (ha.below hB1) (by simp) Tryd.underlying25 ?_)
          | ((with_reducible change wpList _ _ _ (Oper.mk (some 15) _ _ _ _ _ :: _) _ _); refine kLenN _ _ _ _ _ B.length rfl rfl rfl (hb.below hB1) (by simp) Tryd.underlying25 ?_)
          | ((with_reducible change wpList _ _ _ (Oper.mk (some 20) _ _ _ _ _ :: _) _ _); refine kLenN _ _ _ _ _ C.length rfl rfl rfl (hc.below hB1) (by simp) Tryd.underlying25 ?_))
        go_ret
        exact ⟨rfl, hB1⟩
    · have hd2 : decide ((B.length : Int) > 1000) = true := by simp; omega
      go_enter Tryd.func4, Tryd.ntmps4
      go_wp2_with (first
        | (go_at_call 10; refine (alive_any _ hK).mono ?_; rintro e w1 ⟨rfl, hB1⟩)
        | ((with_reducible change wpList _ _ _ (Oper.mk (some 11) _ _ _ _ _ :: _) _ _); refine kLenN _ _ _ _ _ A.length rfl rfl rfl (ha.below hB1) (by simp) Tryd.underlying25 ?_)
        | ((with_reducible change wpList _ _ _ (Oper.mk (some 15) _ _ _ _ _ :: _) _ _); refine kLenN _ _ _ _ _ B.length rfl rfl rfl (hb.below hB1) (by simp) Tryd.underlying25 ?_))
      go_ret
      exact ⟨rfl, hB1⟩
  · have hd1 : decide ((A.length : Int) > 1000) = true := by simp; omega
    go_enter Tryd.func4, Tryd.ntmps4
    go_wp2_with (first
      | (go_at_call 10; refine (alive_any _ hK).mono ?_; rintro e w1 ⟨rfl, hB1⟩)
      | ((with_reducible change wpList _ _ _ (Oper.mk (some 11) _ _ _ _ _ :: _) _ _); refine kLenN _ _ _ _ _ A.length rfl rfl rfl (ha.below hB1) (by simp) Tryd.underlying25 ?_))
    go_ret
    exact ⟨rfl, hB1⟩
end Go.Proofs.YtofaminpdcapkaaDoor
