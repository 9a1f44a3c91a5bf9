/-
  The walk of the statement DigestAdds.
-/
import Derived.Test.YtofaminpdcapkaaDoorLawTellsW
namespace Go.Proofs.YtofaminpdcapkaaDoor
open Go Go.RowKit

theorem ownsRow_grown {w w' : World} {base g : Nat} {e : TypeId} {v : Value} {n : Nat} {xs : List Value} (h : w.ownsRow base e 1 v n xs) (hg : w.grownBy w' (some g)) (hlt : g < base) : w'.ownsRow base e 1 v n xs := by
  rcases h.2 with hn | ⟨g', cap, cur, rfl, hb, hrow, h1, h2, h3, h4⟩
  · exact ⟨h.1, .inl hn⟩
  · refine ⟨h.1, .inr ⟨g', cap, cur, rfl, hb, ?_, h1, h2, h3, h4⟩⟩
    rw [hg.block g' ((Array.getElem?_eq_some_iff.1 hrow).1) (by simp; omega)]
    exact hrow
theorem isLists_two {w0 w : World} {g gn : Nat} {E : TypeId} {x : Value} {l : List UInt8} (h : Row w gn E #[x, .slice none 0 0]) (hne : gn ≠ g) (hx : IsVals w0 x (l.map VB)) (hb : Below w0.heap.size w0 w) (hg : w0.heap.size ≤ g) : IsLists w g (.slice (some ⟨gn, 0, none⟩) 2 2) [l, []] :=
  ⟨[x, .slice none 0 0], rfl, isVals_lit (l := [x, .slice none 0 0]) h, fun _ e => hne (by simpa [Value.ownBlock] using e), fun i u L h1 h2 => by
    match i, h1, h2 with
    | 0, h1, h2 => simp at h1 h2; subst h1; subst h2; exact ⟨hx.below hb, fun hl => hx.old hg (fun e => hl (by simpa using e))⟩
    | 1, h1, h2 => simp at h1 h2; subst h1; subst h2; exact ⟨isVals_nil w, fun hl => absurd rfl hl⟩
    | i + 2, h1, h2 => simp at h1⟩
theorem flat_take (Ls : List (List UInt8)) (k : Nat) (h : k < Ls.length) : (Ls.take (k + 1)).flatten = (Ls.take k).flatten ++ Ls[k] := by
  rw [List.take_succ_eq_append_getElem h, List.flatten_append]; simp

set_option maxRecDepth 100000 in
set_option maxHeartbeats 2000000 in
theorem DigestAdds_any (Ls : List (List UInt8)) (v : Value) (w : World) (hK : Keys w) (hv : AreLists w v Ls) :
    Calls Tryd.prog 5 #[v] w fun e w' => e = .returned (.bool true) ∧ Below w.heap.size w w' := by
  obtain ⟨i, hi, hz, hs1, hby⟩ := byteInfo
  obtain ⟨ib, hib, hzb, hsb⟩ := bytesInfo
  have hv0 := hv
  obtain ⟨vs, hvl, hvv, hvi⟩ := hv
  have h0w : 0 < w.heap.size := block_lt_of_cell (hK 0 (by decide))
  by_cases h20 : Ls.length ≤ 20
  · have hd : decide ((Ls.length : Int) > 20) = false := by simp; omega
    go_enter Tryd.func5, Tryd.ntmps5
    go_wp2_with (first
      | (go_at_call 10; refine (alive_any _ hK).mono ?_; rintro e w1 ⟨rfl, hB1⟩; have hs1' := hB1.size)
      | ((with_reducible change wpList _ _ _ (Oper.mk (some 10) _ _ _ _ _ :: _) _ _); refine kLenN _ _ _ _ _ Ls.length rfl rfl rfl (hvv.below hB1) hvl Tryd.underlying34 ?_)
      | (go_at_call 17; refine (New_any _).mono ?_; rintro e w2 ⟨g, rfl, hH2, hg, hB2⟩; have hs2 := hB2.size)
      | ((with_reducible change wpList _ _ _ (Oper.mk (some 13) _ _ _ _ _ :: _) _ _); refine kBuildSlice0 _ _ rfl rfl Tryd.underlying25 i hi ?_; intro w3 hR3 hz3 hB3; clear hz3; have hO3 := own_empty (Nat.le_refl w2.heap.size) hR3; have hB03 := (hB1.trans (hB2.mono hs1')).trans (hB3.mono (Nat.le_trans hs1' hs2)); have hs3 := hB3.size)
      | ((with_reducible change wpList _ _ _ (Oper.mk (some 15) _ _ _ _ _ :: _) _ _); refine kLenN _ _ _ _ _ Ls.length rfl rfl rfl (hvv.below hB03) hvl Tryd.underlying34 ?_))
    have hg2 : g < w2.heap.size := by obtain ⟨bg, _, hr⟩ := hH2; exact hr.lt
    have hH3 : IsHasher w3 g [] := by obtain ⟨bg, h1, hr⟩ := hH2; exact ⟨bg, h1, hr.below hB3 hg2⟩
    have hgw : w.heap.size ≤ g := by omega
    have hw2 : w.heap.size ≤ w2.heap.size := by omega
    clear hH2 hR3 hB2 hB3 hB1 hs2 hs1'
    go_loopw [16, 4] (fun iv av wr => ∃ k : Nat, k ≤ Ls.length ∧ iv = .int .i64 (k : Int) ∧ Hid ((Ls.take k).flatten.length ≤ 300 * k) ∧ OwnBytes wr w2.heap.size av (Ls.take k).flatten ∧ IsHasher wr g (Ls.take k).flatten ∧ Below w.heap.size w wr ∧ w2.heap.size ≤ wr.heap.size) (fun iv _ _ => Ls.length - (intOf iv).toNat)
    case atStart => exact ⟨0, by omega, rfl, by simp [Hid], hO3, hH3, hB03, hs3⟩
    case round =>
      obtain ⟨k, hk, rfl, Hlen, hOr, hHr, hBr, hsr⟩ := hrel
      by_cases hlt : k < Ls.length
      · have hd2 : decide ((k : Int) < (Ls.length : Int)) = true := by simp; omega
        obtain ⟨x, hx⟩ : ∃ x, vs[k]? = some x := ⟨vs[k]'(by omega), List.getElem?_eq_getElem _⟩
        have hxv := hvi k x Ls[k] hx (List.getElem?_eq_getElem hlt)
        have hx1 := hxv.one
        have Hflat := Lib.hid (flat_take Ls k hlt)
        have hzr := hBr.size
        by_cases h300 : Ls[k].length ≤ 300
        · have hd3 : decide ((Ls[k].length : Int) > 300) = false := by simp; omega
          have Hn : Hid ((Ls.take k).flatten.length + Ls[k].length ≤ 6300) := by unfold Hid; have := Hlen.out; omega
          generalize (Ls.take k).flatten = M at *
          generalize Ls[k] = X at *
          go_wp2_with (first
            | ((with_reducible change wpList _ _ _ (Oper.mk (some 18) _ _ _ _ _ :: _) _ _); refine kIndexAddrV _ _ _ _ _ _ _ _ k x rfl rfl rfl (hvv.below hBr) rfl Tryd.underlying34 info_bytes rfl hx ?_; intro ad had)
            | ((with_reducible change wpList _ _ _ (Oper.mk (some 19) _ _ _ _ _ :: _) _ _); refine kLoadCell _ _ _ _ _ rfl rfl rfl had Tryd.underlying25 rfl ?_)
            | ((with_reducible change wpList _ _ _ (Oper.mk (some 21) _ _ _ _ _ :: _) _ _); refine kLenN _ _ _ _ _ X.length rfl rfl rfl (hxv.below hBr) (by simp) Tryd.underlying25 ?_)
            | ((with_reducible change wpList _ _ _ (Oper.mk (some 25) _ _ _ _ _ :: _) _ _); refine kBuildSlice2 _ _ _ _ x (.slice none 0 0) rfl rfl Tryd.underlying34 ib _ hib hzb hsb rfl hx1 rfl rfl ?_; intro w5 hR5 hz5 hB5; clear hz5; have hB05 := hBr.trans (hB5.mono hzr); have hO5 := ownsRow_below hOr hB5; have hs5 := hB5.size; have hH5 : IsHasher w5 g M := (by obtain ⟨bg, h1, hr⟩ := hHr; exact ⟨bg, h1, hr.below hB5 hr.lt⟩))
            | (go_at_call 18; refine (Add_any M [X, []] g _ _ (hK.below hB05) (by omega) hH5 (isLists_two hR5 (by omega) hxv hB05 hgw) (by simp) (by have := Hn.out; simp; omega)).mono ?_; rintro e w6 ⟨rfl, hH6, hG6⟩; have hB06 := hB05.trans ((Below.refl _ _).grown hG6 (by omega) (fun k hk => by cases hk; omega)); have hO6 := ownsRow_grown hO5 hG6 hg2; have hs6 := hG6.size; have hz6 := hB06.size)
            | ((with_reducible change wpList _ _ _ (Oper.mk (some 29) _ _ _ _ _ :: _) _ _); refine kAppend _ _ _ _ rfl rfl w2.heap.size i _ Tryd.underlying25 hi hz hs1 rfl _ _ (M.map VB) (X.map VB) rfl hO6 rfl (hxv.below hB06) (vb_one X) (by have := Hn.out; unfold maxLen; simp; omega) (by have := Hn.out; rw [hby]; simp; omega) (by omega) ?_; intro v7 w7 hO7 hG7; have hB67 := below_grown hO6 hG7 (by omega); have hB07 := hB06.trans (hB67.mono hw2); have hs7 := hB67.size; have hz7 := hB07.size; rw [← List.map_append] at hO7; have hV7 := isVals_own hO7; have hH7 : IsHasher w7 g (M ++ X) := (by obtain ⟨bg, h1, hr⟩ := hH6; rw [show M ++ [X, []].flatten = M ++ X by simp] at h1 hr; exact ⟨bg, h1, hr.below hB67 hg2⟩); have hg7 : g < w7.heap.size := (by omega))
            | (go_at_call 19; refine (HSum_any (M ++ X) g w7 (hK.below hB07) hH7 (by have := Hn.out; simp; omega)).mono ?_; rintro e w8 ⟨rfl, hB8⟩; have hB08 := hB07.trans (hB8.mono hz7); have hs8 := hB8.size; have hH8 : IsHasher w8 g (M ++ X) := (by obtain ⟨bg, h1, hr⟩ := hH7; exact ⟨bg, h1, hr.below hB8 hg7⟩))
            | (go_at_call 12; refine (rSum_any (M ++ X) v7 _ (hV7.below hB8) (by have := Hn.out; simp; omega)).mono ?_; rintro e w9 ⟨rfl, hB9⟩; have hB79 := hB8.trans (hB9.mono hs8); have hB09 := hB07.trans (hB79.mono hz7); have hs9 := hB79.size; have hz9 := hB09.size; have hH9 : IsHasher w9 g (M ++ X) := (by obtain ⟨bg, h1, hr⟩ := hH7; exact ⟨bg, h1, hr.below hB79 hg7⟩))
            | ((with_reducible change wpList _ _ _ (Oper.mk (some 34) _ _ _ _ _ :: _) _ _); refine kNeqArr _ _ _ _ _ 32 .u8 _ (fun j => _) (fun j => _) false rfl rfl rfl rfl Tryd.underlying23 Tryd.underlying5 info_byte (by kernel_rfl) (by rw [all_refl]; rfl) ?_)
            | (go_at_call 19; refine (HSum_any (M ++ X) g w9 (hK.below hB09) hH9 (by have := Hn.out; simp; omega)).mono ?_; rintro e w10 ⟨rfl, hB10⟩; have hB710 := hB79.trans (hB10.mono hs9); have hB010 := hB07.trans (hB710.mono hz7); have hs10 := hB710.size; have hz10 := hB010.size)
            | ((with_reducible change wpList _ _ _ (Oper.mk (some 39) _ _ _ _ _ :: _) _ _); refine kBuildSlice1 _ _ _ v7 rfl rfl Tryd.underlying34 ib _ hib hzb hsb rfl hV7.one ?_; intro w11 hR11 hz11 hB11; clear hz11; have hB711 := hB710.trans (hB11.mono hs10); have hB011 := hB07.trans (hB711.mono hz7); have hs11 := hB711.size)
            | (go_at_call 9; refine (Sum_any [M ++ X] _ _ (hK.below hB011) (areLists_one hR11 (hV7.below hB711)) (by simp) (by have := Hn.out; simp; omega)).mono ?_; rintro e w12 ⟨rfl, hB12⟩; have hB712 := hB711.trans (hB12.mono hs11); rw [show [M ++ X].flatten = M ++ X by simp])
            | ((with_reducible change wpList _ _ _ (Oper.mk (some 41) _ _ _ _ _ :: _) _ _); refine kNeqArr _ _ _ _ _ 32 .u8 _ (fun j => _) (fun j => _) false rfl rfl rfl rfl Tryd.underlying23 Tryd.underlying5 info_byte (by kernel_rfl) (by rw [all_refl]; rfl) ?_))
          go_roundw
          case rel =>
            refine ⟨k + 1, by omega, by go_num, ?_, ?_, ?_, hB07.trans (hB712.mono hz7), ?_⟩
            · rw [Hflat.out]; have := Hlen.out; unfold Hid; simp; omega
            · rw [Hflat.out]; unfold OwnBytes; exact ownsRow_below hO7 hB712
            · rw [Hflat.out]; obtain ⟨bg, h1, hr⟩ := hH7; exact ⟨bg, h1, hr.below hB712 hg7⟩
            · have := hB712.size; omega
          case measure => simp [intOf]; omega
        · have hd3 : decide ((Ls[k].length : Int) > 300) = true := by simp; omega
          go_wp2_with (first
            | ((with_reducible change wpList _ _ _ (Oper.mk (some 18) _ _ _ _ _ :: _) _ _); refine kIndexAddrV _ _ _ _ _ _ _ _ k x rfl rfl rfl (hvv.below hBr) rfl Tryd.underlying34 info_bytes rfl hx ?_; intro ad had)
            | ((with_reducible change wpList _ _ _ (Oper.mk (some 19) _ _ _ _ _ :: _) _ _); refine kLoadCell _ _ _ _ _ rfl rfl rfl had Tryd.underlying25 rfl ?_)
            | ((with_reducible change wpList _ _ _ (Oper.mk (some 21) _ _ _ _ _ :: _) _ _); refine kLenN _ _ _ _ _ Ls[k].length rfl rfl rfl (hxv.below hBr) (by simp) Tryd.underlying25 ?_))
          go_ret
          exact ⟨rfl, hBr⟩
      · have hd2 : decide ((k : Int) < (Ls.length : Int)) = false := by simp; omega
        go_wp2
        go_ret
        exact ⟨rfl, hBr⟩
  · have hd : decide ((Ls.length : Int) > 20) = true := by simp; omega
    go_enter Tryd.func5, Tryd.ntmps5
    go_wp2_with (first
      | (go_at_call 10; refine (alive_any _ hK).mono ?_; rintro e w1 ⟨rfl, hB1⟩)
      | ((with_reducible change wpList _ _ _ (Oper.mk (some 10) _ _ _ _ _ :: _) _ _); refine kLenN _ _ _ _ _ Ls.length rfl rfl rfl (hvv.below hB1) hvl Tryd.underlying34 ?_))
    go_ret
    exact ⟨rfl, hB1⟩
end Go.Proofs.YtofaminpdcapkaaDoor
