/-
  Layer 12: the reference's Median.
-/
import Derived.Test.YtdeggdmoijfhdaaSoMem
namespace Go.Proofs.Ytdeggdmoijfhdaa
open Go Go.RowKit

theorem ret1W0 {fn : Func} {R : Ending → World → Prop} {P : Program} {a : Act} {w : World} {t : Tmp} (h : fn.results = #[.tmp t]) (hd : a.defers = []) (hR : R (.returned (a.tmps.getD t undef)) w) : bodyPost P fn R .ret a w :=
  bodyPost_ret (by simp [results, h]) hd hR
theorem find_at {l : List Nat} {p : Nat → Bool} {k x : Nat} (hk : l[k]? = some x) : (l.drop k).find? p = if p x = true then some x else (l.drop (k + 1)).find? p := by
  obtain ⟨hlt, rfl⟩ := List.getElem?_eq_some_iff.1 hk
  rw [List.drop_eq_getElem_cons hlt, List.find?_cons]
  split <;> simp_all
theorem count_at {l : List Nat} {p : Nat → Bool} {k x : Nat} (hk : l[k]? = some x) : (l.take (k + 1)).countP p = (l.take k).countP p + if p x = true then 1 else 0 := by
  obtain ⟨hlt, rfl⟩ := List.getElem?_eq_some_iff.1 hk
  rw [List.take_succ_eq_append_getElem hlt, List.countP_append]
  simp [List.countP_cons]
theorem vw_at {l : List Nat} {k : Nat} (h : k < l.length) : ∃ x, l[k]? = some x ∧ (l.map VW)[k]? = some (VW x) := ⟨l[k], List.getElem?_eq_getElem h, by rw [List.getElem?_map, List.getElem?_eq_getElem h]; rfl⟩
set_option maxRecDepth 100000 in
set_option maxHeartbeats 16000000 in
theorem qMedian_any {l : List Nat} {v : Value} {m : Nat} (w : World) (hv : IsVals w v (l.map VW)) (hl : l.length ≤ 1000) (hm : medianN l = m) : Calls Try.prog 22 #[v] w fun e w' => e = .returned (VW m) ∧ w = w' := by
  obtain ⟨N, HN⟩ : ∃ N, l.length = N := ⟨_, rfl⟩
  obtain ⟨h, Hh⟩ : ∃ h, Hid (N / 2 = h) := ⟨_, Lib.hid rfl⟩
  have f35 : Hid (N / 2 = h ∧ 0 < 2 ∧ IntKind.i64.wrap (N / 2 : Nat) = (N / 2 : Nat)) := Lib.hid ⟨Hh.out, by decide, wrap_i64N (by omega)⟩
  have hml : (l.map VW).length = N := by rw [List.length_map, HN]
  replace hm := Lib.hid hm
  go_enter Try.func22, Try.ntmps22
  go_wp2_with (first
    | ((with_reducible change wpList _ _ _ (Oper.mk (some 10) _ _ _ _ _ :: _) _ _); refine kLenN _ _ _ v _ N rfl rfl rfl hv hml Try.underlying45 ?_; go_frame))
  go_loopw [11] (fun i wr => ∃ k : Nat, k ≤ N ∧ i = .int .i64 (k : Int) ∧ wr = w ∧ Hid ((l.drop k).find? (midB l) = l.find? (midB l))) (fun i _ => (N + 2) - (intOf i).toNat)
  case atStart => exact ⟨0, Nat.zero_le _, rfl, rfl, Lib.hid rfl⟩
  case round =>
    obtain ⟨k, hk, rfl, rfl, Hk⟩ := hrel
    by_cases hlt : k < N
    · have d12 : decide ((k : Int) < (N : Int)) = true := by simp; omega
      obtain ⟨x, hx, hxv⟩ := vw_at (l := l) (k := k) (by omega)
      have hfk := find_at (p := midB l) hx
      replace hfk := Lib.hid hfk
      go_wp2_with (first
        | ((with_reducible change wpList _ _ _ (Oper.mk (some 12) _ _ _ _ _ :: _) _ _); refine kYw (yLssK _ _ _ _ .i64 (k : Int) (N : Int) true d12 rfl rfl rfl rfl) ?_; go_frame)
        | ((with_reducible change wpList _ _ _ (Oper.mk (some 13) _ _ _ _ _ :: _) _ _); refine kIndexAddrV _ _ _ _ .i64 v _ (k : Int) k (VW x) rfl rfl rfl hv rfl Try.underlying45 info_u32W rfl hxv ?_; intro b1 hb1; go_frame)
        | ((with_reducible change wpList _ _ _ (Oper.mk (some 14) _ _ _ _ _ :: _) _ _); refine kLoadCell _ _ b1 (VW x) _ rfl rfl rfl hb1 Try.underlying28 rfl ?_; clear hb1; go_frame)
        | ((with_reducible change wpList _ _ _ (Oper.mk (some 16) _ _ _ _ _ :: _) _ _); refine kLenN _ _ _ v _ N rfl rfl rfl hv hml Try.underlying45 ?_; go_frame))
      obtain ⟨c5, Hc5⟩ : ∃ c, Hid (l.countP (fun y => decide (y < x)) = c) := ⟨_, Lib.hid rfl⟩
      obtain ⟨c6, Hc6⟩ : ∃ c, Hid (l.countP (fun y => decide (y = x)) = c) := ⟨_, Lib.hid rfl⟩
      go_loopw [17, 5, 6] (fun i s t wq => ∃ (j a b : Nat), j ≤ N ∧ i = .int .i64 (j : Int) ∧ s = .int .i64 (a : Int) ∧ t = .int .i64 (b : Int) ∧ wq = wr ∧ Hid ((l.take j).countP (fun y => decide (y < x)) = a) ∧ Hid ((l.take j).countP (fun y => decide (y = x)) = b)) (fun i _ _ _ => (N + 2) - (intOf i).toNat)
      case atStart => exact ⟨0, 0, 0, Nat.zero_le _, rfl, rfl, rfl, rfl, Lib.hid rfl, Lib.hid rfl⟩
      case round =>
        obtain ⟨j, a, b, hj, rfl, rfl, rfl, rfl, Ha, Hb⟩ := hrel
        have ha : a ≤ N := by rw [← Ha.out, ← HN]; exact Nat.le_trans List.countP_le_length (by rw [List.length_take]; omega)
        have hb : b ≤ N := by rw [← Hb.out, ← HN]; exact Nat.le_trans List.countP_le_length (by rw [List.length_take]; omega)
        by_cases hjt : j < N
        · have d18 : decide ((j : Int) < (N : Int)) = true := by simp; omega
          obtain ⟨u, hu, huv⟩ := vw_at (l := l) (k := j) (by omega)
          have e1 := Lib.hid (count_at (p := fun y => decide (y < x)) hu)
          have e2 := Lib.hid (count_at (p := fun y => decide (y = x)) hu)
          rcases Nat.lt_trichotomy u x with hux | hux | hux
          · skip
            have d23 : decide ((u : Int) < (x : Int)) = true := by simp; omega
            have d28 : decide ((u : Int) = (x : Int)) = false := by simp; omega
            go_wp2_with (first
              | ((with_reducible change wpList _ _ _ (Oper.mk (some 18) _ _ _ _ _ :: _) _ _); refine kYw (yLssK _ _ _ _ .i64 (j : Int) (N : Int) true d18 rfl rfl rfl rfl) ?_; go_frame)
              | ((with_reducible change wpList _ _ _ (Oper.mk (some 19) _ _ _ _ _ :: _) _ _); refine kIndexAddrV _ _ _ _ .i64 v _ (j : Int) j (VW u) rfl rfl rfl hv rfl Try.underlying45 info_u32W rfl huv ?_; intro b2 hb2; go_frame)
              | ((with_reducible change wpList _ _ _ (Oper.mk (some 20) _ _ _ _ _ :: _) _ _); refine kLoadCell _ _ b2 (VW u) _ rfl rfl rfl hb2 Try.underlying28 rfl ?_; clear hb2; go_frame)
              | ((with_reducible change wpList _ _ _ (Oper.mk (some 23) _ _ _ _ _ :: _) _ _); refine kYw (yLssK _ _ _ _ .u32 (u : Int) (x : Int) true d23 rfl rfl rfl rfl) ?_; go_frame)
              | ((with_reducible change wpList _ _ _ (Oper.mk (some 28) _ _ _ _ _ :: _) _ _); refine kYw (yEqlK _ _ _ _ .u32 (u : Int) (x : Int) false d28 rfl rfl rfl rfl) ?_; go_frame)
              | ((with_reducible change wpList _ _ _ (Oper.mk (some 25) _ _ _ _ _ :: _) _ _); refine kYw (yAddZ _ _ _ _ (a : Int) 1 ((a + 1 : Nat) : Int) (by omega) rfl rfl rfl rfl) ?_; go_frame)
              | ((with_reducible change wpList _ _ _ (Oper.mk (some 31) _ _ _ _ _ :: _) _ _); refine kYw (yAddZ _ _ _ _ (j : Int) 1 ((j + 1 : Nat) : Int) (by omega) rfl rfl rfl rfl) ?_; go_frame))
            go_roundw
            case rel => exact ⟨j + 1, a + 1, b, by omega, rfl, rfl, rfl, by first | rfl | trivial, Lib.hid (by rw [e1.out, Ha.out]; simp; omega), Lib.hid (by rw [e2.out, Hb.out]; simp; omega)⟩
            case measure => first | (simp [intOf]; done) | (simp [intOf]; omega)
          · skip
            have d23 : decide ((u : Int) < (x : Int)) = false := by simp; omega
            have d28 : decide ((u : Int) = (x : Int)) = true := by simp; omega
            go_wp2_with (first
              | ((with_reducible change wpList _ _ _ (Oper.mk (some 18) _ _ _ _ _ :: _) _ _); refine kYw (yLssK _ _ _ _ .i64 (j : Int) (N : Int) true d18 rfl rfl rfl rfl) ?_; go_frame)
              | ((with_reducible change wpList _ _ _ (Oper.mk (some 19) _ _ _ _ _ :: _) _ _); refine kIndexAddrV _ _ _ _ .i64 v _ (j : Int) j (VW u) rfl rfl rfl hv rfl Try.underlying45 info_u32W rfl huv ?_; intro b2 hb2; go_frame)
              | ((with_reducible change wpList _ _ _ (Oper.mk (some 20) _ _ _ _ _ :: _) _ _); refine kLoadCell _ _ b2 (VW u) _ rfl rfl rfl hb2 Try.underlying28 rfl ?_; clear hb2; go_frame)
              | ((with_reducible change wpList _ _ _ (Oper.mk (some 23) _ _ _ _ _ :: _) _ _); refine kYw (yLssK _ _ _ _ .u32 (u : Int) (x : Int) false d23 rfl rfl rfl rfl) ?_; go_frame)
              | ((with_reducible change wpList _ _ _ (Oper.mk (some 28) _ _ _ _ _ :: _) _ _); refine kYw (yEqlK _ _ _ _ .u32 (u : Int) (x : Int) true d28 rfl rfl rfl rfl) ?_; go_frame)
              | ((with_reducible change wpList _ _ _ (Oper.mk (some 30) _ _ _ _ _ :: _) _ _); refine kYw (yAddZ _ _ _ _ (b : Int) 1 ((b + 1 : Nat) : Int) (by omega) rfl rfl rfl rfl) ?_; go_frame)
              | ((with_reducible change wpList _ _ _ (Oper.mk (some 31) _ _ _ _ _ :: _) _ _); refine kYw (yAddZ _ _ _ _ (j : Int) 1 ((j + 1 : Nat) : Int) (by omega) rfl rfl rfl rfl) ?_; go_frame))
            go_roundw
            case rel => exact ⟨j + 1, a, b + 1, by omega, rfl, rfl, rfl, by first | rfl | trivial, Lib.hid (by rw [e1.out, Ha.out]; simp; omega), Lib.hid (by rw [e2.out, Hb.out]; simp; omega)⟩
            case measure => first | (simp [intOf]; done) | (simp [intOf]; omega)
          · skip
            have d23 : decide ((u : Int) < (x : Int)) = false := by simp; omega
            have d28 : decide ((u : Int) = (x : Int)) = false := by simp; omega
            go_wp2_with (first
              | ((with_reducible change wpList _ _ _ (Oper.mk (some 18) _ _ _ _ _ :: _) _ _); refine kYw (yLssK _ _ _ _ .i64 (j : Int) (N : Int) true d18 rfl rfl rfl rfl) ?_; go_frame)
              | ((with_reducible change wpList _ _ _ (Oper.mk (some 19) _ _ _ _ _ :: _) _ _); refine kIndexAddrV _ _ _ _ .i64 v _ (j : Int) j (VW u) rfl rfl rfl hv rfl Try.underlying45 info_u32W rfl huv ?_; intro b2 hb2; go_frame)
              | ((with_reducible change wpList _ _ _ (Oper.mk (some 20) _ _ _ _ _ :: _) _ _); refine kLoadCell _ _ b2 (VW u) _ rfl rfl rfl hb2 Try.underlying28 rfl ?_; clear hb2; go_frame)
              | ((with_reducible change wpList _ _ _ (Oper.mk (some 23) _ _ _ _ _ :: _) _ _); refine kYw (yLssK _ _ _ _ .u32 (u : Int) (x : Int) false d23 rfl rfl rfl rfl) ?_; go_frame)
              | ((with_reducible change wpList _ _ _ (Oper.mk (some 28) _ _ _ _ _ :: _) _ _); refine kYw (yEqlK _ _ _ _ .u32 (u : Int) (x : Int) false d28 rfl rfl rfl rfl) ?_; go_frame)
              | ((with_reducible change wpList _ _ _ (Oper.mk (some 31) _ _ _ _ _ :: _) _ _); refine kYw (yAddZ _ _ _ _ (j : Int) 1 ((j + 1 : Nat) : Int) (by omega) rfl rfl rfl rfl) ?_; go_frame))
            go_roundw
            case rel => exact ⟨j + 1, a, b, by omega, rfl, rfl, rfl, by first | rfl | trivial, Lib.hid (by rw [e1.out, Ha.out]; simp; omega), Lib.hid (by rw [e2.out, Hb.out]; simp; omega)⟩
            case measure => first | (simp [intOf]; done) | (simp [intOf]; omega)
        · have d18 : decide ((j : Int) < (N : Int)) = false := by simp; omega
          have hjN : l.take j = l := List.take_of_length_le (by omega)
          have ea : l.countP (fun y => decide (y < x)) = a := by rw [← Ha.out, hjN]
          have eb : l.countP (fun y => decide (y = x)) = b := by rw [← Hb.out, hjN]
          have hmid : midB l x = (decide (a ≤ h) && decide (h < a + b)) := by unfold midB; rw [ea, eb, HN, Hh.out]
          replace hmid := Lib.hid hmid
          clear ea eb Ha Hb Hc5 Hc6
          by_cases h36 : a ≤ h
          · have d36 : decide ((a : Int) ≤ (h : Int)) = true := by simp; omega
            by_cases h44 : h < a + b
            · have d44 : decide ((h : Int) < ((a + b : Nat) : Int)) = true := by simp; omega
              go_wp2_with (first
                | ((with_reducible change wpList _ _ _ (Oper.mk (some 18) _ _ _ _ _ :: _) _ _); refine kYw (yLssK _ _ _ _ .i64 (j : Int) (N : Int) false d18 rfl rfl rfl rfl) ?_; go_frame)
                | ((with_reducible change wpList _ _ _ (Oper.mk (some 34) _ _ _ _ _ :: _) _ _); refine kLenN _ _ _ v _ N rfl rfl rfl hv hml Try.underlying45 ?_; go_frame)
                | ((with_reducible change wpList _ _ _ (Oper.mk (some 35) _ _ _ _ _ :: _) _ _); refine kYw (yQuoN .i64 _ _ _ _ N 2 h f35.out rfl rfl rfl rfl) ?_; go_frame)
                | ((with_reducible change wpList _ _ _ (Oper.mk (some 36) _ _ _ _ _ :: _) _ _); refine kYw (yLeqK _ _ _ _ .i64 (a : Int) (h : Int) true d36 rfl rfl rfl rfl) ?_; go_frame)
                | ((with_reducible change wpList _ _ _ (Oper.mk (some 39) _ _ _ _ _ :: _) _ _); refine kLenN _ _ _ v _ N rfl rfl rfl hv hml Try.underlying45 ?_; go_frame)
                | ((with_reducible change wpList _ _ _ (Oper.mk (some 40) _ _ _ _ _ :: _) _ _); refine kYw (yQuoN .i64 _ _ _ _ N 2 h f35.out rfl rfl rfl rfl) ?_; go_frame)
                | ((with_reducible change wpList _ _ _ (Oper.mk (some 43) _ _ _ _ _ :: _) _ _); refine kYw (yAddZ _ _ _ _ (a : Int) (b : Int) ((a + b : Nat) : Int) (by omega) rfl rfl rfl rfl) ?_; go_frame)
                | ((with_reducible change wpList _ _ _ (Oper.mk (some 44) _ _ _ _ _ :: _) _ _); refine kYw (yLssK _ _ _ _ .i64 (h : Int) ((a + b : Nat) : Int) true d44 rfl rfl rfl rfl) ?_; go_frame))
              (try simp only [Exit.inBlock, Exit.then])
              refine ret1W0 rfl rfl ?_
              have hmx : medianN l = x := by unfold medianN; rw [← Hk.out, hfk.out, if_pos (by rw [hmid.out]; simp; omega)]; rfl
              exact ⟨by rw [← hm.out, hmx]; rfl, rfl⟩
            · have d44 : decide ((h : Int) < ((a + b : Nat) : Int)) = false := by simp; omega
              go_wp2_with (first
                | ((with_reducible change wpList _ _ _ (Oper.mk (some 18) _ _ _ _ _ :: _) _ _); refine kYw (yLssK _ _ _ _ .i64 (j : Int) (N : Int) false d18 rfl rfl rfl rfl) ?_; go_frame)
                | ((with_reducible change wpList _ _ _ (Oper.mk (some 34) _ _ _ _ _ :: _) _ _); refine kLenN _ _ _ v _ N rfl rfl rfl hv hml Try.underlying45 ?_; go_frame)
                | ((with_reducible change wpList _ _ _ (Oper.mk (some 35) _ _ _ _ _ :: _) _ _); refine kYw (yQuoN .i64 _ _ _ _ N 2 h f35.out rfl rfl rfl rfl) ?_; go_frame)
                | ((with_reducible change wpList _ _ _ (Oper.mk (some 36) _ _ _ _ _ :: _) _ _); refine kYw (yLeqK _ _ _ _ .i64 (a : Int) (h : Int) true d36 rfl rfl rfl rfl) ?_; go_frame)
                | ((with_reducible change wpList _ _ _ (Oper.mk (some 39) _ _ _ _ _ :: _) _ _); refine kLenN _ _ _ v _ N rfl rfl rfl hv hml Try.underlying45 ?_; go_frame)
                | ((with_reducible change wpList _ _ _ (Oper.mk (some 40) _ _ _ _ _ :: _) _ _); refine kYw (yQuoN .i64 _ _ _ _ N 2 h f35.out rfl rfl rfl rfl) ?_; go_frame)
                | ((with_reducible change wpList _ _ _ (Oper.mk (some 43) _ _ _ _ _ :: _) _ _); refine kYw (yAddZ _ _ _ _ (a : Int) (b : Int) ((a + b : Nat) : Int) (by omega) rfl rfl rfl rfl) ?_; go_frame)
                | ((with_reducible change wpList _ _ _ (Oper.mk (some 44) _ _ _ _ _ :: _) _ _); refine kYw (yLssK _ _ _ _ .i64 (h : Int) ((a + b : Nat) : Int) false d44 rfl rfl rfl rfl) ?_; go_frame)
                | ((with_reducible change wpList _ _ _ (Oper.mk (some 47) _ _ _ _ _ :: _) _ _); refine kYw (yAddZ _ _ _ _ (k : Int) 1 ((k + 1 : Nat) : Int) (by omega) rfl rfl rfl rfl) ?_; go_frame))
              go_roundw
              case rel => exact ⟨k + 1, by omega, rfl, by first | rfl | trivial, Lib.hid (by rw [← Hk.out, hfk.out, if_neg (by rw [hmid.out]; simp; omega)])⟩
              case measure => first | (simp [intOf]; done) | (simp [intOf]; omega)
          · have d36 : decide ((a : Int) ≤ (h : Int)) = false := by simp; omega
            go_wp2_with (first
              | ((with_reducible change wpList _ _ _ (Oper.mk (some 18) _ _ _ _ _ :: _) _ _); refine kYw (yLssK _ _ _ _ .i64 (j : Int) (N : Int) false d18 rfl rfl rfl rfl) ?_; go_frame)
              | ((with_reducible change wpList _ _ _ (Oper.mk (some 34) _ _ _ _ _ :: _) _ _); refine kLenN _ _ _ v _ N rfl rfl rfl hv hml Try.underlying45 ?_; go_frame)
              | ((with_reducible change wpList _ _ _ (Oper.mk (some 35) _ _ _ _ _ :: _) _ _); refine kYw (yQuoN .i64 _ _ _ _ N 2 h f35.out rfl rfl rfl rfl) ?_; go_frame)
              | ((with_reducible change wpList _ _ _ (Oper.mk (some 36) _ _ _ _ _ :: _) _ _); refine kYw (yLeqK _ _ _ _ .i64 (a : Int) (h : Int) false d36 rfl rfl rfl rfl) ?_; go_frame)
              | ((with_reducible change wpList _ _ _ (Oper.mk (some 47) _ _ _ _ _ :: _) _ _); refine kYw (yAddZ _ _ _ _ (k : Int) 1 ((k + 1 : Nat) : Int) (by omega) rfl rfl rfl rfl) ?_; go_frame))
            go_roundw
            case rel => exact ⟨k + 1, by omega, rfl, by first | rfl | trivial, Lib.hid (by rw [← Hk.out, hfk.out, if_neg (by rw [hmid.out]; simp; omega)])⟩
            case measure => first | (simp [intOf]; done) | (simp [intOf]; omega)
    · have d12 : decide ((k : Int) < (N : Int)) = false := by simp; omega
      have hk0 : medianN l = 0 := by unfold medianN; rw [← Hk.out, List.drop_of_length_le (by omega)]; rfl
      go_wp2_with (first
        | ((with_reducible change wpList _ _ _ (Oper.mk (some 12) _ _ _ _ _ :: _) _ _); refine kYw (yLssK _ _ _ _ .i64 (k : Int) (N : Int) false d12 rfl rfl rfl rfl) ?_; go_frame))
      (try simp only [Exit.inBlock, Exit.then])
      refine ret1W0 rfl rfl ?_
      exact ⟨by rw [← hm.out, hk0]; rfl, rfl⟩
end Go.Proofs.Ytdeggdmoijfhdaa
