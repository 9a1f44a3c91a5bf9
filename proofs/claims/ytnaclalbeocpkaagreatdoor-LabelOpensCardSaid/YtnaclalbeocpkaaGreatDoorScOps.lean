/-
  Layer 7: the walks of the runner's words.
-/
import Derived.Test.YtnaclalbeocpkaaGreatDoorScMem
namespace Go.Proofs.YtnaclalbeocpkaaGreatDoor
open Go Go.RowKit

/-- what a word does that is not skipped, and that finds what it needs: the state, and the error's number -/
def doG (E : Env) (c : UInt8) (d : List UInt8) (s : SSt) : Option (SSt × Nat) :=
  if isBr c then some (branchS s c) else (if pushesB c then some (d :: s.stack, 0) else opS E c s.stack).map fun q => (⟨q.1, s.ways⟩, q.2)
theorem do_skipS {E : Env} {c : UInt8} {d : List UInt8} {s : SSt} (hg : goesB s = false) : doS E c d s = if isBr c then some (branchS s c) else some (s, 0) := by
  unfold doS; rw [hg]; rfl
theorem do_goes {E : Env} {c : UInt8} {d : List UInt8} {s : SSt} (hg : goesB s = true) : doS E c d s = (doG E c d s).map fun p => (p.1, if isBr c then p.2 else if p.2 ≠ 0 then p.2 else if 100 < p.1.stack.length then 73 else 0) := by
  unfold doS doG
  rw [hg, if_pos rfl]
  cases isBr c with
  | true => rfl
  | false => simp only [Bool.false_eq_true, if_false, Option.map_map]; rfl
theorem do_need {E : Env} {c : UInt8} {d : List UInt8} {s : SSt} (hg : goesB s = true) (hn : s.stack.length < needN c) : ∃ t, doS E c d s = some (t, 72) := by
  obtain ⟨st, ws⟩ := s
  have hn' : st.length < needN c := hn
  have hg2 : ws.all id = true := hg
  unfold needN at hn'
  split at hn'
  · rename_i hc
    have h0 : st = [] := List.length_eq_zero_iff.1 (by omega)
    subst h0
    rcases hc with rfl | rfl | rfl | rfl | rfl | rfl | rfl | rfl <;> simp [doS, isBr, branchS, goesB, hg2, pushesB, opS]
  · split at hn'
    · rename_i hc
      match st, hn' with
      | [], _ => rcases hc with rfl | rfl | rfl | rfl | rfl | rfl | rfl <;> simp [doS, isBr, goesB, hg2, pushesB, opS]
      | [x], _ => rcases hc with rfl | rfl | rfl | rfl | rfl | rfl | rfl <;> simp [doS, isBr, goesB, hg2, pushesB, opS]
    · omega
/-- the answer of a word that was done -/
def DoPost (base : Nat) (hs : List Value) (Gs : List (Nat × Obj)) (g n : Nat) (w : World) (q : SSt × Nat) (en : Ending) (w' : World) : Prop := en = .returned (.int .i64 (q.2 : Int)) ∧ (q.2 = 0 → Rn base hs Gs w' g q.1 n) ∧ Fr base w w'
/-- sums and signatures, where they are given, are the program's -/
structure EnvOk (E : Env) (hs : List Value) (Gs : List (Nat × Obj)) : Prop where
  sum : ∀ {base g n : Nat} {x s : List UInt8} {st : List (List UInt8)} {ws : List Bool} (w : World), Rn base hs Gs w g ⟨x :: st, ws⟩ n → E.sum x = some s → Calls Tryz.prog 45 #[.pointer (some ⟨g, 0, none⟩), .int .u8 168] w (DoPost base hs Gs g n w (⟨s :: st, ws⟩, 0))
  short : ∀ {base g n : Nat} {x s : List UInt8} {st : List (List UInt8)} {ws : List Bool} (w : World), Rn base hs Gs w g ⟨x :: st, ws⟩ n → E.short x = some s → Calls Tryz.prog 45 #[.pointer (some ⟨g, 0, none⟩), .int .u8 169] w (DoPost base hs Gs g n w (⟨s :: st, ws⟩, 0))
  sig : ∀ {base g n : Nat} {x y : List UInt8} {b : Bool} {st : List (List UInt8)} {ws : List Bool} (w : World), Rn base hs Gs w g ⟨x :: y :: st, ws⟩ n → E.sig x y = some b → Calls Tryz.prog 44 #[.pointer (some ⟨g, 0, none⟩)] w fun e w' => ∃ v, e = .returned v ∧ BV w' v (truthL b) ∧ Rn base hs Gs w' g ⟨st, ws⟩ n ∧ Fr base w w'
theorem calm_ok (hs : List Value) (Gs : List (Nat × Obj)) : EnvOk calm hs Gs := ⟨fun _ _ h => (by cases h), fun _ _ h => (by cases h), fun _ _ h => (by cases h)⟩
theorem Rn.len {base : Nat} {hs : List Value} {Gs : List (Nat × Obj)} {w : World} {g n : Nat} {x : List UInt8} {st : List (List UInt8)} {ws : List Bool} (h : Rn base hs Gs w g ⟨x :: st, ws⟩ n) : x.length ≤ 1000 := by
  obtain ⟨sv, bv, vs, h⟩ := h; exact h.pl x (by simp)
theorem Rn.sl {base : Nat} {hs : List Value} {Gs : List (Nat × Obj)} {w : World} {g n : Nat} {s : SSt} (h : Rn base hs Gs w g s n) : s.stack.length ≤ 5000 := by
  obtain ⟨sv, bv, vs, h⟩ := h; exact h.sl
theorem truthL_len (b : Bool) : (truthL b).length ≤ 1000 := by cases b <;> simp [truthL]
set_option maxRecDepth 100000 in
set_option maxHeartbeats 8000000 in
theorem scPopSame_any {base : Nat} {hs : List Value} {Gs : List (Nat × Obj)} {g : Nat} {n : Nat} {x y : List UInt8} {st : List (List UInt8)} {ws : List Bool} (w : World) (h : Rn base hs Gs w g ⟨x :: y :: st, ws⟩ n) : Calls Tryz.prog 43 #[.pointer (some ⟨g, 0, none⟩)] w fun e w' => ∃ v, e = .returned v ∧ BV w' v (truthL (x == y)) ∧ Rn base hs Gs w' g ⟨st, ws⟩ n ∧ Fr base w w' := by
  go_enter Tryz.func43, Tryz.ntmps43
  go_wp2_with (first
    | (go_at_call 42; refine (scPop_any _ h).mono ?_; rintro e w1 ⟨v1, rfl, hV1, hR1, hF1⟩; go_frame)
    | (go_at_call 42; refine (scPop_any _ hR1).mono ?_; rintro e w2 ⟨v2, rfl, hV2, hR2, hF2⟩; have hV3 := hV1.keep hF2.kb; have hF3 := hF1.trans hF2; clear h hR1 hV1 hF1 hF2; go_frame)
    | (go_at_call 46; refine (bEqual_any _ hV3.vals hV2.vals).mono ?_; rintro e w3 ⟨rfl, rfl⟩; go_frame)
    | (go_at_call 50; refine (scTruth_any _ _).mono ?_; rintro e w4 ⟨v4, rfl, hO4, hB4⟩; have hR4 := hR2.below hB4; have hF4 := hF3.trans (fr_below hB4 hR2.le); clear hV3 hV2 hR2 hF3 hB4; go_frame))
  go_ret
  exact ⟨_, rfl, hO4.bv, hR4, hF4⟩
set_option maxRecDepth 100000 in
set_option maxHeartbeats 8000000 in
theorem scChange_97 {base : Nat} {hs : List Value} {Gs : List (Nat × Obj)} {g : Nat} {n : Nat} {st : List (List UInt8)} {ws : List Bool} (w : World) (h : Rn base hs Gs w g ⟨st, ws⟩ n) : Calls Tryz.prog 45 #[.pointer (some ⟨g, 0, none⟩), .int .u8 97] w (DoPost base hs Gs g n w (⟨st, ws⟩, 0)) := by
  go_enter Tryz.func45, Tryz.ntmps45
  go_wp2
  go_ret
  exact ⟨rfl, fun _ => h, Fr.refl _ _⟩
set_option maxRecDepth 100000 in
set_option maxHeartbeats 8000000 in
theorem scChange_109 {base : Nat} {hs : List Value} {Gs : List (Nat × Obj)} {g : Nat} {n : Nat} {x y : List UInt8} {st : List (List UInt8)} {ws : List Bool} (w : World) (h : Rn base hs Gs w g ⟨x :: y :: st, ws⟩ n) : Calls Tryz.prog 45 #[.pointer (some ⟨g, 0, none⟩), .int .u8 109] w (DoPost base hs Gs g n w (⟨st, ws⟩, 0)) := by
  go_enter Tryz.func45, Tryz.ntmps45
  go_wp2_with (first
    | (go_at_call 42; refine (scPop_any _ h).mono ?_; rintro e w1 ⟨v1, rfl, hV1, hR1, hF1⟩; go_frame)
    | (go_at_call 42; refine (scPop_any _ hR1).mono ?_; rintro e w2 ⟨v2, rfl, hV2, hR2, hF2⟩; go_frame))
  go_ret
  exact ⟨rfl, fun _ => hR2, hF1.trans hF2⟩
set_option maxRecDepth 100000 in
set_option maxHeartbeats 8000000 in
theorem scChange_117 {base : Nat} {hs : List Value} {Gs : List (Nat × Obj)} {g : Nat} {n : Nat} {x : List UInt8} {st : List (List UInt8)} {ws : List Bool} (w : World) (h : Rn base hs Gs w g ⟨x :: st, ws⟩ n) : Calls Tryz.prog 45 #[.pointer (some ⟨g, 0, none⟩), .int .u8 117] w (DoPost base hs Gs g n w (⟨st, ws⟩, 0)) := by
  go_enter Tryz.func45, Tryz.ntmps45
  go_wp2_with (first
    | (go_at_call 42; refine (scPop_any _ h).mono ?_; rintro e w1 ⟨v1, rfl, hV1, hR1, hF1⟩; go_frame))
  go_ret
  exact ⟨rfl, fun _ => hR1, hF1⟩
set_option maxRecDepth 100000 in
set_option maxHeartbeats 8000000 in
theorem scChange_118 {base : Nat} {hs : List Value} {Gs : List (Nat × Obj)} {g : Nat} {n : Nat} {x : List UInt8} {st : List (List UInt8)} {ws : List Bool} (w : World) (h : Rn base hs Gs w g ⟨x :: st, ws⟩ n) (hsl : st.length < 4000) : Calls Tryz.prog 45 #[.pointer (some ⟨g, 0, none⟩), .int .u8 118] w (DoPost base hs Gs g n w (⟨x :: x :: st, ws⟩, 0)) := by
  go_enter Tryz.func45, Tryz.ntmps45
  go_wp2_with (first
    | (go_at_call 15; refine (scBelow_any (k := 0) _ h rfl).mono ?_; rintro e w1 ⟨v1, rfl, hV1, hR1, hB1⟩; have hF1 := fr_below hB1 h.le; go_frame)
    | (go_at_call 41; refine (scPushP_any _ hR1 hV1 h.len (show st.length + 1 < 5000 by omega)).mono ?_; rintro e w2 ⟨rfl, hR2, hF2⟩; go_frame))
  go_ret
  exact ⟨rfl, fun _ => hR2, hF1.trans hF2⟩
set_option maxRecDepth 100000 in
set_option maxHeartbeats 8000000 in
theorem scChange_120 {base : Nat} {hs : List Value} {Gs : List (Nat × Obj)} {g : Nat} {n : Nat} {x y : List UInt8} {st : List (List UInt8)} {ws : List Bool} (w : World) (h : Rn base hs Gs w g ⟨x :: y :: st, ws⟩ n) (hsl : st.length < 4000) : Calls Tryz.prog 45 #[.pointer (some ⟨g, 0, none⟩), .int .u8 120] w (DoPost base hs Gs g n w (⟨y :: x :: y :: st, ws⟩, 0)) := by
  have hyl : y.length ≤ 1000 := by obtain ⟨sv, bv, vs, h⟩ := h; exact h.pl y (by simp)
  go_enter Tryz.func45, Tryz.ntmps45
  go_wp2_with (first
    | (go_at_call 15; refine (scBelow_any (k := 1) _ h rfl).mono ?_; rintro e w1 ⟨v1, rfl, hV1, hR1, hB1⟩; have hF1 := fr_below hB1 h.le; go_frame)
    | (go_at_call 41; refine (scPushP_any _ hR1 hV1 hyl (show st.length + 2 < 5000 by omega)).mono ?_; rintro e w2 ⟨rfl, hR2, hF2⟩; go_frame))
  go_ret
  exact ⟨rfl, fun _ => hR2, hF1.trans hF2⟩
set_option maxRecDepth 100000 in
set_option maxHeartbeats 8000000 in
theorem scChange_124 {base : Nat} {hs : List Value} {Gs : List (Nat × Obj)} {g : Nat} {n : Nat} {x y : List UInt8} {st : List (List UInt8)} {ws : List Bool} (w : World) (h : Rn base hs Gs w g ⟨x :: y :: st, ws⟩ n) (hsl : st.length < 4000) : Calls Tryz.prog 45 #[.pointer (some ⟨g, 0, none⟩), .int .u8 124] w (DoPost base hs Gs g n w (⟨y :: x :: st, ws⟩, 0)) := by
  go_enter Tryz.func45, Tryz.ntmps45
  go_wp2_with (first
    | (go_at_call 42; refine (scPop_any _ h).mono ?_; rintro e w1 ⟨v1, rfl, hV1, hR1, hF1⟩; go_frame)
    | (go_at_call 42; refine (scPop_any _ hR1).mono ?_; rintro e w2 ⟨v2, rfl, hV2, hR2, hF2⟩; have hV3 := hV1.keep hF2.kb; have hF3 := hF1.trans hF2; have hyl := hR1.len; clear hR1 hV1 hF1 hF2; go_frame)
    | (go_at_call 41; refine (scPushP_any _ hR2 hV3 h.len (show st.length < 5000 by omega)).mono ?_; rintro e w4 ⟨rfl, hR4, hF4⟩; have hV4 := hV2.keep hF4.kb; have hF5 := hF3.trans hF4; clear hR2 hV3 hF3 hF4; go_frame)
    | (go_at_call 41; refine (scPushP_any _ hR4 hV4 hyl (show st.length + 1 < 5000 by omega)).mono ?_; rintro e w6 ⟨rfl, hR6, hF6⟩; go_frame))
  go_ret
  exact ⟨rfl, fun _ => hR6, hF5.trans hF6⟩
set_option maxRecDepth 100000 in
set_option maxHeartbeats 8000000 in
theorem scChange_130 {base : Nat} {hs : List Value} {Gs : List (Nat × Obj)} {g : Nat} {n : Nat} {x : List UInt8} {st : List (List UInt8)} {ws : List Bool} (w : World) (h : Rn base hs Gs w g ⟨x :: st, ws⟩ n) (hsl : st.length < 4000) : Calls Tryz.prog 45 #[.pointer (some ⟨g, 0, none⟩), .int .u8 130] w (DoPost base hs Gs g n w (⟨sizeL x.length :: x :: st, ws⟩, 0)) := by
  go_enter Tryz.func45, Tryz.ntmps45
  go_wp2_with (first
    | (go_at_call 15; refine (scBelow_any (k := 0) _ h rfl).mono ?_; rintro e w1 ⟨v1, rfl, hV1, hR1, hB1⟩; have hF1 := fr_below hB1 h.le; go_frame)
    | (go_at_call 54; refine (scLengthBytes_any _ hV1.vals (by have := h.len; omega)).mono ?_; rintro e w2 ⟨v2, rfl, hO2, hB2⟩; have hR2 := hR1.below hB2; have hF2 := hF1.trans (fr_below hB2 hR1.le); clear hV1 hF1 hB2; go_frame)
    | (go_at_call 41; refine (scPushP_any _ hR2 hO2.bv (by have := sizeL_len x.length; omega) (show st.length + 1 < 5000 by omega)).mono ?_; rintro e w3 ⟨rfl, hR3, hF3⟩; go_frame))
  go_ret
  exact ⟨rfl, fun _ => hR3, hF2.trans hF3⟩
set_option maxRecDepth 100000 in
set_option maxHeartbeats 8000000 in
theorem scChange_135 {base : Nat} {hs : List Value} {Gs : List (Nat × Obj)} {g : Nat} {n : Nat} {x y : List UInt8} {st : List (List UInt8)} {ws : List Bool} (w : World) (h : Rn base hs Gs w g ⟨x :: y :: st, ws⟩ n) (hsl : st.length < 4000) : Calls Tryz.prog 45 #[.pointer (some ⟨g, 0, none⟩), .int .u8 135] w (DoPost base hs Gs g n w (⟨truthL (x == y) :: st, ws⟩, 0)) := by
  go_enter Tryz.func45, Tryz.ntmps45
  go_wp2_with (first
    | (go_at_call 43; refine (scPopSame_any _ h).mono ?_; rintro e w1 ⟨v1, rfl, hV1, hR1, hF1⟩; go_frame)
    | (go_at_call 41; refine (scPushP_any _ hR1 hV1 (truthL_len _) (show st.length < 5000 by omega)).mono ?_; rintro e w2 ⟨rfl, hR2, hF2⟩; go_frame))
  go_ret
  exact ⟨rfl, fun _ => hR2, hF1.trans hF2⟩
set_option maxRecDepth 100000 in
set_option maxHeartbeats 8000000 in
theorem scChange_172 {base : Nat} {hs : List Value} {Gs : List (Nat × Obj)} {g : Nat} {n : Nat} {x y : List UInt8} {b : Bool} {st : List (List UInt8)} {ws : List Bool} {E : Env} (hE : EnvOk E hs Gs) (w : World) (h : Rn base hs Gs w g ⟨x :: y :: st, ws⟩ n) (hsl : st.length < 4000) (hb : E.sig x y = some b) : Calls Tryz.prog 45 #[.pointer (some ⟨g, 0, none⟩), .int .u8 172] w (DoPost base hs Gs g n w (⟨truthL b :: st, ws⟩, 0)) := by
  go_enter Tryz.func45, Tryz.ntmps45
  go_wp2_with (first
    | (go_at_call 44; refine (hE.sig _ h hb).mono ?_; rintro e w1 ⟨v1, rfl, hV1, hR1, hF1⟩; go_frame)
    | (go_at_call 41; refine (scPushP_any _ hR1 hV1 (truthL_len _) (show st.length < 5000 by omega)).mono ?_; rintro e w2 ⟨rfl, hR2, hF2⟩; go_frame))
  go_ret
  exact ⟨rfl, fun _ => hR2, hF1.trans hF2⟩
set_option maxRecDepth 100000 in
set_option maxHeartbeats 8000000 in
theorem scChange_none {g : Nat} (c : UInt8) (hc : c ≠ 97 ∧ c ≠ 109 ∧ c ≠ 117 ∧ c ≠ 118 ∧ c ≠ 120 ∧ c ≠ 124 ∧ c ≠ 130 ∧ c ≠ 135 ∧ c ≠ 168 ∧ c ≠ 169 ∧ c ≠ 172) (w : World) : Calls Tryz.prog 45 #[.pointer (some ⟨g, 0, none⟩), VB c] w fun e w' => e = .returned (.int .i64 71) ∧ w' = w := by
  obtain ⟨k97, k109, k117, k118, k120, k124, k130, k135, k168, k169, k172⟩ := hc
  have e97 := B_neS k97
  have e109 := B_neS k109
  have e117 := B_neS k117
  have e118 := B_neS k118
  have e120 := B_neS k120
  have e124 := B_neS k124
  have e130 := B_neS k130
  have e135 := B_neS k135
  have e168 := B_neS k168
  have e169 := B_neS k169
  have e172 := B_neS k172
  clear k97 k109 k117 k118 k120 k124 k130 k135 k168 k169 k172
  go_enter Tryz.func45, Tryz.ntmps45
  go_wp2_with (first
    | ((with_reducible change wpList _ _ _ (Oper.mk (some 11) _ _ _ _ _ :: _) _ _); refine kEqlI _ _ _ _ .u8 (B c) (B 97) false rfl rfl rfl rfl e97 ?_; go_frame)
    | ((with_reducible change wpList _ _ _ (Oper.mk (some 13) _ _ _ _ _ :: _) _ _); refine kEqlI _ _ _ _ .u8 (B c) (B 109) false rfl rfl rfl rfl e109 ?_; go_frame)
    | ((with_reducible change wpList _ _ _ (Oper.mk (some 19) _ _ _ _ _ :: _) _ _); refine kEqlI _ _ _ _ .u8 (B c) (B 117) false rfl rfl rfl rfl e117 ?_; go_frame)
    | ((with_reducible change wpList _ _ _ (Oper.mk (some 23) _ _ _ _ _ :: _) _ _); refine kEqlI _ _ _ _ .u8 (B c) (B 118) false rfl rfl rfl rfl e118 ?_; go_frame)
    | ((with_reducible change wpList _ _ _ (Oper.mk (some 29) _ _ _ _ _ :: _) _ _); refine kEqlI _ _ _ _ .u8 (B c) (B 120) false rfl rfl rfl rfl e120 ?_; go_frame)
    | ((with_reducible change wpList _ _ _ (Oper.mk (some 35) _ _ _ _ _ :: _) _ _); refine kEqlI _ _ _ _ .u8 (B c) (B 124) false rfl rfl rfl rfl e124 ?_; go_frame)
    | ((with_reducible change wpList _ _ _ (Oper.mk (some 47) _ _ _ _ _ :: _) _ _); refine kEqlI _ _ _ _ .u8 (B c) (B 130) false rfl rfl rfl rfl e130 ?_; go_frame)
    | ((with_reducible change wpList _ _ _ (Oper.mk (some 54) _ _ _ _ _ :: _) _ _); refine kEqlI _ _ _ _ .u8 (B c) (B 135) false rfl rfl rfl rfl e135 ?_; go_frame)
    | ((with_reducible change wpList _ _ _ (Oper.mk (some 60) _ _ _ _ _ :: _) _ _); refine kEqlI _ _ _ _ .u8 (B c) (B 168) false rfl rfl rfl rfl e168 ?_; go_frame)
    | ((with_reducible change wpList _ _ _ (Oper.mk (some 69) _ _ _ _ _ :: _) _ _); refine kEqlI _ _ _ _ .u8 (B c) (B 169) false rfl rfl rfl rfl e169 ?_; go_frame)
    | ((with_reducible change wpList _ _ _ (Oper.mk (some 78) _ _ _ _ _ :: _) _ _); refine kEqlI _ _ _ _ .u8 (B c) (B 172) false rfl rfl rfl rfl e172 ?_; go_frame))
  go_ret
  exact ⟨rfl, rfl⟩
set_option maxRecDepth 100000 in
set_option maxHeartbeats 8000000 in
theorem scDo_change {base : Nat} {hs : List Value} {Gs : List (Nat × Obj)} {g n : Nat} {v : Value} {c : UInt8} {q : SSt × Nat} (hp : pushesB c = false) (hc : c ≠ 99 ∧ c ≠ 100 ∧ c ≠ 103 ∧ c ≠ 104 ∧ c ≠ 105 ∧ c ≠ 106 ∧ c ≠ 136 ∧ c ≠ 173) (w : World) (h : Calls Tryz.prog 45 #[.pointer (some ⟨g, 0, none⟩), VB c] w (DoPost base hs Gs g n w q)) : Calls Tryz.prog 29 #[.pointer (some ⟨g, 0, none⟩), VB c, v] w (DoPost base hs Gs g n w q) := by
  obtain ⟨k99, k100, k103, k104, k105, k106, k136, k173⟩ := hc
  have e99 := B_neS k99
  have e100 := B_neS k100
  have e103 := B_neS k103
  have e104 := B_neS k104
  have e105 := B_neS k105
  have e106 := B_neS k106
  have e136 := B_neS k136
  have e173 := B_neS k173
  clear k99 k100 k103 k104 k105 k106 k136 k173
  go_enter Tryz.func29, Tryz.ntmps29
  go_wp2_with (first
    | (go_at_call 24; refine (scIsPush_any _ _).mono ?_; rintro e w1 ⟨rfl, rfl⟩; rw [hp]; go_frame)
    | ((with_reducible change wpList _ _ _ (Oper.mk (some 17) _ _ _ _ _ :: _) _ _); refine kEqlI _ _ _ _ .u8 (B c) (B 99) false rfl rfl rfl rfl e99 ?_; go_frame)
    | ((with_reducible change wpList _ _ _ (Oper.mk (some 24) _ _ _ _ _ :: _) _ _); refine kEqlI _ _ _ _ .u8 (B c) (B 100) false rfl rfl rfl rfl e100 ?_; go_frame)
    | ((with_reducible change wpList _ _ _ (Oper.mk (some 32) _ _ _ _ _ :: _) _ _); refine kEqlI _ _ _ _ .u8 (B c) (B 103) false rfl rfl rfl rfl e103 ?_; go_frame)
    | ((with_reducible change wpList _ _ _ (Oper.mk (some 36) _ _ _ _ _ :: _) _ _); refine kEqlI _ _ _ _ .u8 (B c) (B 104) false rfl rfl rfl rfl e104 ?_; go_frame)
    | ((with_reducible change wpList _ _ _ (Oper.mk (some 40) _ _ _ _ _ :: _) _ _); refine kEqlI _ _ _ _ .u8 (B c) (B 105) false rfl rfl rfl rfl e105 ?_; go_frame)
    | ((with_reducible change wpList _ _ _ (Oper.mk (some 45) _ _ _ _ _ :: _) _ _); refine kEqlI _ _ _ _ .u8 (B c) (B 106) false rfl rfl rfl rfl e106 ?_; go_frame)
    | ((with_reducible change wpList _ _ _ (Oper.mk (some 47) _ _ _ _ _ :: _) _ _); refine kEqlI _ _ _ _ .u8 (B c) (B 136) false rfl rfl rfl rfl e136 ?_; go_frame)
    | ((with_reducible change wpList _ _ _ (Oper.mk (some 52) _ _ _ _ _ :: _) _ _); refine kEqlI _ _ _ _ .u8 (B c) (B 173) false rfl rfl rfl rfl e173 ?_; go_frame)
    | (go_at_call 45; refine (h).mono ?_; rintro e w2 ⟨rfl, hR2, hF2⟩; go_frame))
  go_ret
  exact ⟨rfl, hR2, hF2⟩
set_option maxRecDepth 100000 in
set_option maxHeartbeats 8000000 in
theorem scDo_push {base : Nat} {hs : List Value} {Gs : List (Nat × Obj)} {g : Nat} {n : Nat} {s : SSt} {v : Value} {c : UInt8} {d : List UInt8} (hp : pushesB c = true) (w : World) (h : Rn base hs Gs w g s n) (hv : BV w v d) (hd : d.length ≤ 520) (hsl : s.stack.length < 4000) : Calls Tryz.prog 29 #[.pointer (some ⟨g, 0, none⟩), VB c, v] w (DoPost base hs Gs g n w (⟨d :: s.stack, s.ways⟩, 0)) := by
  go_enter Tryz.func29, Tryz.ntmps29
  go_wp2_with (first
    | (go_at_call 24; refine (scIsPush_any _ _).mono ?_; rintro e w1 ⟨rfl, rfl⟩; rw [hp]; go_frame)
    | (go_at_call 41; refine (scPushP_any _ h hv (by omega) (by omega)).mono ?_; rintro e w2 ⟨rfl, hR2, hF2⟩; go_frame))
  go_ret
  exact ⟨rfl, fun _ => hR2, hF2⟩
set_option maxRecDepth 100000 in
set_option maxHeartbeats 8000000 in
theorem scDo_99 {base : Nat} {hs : List Value} {Gs : List (Nat × Obj)} {g : Nat} {n : Nat} {v : Value} {x : List UInt8} {st : List (List UInt8)} {ws : List Bool} (w : World) (h : Rn base hs Gs w g ⟨x :: st, ws⟩ n) (hwl : ws.length < 5000) : Calls Tryz.prog 29 #[.pointer (some ⟨g, 0, none⟩), .int .u8 99, v] w (DoPost base hs Gs g n w (⟨st, trueB x :: ws⟩, 0)) := by
  have hp : pushesB 99 = false := by decide
  have hpc : ∀ w, Calls Tryz.prog 24 #[.int .u8 99] w fun e w' => e = .returned (.bool false) ∧ w' = w := fun w => hp ▸ scIsPush_any 99 w
  go_enter Tryz.func29, Tryz.ntmps29
  go_wp2_with (first
    | (go_at_call 24; refine (hpc _).mono ?_; rintro e w0 ⟨rfl, rfl⟩; clear hpc hp; go_frame)
    | (go_at_call 42; refine (scPop_any _ h).mono ?_; rintro e w1 ⟨v1, rfl, hV1, hR1, hF1⟩; go_frame)
    | (go_at_call 30; refine (scTrue_any _ hV1.vals (by have := h.len; omega)).mono ?_; rintro e w2 ⟨rfl, rfl⟩; go_frame)
    | (go_at_call 38; refine (scBegin_any _ _ hR1 hwl).mono ?_; rintro e w3 ⟨rfl, hR3, hF3⟩; go_frame))
  go_ret
  exact ⟨rfl, fun _ => hR3, hF1.trans hF3⟩
set_option maxRecDepth 100000 in
set_option maxHeartbeats 8000000 in
theorem scDo_100 {base : Nat} {hs : List Value} {Gs : List (Nat × Obj)} {g : Nat} {n : Nat} {v : Value} {x : List UInt8} {st : List (List UInt8)} {ws : List Bool} (w : World) (h : Rn base hs Gs w g ⟨x :: st, ws⟩ n) (hwl : ws.length < 5000) : Calls Tryz.prog 29 #[.pointer (some ⟨g, 0, none⟩), .int .u8 100, v] w (DoPost base hs Gs g n w (⟨st, (!trueB x) :: ws⟩, 0)) := by
  have hp : pushesB 100 = false := by decide
  have hpc : ∀ w, Calls Tryz.prog 24 #[.int .u8 100] w fun e w' => e = .returned (.bool false) ∧ w' = w := fun w => hp ▸ scIsPush_any 100 w
  go_enter Tryz.func29, Tryz.ntmps29
  go_wp2_with (first
    | (go_at_call 24; refine (hpc _).mono ?_; rintro e w0 ⟨rfl, rfl⟩; clear hpc hp; go_frame)
    | (go_at_call 42; refine (scPop_any _ h).mono ?_; rintro e w1 ⟨v1, rfl, hV1, hR1, hF1⟩; go_frame)
    | (go_at_call 30; refine (scTrue_any _ hV1.vals (by have := h.len; omega)).mono ?_; rintro e w2 ⟨rfl, rfl⟩; go_frame)
    | ((with_reducible change wpList _ _ _ (Oper.mk (some 29) _ _ _ _ _ :: _) _ _); refine kNot _ _ (trueB x) rfl rfl rfl ?_; go_frame)
    | (go_at_call 38; refine (scBegin_any _ _ hR1 hwl).mono ?_; rintro e w3 ⟨rfl, hR3, hF3⟩; go_frame))
  go_ret
  exact ⟨rfl, fun _ => hR3, hF1.trans hF3⟩
set_option maxRecDepth 100000 in
set_option maxHeartbeats 8000000 in
theorem scDo_103_none {base : Nat} {hs : List Value} {Gs : List (Nat × Obj)} {g : Nat} {n : Nat} {v : Value} {s : SSt} (w : World) (h : Rn base hs Gs w g s n) (hw : s.ways = []) : Calls Tryz.prog 29 #[.pointer (some ⟨g, 0, none⟩), .int .u8 103, v] w (DoPost base hs Gs g n w (s, 71)) := by
  have hp : pushesB 103 = false := by decide
  have hpc : ∀ w, Calls Tryz.prog 24 #[.int .u8 103] w fun e w' => e = .returned (.bool false) ∧ w' = w := fun w => hp ▸ scIsPush_any 103 w
  go_enter Tryz.func29, Tryz.ntmps29
  go_wp2_with (first
    | (go_at_call 24; refine (hpc _).mono ?_; rintro e w0 ⟨rfl, rfl⟩; clear hpc hp; go_frame)
    | (go_at_call 39; refine (scTurn_none _ h hw).mono ?_; rintro e w1 ⟨rfl, rfl⟩; go_frame))
  go_ret
  exact ⟨rfl, fun h => (by cases h), Fr.refl _ _⟩
set_option maxRecDepth 100000 in
set_option maxHeartbeats 8000000 in
theorem scDo_103 {base : Nat} {hs : List Value} {Gs : List (Nat × Obj)} {g : Nat} {n : Nat} {v : Value} {s : SSt} {b : Bool} {ws : List Bool} (w : World) (h : Rn base hs Gs w g s n) (hw : s.ways = b :: ws) : Calls Tryz.prog 29 #[.pointer (some ⟨g, 0, none⟩), .int .u8 103, v] w (DoPost base hs Gs g n w (⟨s.stack, (!b) :: ws⟩, 0)) := by
  have hp : pushesB 103 = false := by decide
  have hpc : ∀ w, Calls Tryz.prog 24 #[.int .u8 103] w fun e w' => e = .returned (.bool false) ∧ w' = w := fun w => hp ▸ scIsPush_any 103 w
  go_enter Tryz.func29, Tryz.ntmps29
  go_wp2_with (first
    | (go_at_call 24; refine (hpc _).mono ?_; rintro e w0 ⟨rfl, rfl⟩; clear hpc hp; go_frame)
    | (go_at_call 39; refine (scTurn_any _ h hw).mono ?_; rintro e w1 ⟨rfl, hR1, hF1⟩; go_frame))
  go_ret
  exact ⟨rfl, fun _ => hR1, hF1⟩
set_option maxRecDepth 100000 in
set_option maxHeartbeats 8000000 in
theorem scSkip_103_none {base : Nat} {hs : List Value} {Gs : List (Nat × Obj)} {g : Nat} {n : Nat} {s : SSt} (w : World) (h : Rn base hs Gs w g s n) (hw : s.ways = []) : Calls Tryz.prog 27 #[.pointer (some ⟨g, 0, none⟩), .int .u8 103] w (DoPost base hs Gs g n w (s, 71)) := by
  go_enter Tryz.func27, Tryz.ntmps27
  go_wp2_with (first
    | (go_at_call 39; refine (scTurn_none _ h hw).mono ?_; rintro e w1 ⟨rfl, rfl⟩; go_frame))
  go_ret
  exact ⟨rfl, fun h => (by cases h), Fr.refl _ _⟩
set_option maxRecDepth 100000 in
set_option maxHeartbeats 8000000 in
theorem scSkip_103 {base : Nat} {hs : List Value} {Gs : List (Nat × Obj)} {g : Nat} {n : Nat} {s : SSt} {b : Bool} {ws : List Bool} (w : World) (h : Rn base hs Gs w g s n) (hw : s.ways = b :: ws) : Calls Tryz.prog 27 #[.pointer (some ⟨g, 0, none⟩), .int .u8 103] w (DoPost base hs Gs g n w (⟨s.stack, (!b) :: ws⟩, 0)) := by
  go_enter Tryz.func27, Tryz.ntmps27
  go_wp2_with (first
    | (go_at_call 39; refine (scTurn_any _ h hw).mono ?_; rintro e w1 ⟨rfl, hR1, hF1⟩; go_frame))
  go_ret
  exact ⟨rfl, fun _ => hR1, hF1⟩
set_option maxRecDepth 100000 in
set_option maxHeartbeats 8000000 in
theorem scDo_104_none {base : Nat} {hs : List Value} {Gs : List (Nat × Obj)} {g : Nat} {n : Nat} {v : Value} {s : SSt} (w : World) (h : Rn base hs Gs w g s n) (hw : s.ways = []) : Calls Tryz.prog 29 #[.pointer (some ⟨g, 0, none⟩), .int .u8 104, v] w (DoPost base hs Gs g n w (s, 71)) := by
  have hp : pushesB 104 = false := by decide
  have hpc : ∀ w, Calls Tryz.prog 24 #[.int .u8 104] w fun e w' => e = .returned (.bool false) ∧ w' = w := fun w => hp ▸ scIsPush_any 104 w
  go_enter Tryz.func29, Tryz.ntmps29
  go_wp2_with (first
    | (go_at_call 24; refine (hpc _).mono ?_; rintro e w0 ⟨rfl, rfl⟩; clear hpc hp; go_frame)
    | (go_at_call 40; refine (scEnd_none _ h hw).mono ?_; rintro e w1 ⟨rfl, rfl⟩; go_frame))
  go_ret
  exact ⟨rfl, fun h => (by cases h), Fr.refl _ _⟩
set_option maxRecDepth 100000 in
set_option maxHeartbeats 8000000 in
theorem scDo_104 {base : Nat} {hs : List Value} {Gs : List (Nat × Obj)} {g : Nat} {n : Nat} {v : Value} {s : SSt} {b : Bool} {ws : List Bool} (w : World) (h : Rn base hs Gs w g s n) (hw : s.ways = b :: ws) : Calls Tryz.prog 29 #[.pointer (some ⟨g, 0, none⟩), .int .u8 104, v] w (DoPost base hs Gs g n w (⟨s.stack, ws⟩, 0)) := by
  have hp : pushesB 104 = false := by decide
  have hpc : ∀ w, Calls Tryz.prog 24 #[.int .u8 104] w fun e w' => e = .returned (.bool false) ∧ w' = w := fun w => hp ▸ scIsPush_any 104 w
  go_enter Tryz.func29, Tryz.ntmps29
  go_wp2_with (first
    | (go_at_call 24; refine (hpc _).mono ?_; rintro e w0 ⟨rfl, rfl⟩; clear hpc hp; go_frame)
    | (go_at_call 40; refine (scEnd_any _ h hw).mono ?_; rintro e w1 ⟨rfl, hR1, hF1⟩; go_frame))
  go_ret
  exact ⟨rfl, fun _ => hR1, hF1⟩
set_option maxRecDepth 100000 in
set_option maxHeartbeats 8000000 in
theorem scSkip_104_none {base : Nat} {hs : List Value} {Gs : List (Nat × Obj)} {g : Nat} {n : Nat} {s : SSt} (w : World) (h : Rn base hs Gs w g s n) (hw : s.ways = []) : Calls Tryz.prog 27 #[.pointer (some ⟨g, 0, none⟩), .int .u8 104] w (DoPost base hs Gs g n w (s, 71)) := by
  go_enter Tryz.func27, Tryz.ntmps27
  go_wp2_with (first
    | (go_at_call 40; refine (scEnd_none _ h hw).mono ?_; rintro e w1 ⟨rfl, rfl⟩; go_frame))
  go_ret
  exact ⟨rfl, fun h => (by cases h), Fr.refl _ _⟩
set_option maxRecDepth 100000 in
set_option maxHeartbeats 8000000 in
theorem scSkip_104 {base : Nat} {hs : List Value} {Gs : List (Nat × Obj)} {g : Nat} {n : Nat} {s : SSt} {b : Bool} {ws : List Bool} (w : World) (h : Rn base hs Gs w g s n) (hw : s.ways = b :: ws) : Calls Tryz.prog 27 #[.pointer (some ⟨g, 0, none⟩), .int .u8 104] w (DoPost base hs Gs g n w (⟨s.stack, ws⟩, 0)) := by
  go_enter Tryz.func27, Tryz.ntmps27
  go_wp2_with (first
    | (go_at_call 40; refine (scEnd_any _ h hw).mono ?_; rintro e w1 ⟨rfl, hR1, hF1⟩; go_frame))
  go_ret
  exact ⟨rfl, fun _ => hR1, hF1⟩
set_option maxRecDepth 100000 in
set_option maxHeartbeats 8000000 in
theorem scDo_105 {base : Nat} {hs : List Value} {Gs : List (Nat × Obj)} {g : Nat} {n : Nat} {v : Value} {x : List UInt8} {st : List (List UInt8)} {ws : List Bool} (w : World) (h : Rn base hs Gs w g ⟨x :: st, ws⟩ n) : Calls Tryz.prog 29 #[.pointer (some ⟨g, 0, none⟩), .int .u8 105, v] w (DoPost base hs Gs g n w (⟨st, ws⟩, checkN (trueB x))) := by
  have hp : pushesB 105 = false := by decide
  have hpc : ∀ w, Calls Tryz.prog 24 #[.int .u8 105] w fun e w' => e = .returned (.bool false) ∧ w' = w := fun w => hp ▸ scIsPush_any 105 w
  go_enter Tryz.func29, Tryz.ntmps29
  go_wp2_with (first
    | (go_at_call 24; refine (hpc _).mono ?_; rintro e w0 ⟨rfl, rfl⟩; clear hpc hp; go_frame)
    | (go_at_call 42; refine (scPop_any _ h).mono ?_; rintro e w1 ⟨v1, rfl, hV1, hR1, hF1⟩; go_frame)
    | (go_at_call 14; refine (scCheck_any _ hV1.vals (by have := h.len; omega)).mono ?_; rintro e w2 ⟨rfl, rfl⟩; go_frame))
  go_ret
  exact ⟨rfl, fun _ => hR1, hF1⟩
set_option maxRecDepth 100000 in
set_option maxHeartbeats 8000000 in
theorem scDo_106 {base : Nat} {hs : List Value} {Gs : List (Nat × Obj)} {g : Nat} {n : Nat} {v : Value} {st : List (List UInt8)} {ws : List Bool} (w : World) (h : Rn base hs Gs w g ⟨st, ws⟩ n) : Calls Tryz.prog 29 #[.pointer (some ⟨g, 0, none⟩), .int .u8 106, v] w (DoPost base hs Gs g n w (⟨st, ws⟩, 74)) := by
  have hp : pushesB 106 = false := by decide
  have hpc : ∀ w, Calls Tryz.prog 24 #[.int .u8 106] w fun e w' => e = .returned (.bool false) ∧ w' = w := fun w => hp ▸ scIsPush_any 106 w
  go_enter Tryz.func29, Tryz.ntmps29
  go_wp2_with (first
    | (go_at_call 24; refine (hpc _).mono ?_; rintro e w0 ⟨rfl, rfl⟩; clear hpc hp; go_frame))
  go_ret
  exact ⟨rfl, fun h => (by cases h), Fr.refl _ _⟩
set_option maxRecDepth 100000 in
set_option maxHeartbeats 8000000 in
theorem scDo_136 {base : Nat} {hs : List Value} {Gs : List (Nat × Obj)} {g : Nat} {n : Nat} {v : Value} {x y : List UInt8} {st : List (List UInt8)} {ws : List Bool} (w : World) (h : Rn base hs Gs w g ⟨x :: y :: st, ws⟩ n) : Calls Tryz.prog 29 #[.pointer (some ⟨g, 0, none⟩), .int .u8 136, v] w (DoPost base hs Gs g n w (⟨st, ws⟩, checkN (x == y))) := by
  have hp : pushesB 136 = false := by decide
  have hpc : ∀ w, Calls Tryz.prog 24 #[.int .u8 136] w fun e w' => e = .returned (.bool false) ∧ w' = w := fun w => hp ▸ scIsPush_any 136 w
  go_enter Tryz.func29, Tryz.ntmps29
  go_wp2_with (first
    | (go_at_call 24; refine (hpc _).mono ?_; rintro e w0 ⟨rfl, rfl⟩; clear hpc hp; go_frame)
    | (go_at_call 43; refine (scPopSame_any _ h).mono ?_; rintro e w1 ⟨v1, rfl, hV1, hR1, hF1⟩; go_frame)
    | (go_at_call 14; refine (scCheck_any _ hV1.vals (Nat.le_trans (truthL_len _) (by decide))).mono ?_; rintro e w2 ⟨rfl, rfl⟩; rw [true_truth]; go_frame))
  go_ret
  exact ⟨rfl, fun _ => hR1, hF1⟩
set_option maxRecDepth 100000 in
set_option maxHeartbeats 8000000 in
theorem scDo_173 {base : Nat} {hs : List Value} {Gs : List (Nat × Obj)} {g : Nat} {n : Nat} {v : Value} {x y : List UInt8} {b : Bool} {st : List (List UInt8)} {ws : List Bool} {E : Env} (hE : EnvOk E hs Gs) (w : World) (h : Rn base hs Gs w g ⟨x :: y :: st, ws⟩ n) (hb : E.sig x y = some b) : Calls Tryz.prog 29 #[.pointer (some ⟨g, 0, none⟩), .int .u8 173, v] w (DoPost base hs Gs g n w (⟨st, ws⟩, checkN b)) := by
  have hp : pushesB 173 = false := by decide
  have hpc : ∀ w, Calls Tryz.prog 24 #[.int .u8 173] w fun e w' => e = .returned (.bool false) ∧ w' = w := fun w => hp ▸ scIsPush_any 173 w
  go_enter Tryz.func29, Tryz.ntmps29
  go_wp2_with (first
    | (go_at_call 24; refine (hpc _).mono ?_; rintro e w0 ⟨rfl, rfl⟩; clear hpc hp; go_frame)
    | (go_at_call 44; refine (hE.sig _ h hb).mono ?_; rintro e w1 ⟨v1, rfl, hV1, hR1, hF1⟩; go_frame)
    | (go_at_call 14; refine (scCheck_any _ hV1.vals (Nat.le_trans (truthL_len _) (by decide))).mono ?_; rintro e w2 ⟨rfl, rfl⟩; rw [true_truth]; go_frame))
  go_ret
  exact ⟨rfl, fun _ => hR1, hF1⟩
set_option maxRecDepth 100000 in
set_option maxHeartbeats 8000000 in
theorem scSkip_99 {base : Nat} {hs : List Value} {Gs : List (Nat × Obj)} {g : Nat} {n : Nat} {s : SSt} (w : World) (h : Rn base hs Gs w g s n) (hwl : s.ways.length < 5000) : Calls Tryz.prog 27 #[.pointer (some ⟨g, 0, none⟩), .int .u8 99] w (DoPost base hs Gs g n w (⟨s.stack, false :: s.ways⟩, 0)) := by
  go_enter Tryz.func27, Tryz.ntmps27
  go_wp2_with (first
    | (go_at_call 38; refine (scBegin_any _ _ h hwl).mono ?_; rintro e w3 ⟨rfl, hR3, hF3⟩; go_frame))
  go_ret
  exact ⟨rfl, fun _ => hR3, hF3⟩
set_option maxRecDepth 100000 in
set_option maxHeartbeats 8000000 in
theorem scSkip_100 {base : Nat} {hs : List Value} {Gs : List (Nat × Obj)} {g : Nat} {n : Nat} {s : SSt} (w : World) (h : Rn base hs Gs w g s n) (hwl : s.ways.length < 5000) : Calls Tryz.prog 27 #[.pointer (some ⟨g, 0, none⟩), .int .u8 100] w (DoPost base hs Gs g n w (⟨s.stack, false :: s.ways⟩, 0)) := by
  go_enter Tryz.func27, Tryz.ntmps27
  go_wp2_with (first
    | (go_at_call 38; refine (scBegin_any _ _ h hwl).mono ?_; rintro e w3 ⟨rfl, hR3, hF3⟩; go_frame))
  go_ret
  exact ⟨rfl, fun _ => hR3, hF3⟩
set_option maxRecDepth 100000 in
set_option maxHeartbeats 8000000 in
theorem scSkip_other {base : Nat} {hs : List Value} {Gs : List (Nat × Obj)} {g : Nat} {n : Nat} {s : SSt} {c : UInt8} (hc : c ≠ 99 ∧ c ≠ 100 ∧ c ≠ 103 ∧ c ≠ 104) (w : World) (h : Rn base hs Gs w g s n) : Calls Tryz.prog 27 #[.pointer (some ⟨g, 0, none⟩), VB c] w (DoPost base hs Gs g n w (s, 0)) := by
  obtain ⟨k99, k100, k103, k104⟩ := hc
  have e99 := B_neS k99
  have e100 := B_neS k100
  have e103 := B_neS k103
  have e104 := B_neS k104
  clear k99 k100 k103 k104
  go_enter Tryz.func27, Tryz.ntmps27
  go_wp2_with (first
    | ((with_reducible change wpList _ _ _ (Oper.mk (some 7) _ _ _ _ _ :: _) _ _); refine kEqlI _ _ _ _ .u8 (B c) (B 99) false rfl rfl rfl rfl e99 ?_; go_frame)
    | ((with_reducible change wpList _ _ _ (Oper.mk (some 8) _ _ _ _ _ :: _) _ _); refine kEqlI _ _ _ _ .u8 (B c) (B 100) false rfl rfl rfl rfl e100 ?_; go_frame)
    | ((with_reducible change wpList _ _ _ (Oper.mk (some 12) _ _ _ _ _ :: _) _ _); refine kEqlI _ _ _ _ .u8 (B c) (B 103) false rfl rfl rfl rfl e103 ?_; go_frame)
    | ((with_reducible change wpList _ _ _ (Oper.mk (some 16) _ _ _ _ _ :: _) _ _); refine kEqlI _ _ _ _ .u8 (B c) (B 104) false rfl rfl rfl rfl e104 ?_; go_frame))
  go_ret
  exact ⟨rfl, fun _ => h, Fr.refl _ _⟩
theorem isBr_not {c : UInt8} (h : isBr c = false) : c ≠ 99 ∧ c ≠ 100 ∧ c ≠ 103 ∧ c ≠ 104 := by
  unfold isBr at h; simp at h; exact ⟨h.1.1.1, h.1.1.2, h.1.2, h.2⟩
theorem isBr_of {c : UInt8} (h : isBr c = true) : c = 99 ∨ c = 100 ∨ c = 103 ∨ c = 104 := by
  unfold isBr at h; simp at h
  rcases h with ((h | h) | h) | h
  · exact .inl h
  · exact .inr (.inl h)
  · exact .inr (.inr (.inl h))
  · exact .inr (.inr (.inr h))
/-- a word that is skipped -/
theorem scSkip_any {base : Nat} {hs : List Value} {Gs : List (Nat × Obj)} {g n : Nat} {s : SSt} {c : UInt8} {E : Env} {d : List UInt8} {q : SSt × Nat} (w : World) (h : Rn base hs Gs w g s n) (hwl : s.ways.length < 5000) (hg : goesB s = false) (hd : doS E c d s = some q) : Calls Tryz.prog 27 #[.pointer (some ⟨g, 0, none⟩), VB c] w (DoPost base hs Gs g n w q) := by
  rw [do_skipS hg] at hd
  cases hb : isBr c with
  | false =>
    rw [hb] at hd
    simp only [Bool.false_eq_true, if_false, Option.some.injEq] at hd
    subst hd
    exact scSkip_other (isBr_not hb) w h
  | true =>
    rw [hb] at hd
    simp only [if_true, Option.some.injEq] at hd
    subst hd
    rcases isBr_of hb with rfl | rfl | rfl | rfl
    · have e : branchS s 99 = (⟨s.stack, false :: s.ways⟩, 0) := by unfold branchS; rw [if_pos (.inl rfl), hg]; rfl
      rw [e]; exact scSkip_99 w h hwl
    · have e : branchS s 100 = (⟨s.stack, false :: s.ways⟩, 0) := by unfold branchS; rw [if_pos (.inr rfl), hg]; rfl
      rw [e]; exact scSkip_100 w h hwl
    · cases hw : s.ways with
      | nil =>
        have e : branchS s 103 = (s, 71) := by unfold branchS; rw [if_neg (by decide), hw]
        rw [e]; exact scSkip_103_none w h hw
      | cons b ws =>
        have e : branchS s 103 = (⟨s.stack, (!b) :: ws⟩, 0) := by unfold branchS; rw [if_neg (by decide), hw]; rfl
        rw [e]; exact scSkip_103 w h hw
    · cases hw : s.ways with
      | nil =>
        have e : branchS s 104 = (s, 71) := by unfold branchS; rw [if_neg (by decide), hw]
        rw [e]; exact scSkip_104_none w h hw
      | cons b ws =>
        have e : branchS s 104 = (⟨s.stack, ws⟩, 0) := by unfold branchS; rw [if_neg (by decide), hw]; rfl
        rw [e]; exact scSkip_104 w h hw
/-- a word that is done -/
theorem scDo_any {base : Nat} {hs : List Value} {Gs : List (Nat × Obj)} {g n : Nat} {s : SSt} {c : UInt8} {E : Env} {v : Value} {d : List UInt8} {q : SSt × Nat} (hE : EnvOk E hs Gs) (w : World) (h : Rn base hs Gs w g s n) (hv : BV w v d) (hdl : d.length ≤ 520) (hsl : s.stack.length ≤ 100) (hwl : s.ways.length < 5000) (hg : goesB s = true) (hn : needN c ≤ s.stack.length) (hd : doG E c d s = some q) : Calls Tryz.prog 29 #[.pointer (some ⟨g, 0, none⟩), VB c, v] w (DoPost base hs Gs g n w q) := by
  obtain ⟨st, ws⟩ := s
  have hsl' : st.length ≤ 100 := hsl
  have hn' : needN c ≤ st.length := hn
  unfold doG at hd
  cases hb : isBr c with
  | true =>
    rw [hb, if_pos rfl, Option.some.injEq] at hd
    subst hd
    rcases isBr_of hb with rfl | rfl | rfl | rfl
    · match st, hn', h, hg with
      | x :: st, _, h, hg =>
        have e : branchS ⟨x :: st, ws⟩ 99 = (⟨st, trueB x :: ws⟩, 0) := by unfold branchS; rw [if_pos (.inl rfl), hg]; simp
        rw [e]; exact scDo_99 w h hwl
    · match st, hn', h, hg with
      | x :: st, _, h, hg =>
        have e : branchS ⟨x :: st, ws⟩ 100 = (⟨st, (!trueB x) :: ws⟩, 0) := by unfold branchS; rw [if_pos (.inr rfl), hg]; simp
        rw [e]; exact scDo_100 w h hwl
    · cases ws with
      | nil => exact scDo_103_none w h rfl
      | cons b ws => exact scDo_103 w h rfl
    · cases ws with
      | nil => exact scDo_104_none w h rfl
      | cons b ws => exact scDo_104 w h rfl
  | false =>
    rw [hb] at hd
    obtain ⟨b99, b100, b103, b104⟩ := isBr_not hb
    simp only [Bool.false_eq_true, if_false] at hd
    cases hp : pushesB c with
    | true =>
      rw [hp] at hd
      simp only [if_true, Option.map_some, Option.some.injEq] at hd
      subst hd
      exact scDo_push hp w h hv hdl (by show st.length < 4000; omega)
    | false =>
      rw [hp] at hd
      simp only [Bool.false_eq_true, if_false] at hd
      obtain ⟨p, hop, rfl⟩ := Option.map_eq_some_iff.1 hd
      clear hd hb
      by_cases k105 : c = 105
      · subst k105
        match st, hn', h, hop with
        | x :: st, _, h, hop =>
          have e : opS E 105 (x :: st) = some (st, checkN (trueB x)) := rfl
          rw [e, Option.some.injEq] at hop
          subst hop; exact scDo_105 w h
      by_cases k106 : c = 106
      · subst k106
        have e : opS E 106 st = some (st, 74) := rfl
        rw [e, Option.some.injEq] at hop
        subst hop; exact scDo_106 w h
      by_cases k136 : c = 136
      · subst k136
        match st, hn', h, hop with
        | x :: y :: st, _, h, hop =>
          have e : opS E 136 (x :: y :: st) = some (st, checkN (x == y)) := rfl
          rw [e, Option.some.injEq] at hop
          subst hop; exact scDo_136 w h
      by_cases k173 : c = 173
      · subst k173
        match st, hn', h, hop with
        | x :: y :: st, _, h, hop =>
          have e : opS E 173 (x :: y :: st) = (E.sig x y).map fun b => (st, checkN b) := rfl
          rw [e] at hop
          obtain ⟨b, hb, rfl⟩ := Option.map_eq_some_iff.1 hop
          exact scDo_173 hE w h hb
      refine scDo_change hp ⟨b99, b100, b103, b104, k105, k106, k136, k173⟩ w ?_
      by_cases k97 : c = 97
      · subst k97
        have e : opS E 97 st = some (st, 0) := rfl
        rw [e, Option.some.injEq] at hop
        subst hop; exact scChange_97 w h
      by_cases k109 : c = 109
      · subst k109
        match st, hn', h, hop, hsl' with
        | x :: y :: st, _, h, hop, hsl' =>
          have e : opS E 109 (x :: y :: st) = some (st, 0) := rfl
          rw [e, Option.some.injEq] at hop
          subst hop; exact scChange_109 w h
      by_cases k117 : c = 117
      · subst k117
        match st, hn', h, hop, hsl' with
        | x :: st, _, h, hop, hsl' =>
          have e : opS E 117 (x :: st) = some (st, 0) := rfl
          rw [e, Option.some.injEq] at hop
          subst hop; exact scChange_117 w h
      by_cases k118 : c = 118
      · subst k118
        match st, hn', h, hop, hsl' with
        | x :: st, _, h, hop, hsl' =>
          have e : opS E 118 (x :: st) = some (x :: x :: st, 0) := rfl
          rw [e, Option.some.injEq] at hop
          subst hop; exact scChange_118 w h (by simp at hsl'; omega)
      by_cases k120 : c = 120
      · subst k120
        match st, hn', h, hop, hsl' with
        | x :: y :: st, _, h, hop, hsl' =>
          have e : opS E 120 (x :: y :: st) = some (y :: x :: y :: st, 0) := rfl
          rw [e, Option.some.injEq] at hop
          subst hop; exact scChange_120 w h (by simp at hsl'; omega)
      by_cases k124 : c = 124
      · subst k124
        match st, hn', h, hop, hsl' with
        | x :: y :: st, _, h, hop, hsl' =>
          have e : opS E 124 (x :: y :: st) = some (y :: x :: st, 0) := rfl
          rw [e, Option.some.injEq] at hop
          subst hop; exact scChange_124 w h (by simp at hsl'; omega)
      by_cases k130 : c = 130
      · subst k130
        match st, hn', h, hop, hsl' with
        | x :: st, _, h, hop, hsl' =>
          have e : opS E 130 (x :: st) = some (sizeL x.length :: x :: st, 0) := rfl
          rw [e, Option.some.injEq] at hop
          subst hop; exact scChange_130 w h (by simp at hsl'; omega)
      by_cases k135 : c = 135
      · subst k135
        match st, hn', h, hop, hsl' with
        | x :: y :: st, _, h, hop, hsl' =>
          have e : opS E 135 (x :: y :: st) = some (truthL (x == y) :: st, 0) := rfl
          rw [e, Option.some.injEq] at hop
          subst hop; exact scChange_135 w h (by simp at hsl'; omega)
      by_cases k168 : c = 168
      · subst k168
        match st, hn', h, hop with
        | x :: st, _, h, hop =>
          have e : opS E 168 (x :: st) = (E.sum x).map fun s => (s :: st, 0) := rfl
          rw [e] at hop
          obtain ⟨s, hb, rfl⟩ := Option.map_eq_some_iff.1 hop
          exact hE.sum w h hb
      by_cases k169 : c = 169
      · subst k169
        match st, hn', h, hop with
        | x :: st, _, h, hop =>
          have e : opS E 169 (x :: st) = (E.short x).map fun s => (s :: st, 0) := rfl
          rw [e] at hop
          obtain ⟨s, hb, rfl⟩ := Option.map_eq_some_iff.1 hop
          exact hE.short w h hb
      by_cases k172 : c = 172
      · subst k172
        match st, hn', h, hop, hsl' with
        | x :: y :: st, _, h, hop, hsl' =>
          have e : opS E 172 (x :: y :: st) = (E.sig x y).map fun b => (truthL b :: st, 0) := rfl
          rw [e] at hop
          obtain ⟨b, hb, rfl⟩ := Option.map_eq_some_iff.1 hop
          exact scChange_172 hE w h (by simp at hsl'; omega) hb
      have e : opS E c st = some (st, 71) := by
        unfold opS
        rw [if_neg k97, if_neg k106, if_neg (by simp [k105, k117, k118, k130, k168, k169]), if_neg (by simp [k109, k120, k124, k135, k136, k172, k173])]
      rw [e, Option.some.injEq] at hop
      subst hop
      refine (scChange_none c ⟨k97, k109, k117, k118, k120, k124, k130, k135, k168, k169, k172⟩ w).mono ?_
      rintro e w' ⟨rfl, rfl⟩
      exact ⟨rfl, fun h => (by cases h), Fr.refl _ _⟩
end Go.Proofs.YtnaclalbeocpkaaGreatDoor
