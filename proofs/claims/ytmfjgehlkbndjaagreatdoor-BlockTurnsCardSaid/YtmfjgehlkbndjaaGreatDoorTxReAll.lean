/-
  Joined: TxRead, TxRead2.
-/
import Derived.Test.YtmfjgehlkbndjaaGreatDoorTxWrite
import Derived.Test.YtmfjgehlkbndjaaGreatDoorPcRefRead2
import Derived.Test.YtmfjgehlkbndjaaGreatDoorKitE
/-
  Layer 10: the walks of what reads, the program's.
-/
namespace Go.Proofs.YtmfjgehlkbndjaaGreatDoor
open Go Go.RowKit

variable {Lm : Nat}
theorem exc_then {g : Nat} {w w1 w2 : World} (h : Exc g w w1) (hb : Below w.heap.size w1 w2) : Exc g w w2 :=
  ⟨hb.os.trans h.os, hb.tape.trans h.tape, hb.output.trans h.output, Nat.le_trans h.size hb.size, fun i hi hne => (hb.block i hi).trans (h.block i hi hne)⟩
theorem text_restLeT (s : Scn) (z : Int) : (textS s z).2.rest.length ≤ s.rest.length := by
  have h := count_restLe s z.toNat
  unfold textS
  split
  · exact h
  · split
    · exact Nat.le_refl _
    · show (List.drop _ _).length ≤ _
      rw [List.length_drop]; omega
theorem ref_restLeT (s : Scn) : (refS s).2.rest.length ≤ s.rest.length := by
  have h1 := raw_restLeC s 32
  have h2 := fixed_restLeC (rawS s 32).2 4
  unfold refS
  split <;> exact Nat.le_trans h2 h1
theorem out_restLeT (s : Scn) : (outS s).2.rest.length ≤ s.rest.length := by
  have h1 := fixed_restLeC s 8
  have h2 := text_restLeT (fixedS s 8).2 2000
  unfold outS
  split <;> exact Nat.le_trans h2 h1
theorem in_restLe (s : Scn) : (inS s).2.rest.length ≤ s.rest.length :=
  Nat.le_trans (fixed_restLeC _ 4) (Nat.le_trans (text_restLeT _ 2000) (ref_restLeT s))
theorem list_restLe {α : Type} {f : Scn → α × Scn} (hf : ∀ s : Scn, (f s).2.rest.length ≤ s.rest.length) : ∀ (n : Nat) (s : Scn), (listS f n s).2.rest.length ≤ s.rest.length
  | 0, _ => Nat.le_refl _
  | n + 1, s => Nat.le_trans (list_restLe hf n (f s).2) (hf s)
def insS (s : Scn) : List InP × Scn := listS inS (countS s 200).1 (countS s 200).2
def outsS (s : Scn) : List (Int × List UInt8) × Scn := listS outS (countS s 200).1 (countS s 200).2
theorem ins_restLe (s : Scn) : (insS s).2.rest.length ≤ s.rest.length := Nat.le_trans (list_restLe in_restLe _ _) (count_restLe s 200)
theorem outs_restLe (s : Scn) : (outsS s).2.rest.length ≤ s.rest.length := Nat.le_trans (list_restLe out_restLeT _ _) (count_restLe s 200)
theorem rawTx_eq (s : Scn) : rawTx s = (⟨(fixedS s 4).1, (insS (fixedS s 4).2).1, (outsS (insS (fixedS s 4).2).2).1, (fixedS (outsS (insS (fixedS s 4).2).2).2 4).1⟩, (fixedS (outsS (insS (fixedS s 4).2).2).2 4).2) := rfl
theorem raw_restLeTx (s : Scn) : (rawTx s).2.rest.length ≤ s.rest.length := by
  rw [rawTx_eq]
  exact Nat.le_trans (fixed_restLeC _ 4) (Nat.le_trans (outs_restLe _) (Nat.le_trans (ins_restLe _) (fixed_restLeC s 4)))
def WPost (Lm : Nat) (T : TypeId) (g : Nat) (w : World) (p : Nat × Scn) (e : Ending) (w' : World) : Prop := e = .returned (.int .u32 (p.1 : Int)) ∧ Rd Lm T w' g p.2 ∧ Exc g w w'
def InPost (Lm : Nat) (T : TypeId) (g : Nat) (w : World) (p : InP × Scn) (e : Ending) (w' : World) : Prop := ∃ v, e = .returned (.agg (inC p.1 v)) ∧ OwnB w' w.heap.size v p.1.unlock ∧ Rd Lm T w' g p.2 ∧ Exc g w w'
def InsPost (Lm : Nat) (T : TypeId) (g : Nat) (w : World) (p : List InP × Scn) (e : Ending) (w' : World) : Prop := ∃ v, e = .returned v ∧ OwnIns w' w.heap.size v p.1 ∧ Rd Lm T w' g p.2 ∧ Exc g w w'
def OutsPost (Lm : Nat) (T : TypeId) (g : Nat) (w : World) (p : List (Int × List UInt8) × Scn) (e : Ending) (w' : World) : Prop := ∃ v, e = .returned v ∧ OwnOuts w' w.heap.size v p.1 ∧ Rd Lm T w' g p.2 ∧ Exc g w w'
/-- a transaction of one's own -/
def TxPost (Lm : Nat) (T : TypeId) (g : Nat) (w : World) (p : TxP × Scn) (e : Ending) (w' : World) : Prop := ∃ a b, e = .returned (.agg (txC p.1.version a b p.1.end')) ∧ OwnIns w' w.heap.size a p.1.ins ∧ OwnOuts w' w.heap.size b p.1.outs ∧ Rd Lm T w' g p.2 ∧ Exc g w w'
section
variable {ops : Array Oper} {Q : Exit → Act → World → Prop} {rest : List Oper} {o : Oper} {a : Act} {w : World}
theorem kBuildIn3 (x y z : Operand) (l t : List UInt8) (n k : Nat) (u : Value) (hu : SliceV u) (ho : o.op = .build 62 #[(0, x), (1, y), (2, z)]) (hg : Region.wanted o (yielded ops a.tmps) = true) (hx : a.eval x = .agg (refC l n)) (hy : a.eval y = u) (hz : a.eval z = .int .u32 (k : Int)) (h : wpList Tryz.prog ops Q rest (a.put o.dst (.agg (inC ⟨l, n, t, k⟩ u))) w) : wpList Tryz.prog ops Q (o :: rest) a w :=
  kBuildAny _ _ #[(0, .agg (refC l n)), (1, u), (2, .int .u32 (k : Int))] _ ho hg (by simp [hx, hy, hz]) (built_In3 hu l t n k) h
theorem kBuildInR (x : Operand) (l : List UInt8) (n : Nat) (ho : o.op = .build 62 #[(0, x)]) (hg : Region.wanted o (yielded ops a.tmps) = true) (hx : a.eval x = .agg (refC l n)) (h : wpList Tryz.prog ops Q rest (a.put o.dst (.agg (inC ⟨l, n, [], 0⟩ (.slice none 0 0)))) w) : wpList Tryz.prog ops Q (o :: rest) a w :=
  kBuildAny _ _ #[(0, .agg (refC l n))] _ ho hg (by simp [hx]) (built_In1 l n) h
theorem kBuildTx0 (ho : o.op = .build 34 #[]) (hg : Region.wanted o (yielded ops a.tmps) = true) (h : wpList Tryz.prog ops Q rest (a.put o.dst (.agg (txC 0 (.slice none 0 0) (.slice none 0 0) 0))) w) : wpList Tryz.prog ops Q (o :: rest) a w :=
  kBuildAny _ _ #[] _ ho hg (by simp) built_Tx0 h
theorem kBuildTx1 (x : Operand) (n : Nat) (ho : o.op = .build 34 #[(0, x)]) (hg : Region.wanted o (yielded ops a.tmps) = true) (hx : a.eval x = .int .u32 (n : Int)) (h : wpList Tryz.prog ops Q rest (a.put o.dst (.agg (txC n (.slice none 0 0) (.slice none 0 0) 0))) w) : wpList Tryz.prog ops Q (o :: rest) a w :=
  kBuildAny _ _ #[(0, .int .u32 (n : Int))] _ ho hg (by simp [hx]) (built_Tx1 n) h
theorem kBuildTx4 (x y z t : Operand) (n e : Nat) (u v : Value) (hu : SliceV u) (hv : SliceV v) (ho : o.op = .build 34 #[(0, x), (1, y), (2, z), (3, t)]) (hg : Region.wanted o (yielded ops a.tmps) = true) (hx : a.eval x = .int .u32 (n : Int)) (hy : a.eval y = u) (hz : a.eval z = v) (ht : a.eval t = .int .u32 (e : Int)) (h : wpList Tryz.prog ops Q rest (a.put o.dst (.agg (txC n u v e))) w) : wpList Tryz.prog ops Q (o :: rest) a w :=
  kBuildAny _ _ #[(0, .int .u32 (n : Int)), (1, u), (2, v), (3, .int .u32 (e : Int))] _ ho hg (by simp [hx, hy, hz, ht]) (built_Tx4 hu hv n e) h
theorem kBuildRefN (x : Operand) (hx : a.eval x = .int .u32 4294967295) (ho : o.op = .build 60 #[(1, x)]) (hg : Region.wanted o (yielded ops a.tmps) = true) (h : wpList Tryz.prog ops Q rest (a.put o.dst (.agg (refC z32 4294967295))) w) : wpList Tryz.prog ops Q (o :: rest) a w :=
  kBuildAny _ _ #[(1, .int .u32 4294967295)] _ ho hg (by simp [hx]) built_RefN h
end
set_option maxRecDepth 100000 in
set_option maxHeartbeats 8000000 in
theorem tWordRead_any {s : Scn} {g : Nat} (w : World) (h : Rd Lm 97 w g s) : Calls Tryz.prog 110 #[.pointer (some ⟨g, 0, none⟩)] w (WPost Lm 97 g w (fixedS s 4)) := by
  have hrf := rdFixed_any (z := 4) w h
  have hlt := fixed4_lt s
  generalize fixedS s 4 = p at *
  have hm : p.1 % 4294967296 = p.1 := Nat.mod_eq_of_lt hlt
  go_enter Tryz.func110, Tryz.ntmps110
  go_wp2_with (first
    | (go_at_call 55; refine (hrf).mono ?_; rintro e w1 ⟨rfl, hr1, hX1⟩; clear hrf; go_frame)
    | ((with_reducible change wpList _ _ _ (Oper.mk (some 5) _ _ _ _ _ :: _) _ _); refine kConvUW _ p.1 rfl rfl rfl ?_; rw [hm]; go_frame))
  go_ret
  exact ⟨rfl, hr1, hX1⟩
set_option maxRecDepth 100000 in
set_option maxHeartbeats 8000000 in
theorem tInRead_any {s : Scn} {g : Nat} (W0 : World) (h : Rd Lm 97 W0 g s) (hs : s.rest.length ≤ 1000000) (hLm : Lm ≤ W0.heap.size) : Calls Tryz.prog 120 #[.pointer (some ⟨g, 0, none⟩)] W0 (InPost Lm 97 g W0 (inS s)) := by
  have hgl := h.lt
  have hgA : W0.heap.size ≠ g := by omega
  unfold inS
  obtain ⟨p, hp⟩ : ∃ p, refS s = p := ⟨_, rfl⟩
  have hpr : p.2.rest.length ≤ 1000000 := by rw [← hp]; exact Nat.le_trans (ref_restLeT s) hs
  rw [hp]
  obtain ⟨q, hq⟩ : ∃ q, textS p.2 2000 = q := ⟨_, rfl⟩
  rw [hq]
  obtain ⟨r, hr⟩ : ∃ r, fixedS q.2 4 = r := ⟨_, rfl⟩
  rw [hr]
  go_enter Tryz.func120, Tryz.ntmps120
  go_wp2_with (first
    | ((with_reducible change wpList _ _ _ (Oper.mk (some 2) _ _ _ _ _ :: _) _ _); refine kAllocL _ _ rfl rfl zero_InC ?_; intro w1 hRA hz1 hB1; have h1 := h.below hB1; have hE1 := exc_below g hB1; have hL1 : Lm ≤ w1.heap.size := (by omega); have hz1h : Hid (W0.heap.size < w1.heap.size) := hz1; clear hB1 hz1; go_frame)
    | (go_at_call 123; refine (coRefRead_any _ h1 hs hL1).mono ?_; rintro e w2 ⟨rfl, h2, hX2⟩; rw [hp] at h2 ⊢; have hRA2 := hX2.row hRA hgA; have hE2 := hE1.trans hX2; have hz2 := Nat.lt_of_lt_of_le hz1h.out hX2.size; have hz2h : Hid (W0.heap.size < w2.heap.size) := hz2; clear hRA hE1 hX2 h1 hL1 hz1h hz2; go_frame)
    | (go_at_call 124; refine (rdText_own (z := 2000) (by decide) _ h2 hpr).mono ?_; rintro e w3 ⟨u, rfl, hO3, h3, hX3⟩; rw [hq] at h3 hO3; have hRA3 := hX3.row hRA2 hgA; have hE3 := hE2.trans hX3; clear hRA2 hE2 h2 hX3; go_frame)
    | (go_at_call 110; refine (tWordRead_any _ h3).mono ?_; rintro e w4 ⟨rfl, h4, hX4⟩; rw [hr] at h4 ⊢; have hO4 := hO3.over (over_exc hX4 (Nat.lt_trans hgl hz2h.out)); have hRA4 := hX4.row hRA3 hgA; have hE4 := hE3.trans hX4; clear hRA3 hE3 h3 hX4 hO3; go_frame)
    | ((with_reducible change wpList _ _ _ (Oper.mk (some 9) _ _ _ _ _ :: _) _ _); refine kBuildIn3 _ _ _ p.1.1 q.1 p.1.2 r.1 u hO4.vals.sl rfl rfl rfl rfl rfl ?_; go_frame)
    | ((with_reducible change wpList _ _ _ (Oper.mk none _ _ _ _ _ :: _) _ _); refine kStoreIn _ _ W0.heap.size ⟨p.1.1, p.1.2, q.1, r.1⟩ u _ hRA4 (inC_size _ _) hO4.vals.sl.one rfl rfl rfl rfl ?_; intro w5 hRA5 hW5; have hO5 := own_less (Nat.le_of_lt hz2h.out) (hO4.over (over_wrote hW5 hz2h.out)); have h5 := h4.wrote hW5 hLm (Ne.symm hgA); have hE5 := exc_new hE4 hW5 (Nat.le_refl _); clear hRA4 hE4 h4 hW5 hO4; go_frame))
  (try simp only [Exit.inBlock, Exit.then])
  exact result_row rfl rfl hRA5 Tryz.underlying62 rfl (info_InS _ _) rfl ⟨_, rfl, hO5, h5, hE5⟩
set_option maxRecDepth 100000 in
set_option maxHeartbeats 8000000 in
theorem tInsRead_any {s : Scn} {g : Nat} (W0 : World) (h : Rd Lm 97 W0 g s) (hs : s.rest.length ≤ 1000000) (hLm : Lm ≤ W0.heap.size) : Calls Tryz.prog 111 #[.pointer (some ⟨g, 0, none⟩)] W0 (InsPost Lm 97 g W0 (insS s)) := by
  have hgl := h.lt
  unfold insS
  obtain ⟨p, hp⟩ : ∃ p, countS s 200 = p := ⟨_, rfl⟩
  have hpr : p.2.rest.length ≤ 1000000 := by rw [← hp]; exact Nat.le_trans (count_restLe s 200) hs
  have hN : p.1 ≤ 200 := by rw [← hp]; exact count_le s 200
  rw [hp]
  obtain ⟨N, s1⟩ := p
  dsimp only at hpr hN ⊢
  obtain ⟨P, hP⟩ : ∃ P, listS inS N s1 = P := ⟨_, rfl⟩
  rw [hP]
  go_enter Tryz.func111, Tryz.ntmps111
  go_wp2_with (first
    | (go_at_call 75; refine (rdCount_any (most := 200) _ h).mono ?_; rintro e w1 ⟨rfl, h1, hX1⟩; rw [hp] at h1 ⊢; clear hp; go_frame))
  go_loopw [6, 3] (fun x y wr => ∃ (k : Nat) (zs : List (InP × Value)) (s : Scn), k ≤ N ∧ x = .int .u64 (k : Int) ∧ OwnR 35 62 wr W0.heap.size y (zs.map inR) ∧ (∀ z ∈ zs, OwnB wr W0.heap.size z.2 z.1.unlock) ∧ zs.length = k ∧ Rd Lm 97 wr g s ∧ s.rest.length ≤ 1000000 ∧ (zs.map Prod.fst ++ (listS inS (N - k) s).1, (listS inS (N - k) s).2) = P ∧ Exc g W0 wr) (fun x _ _ => N - (intOf x).toNat)
  case atStart => exact ⟨0, [], s1, by omega, rfl, ownR_nil _ _ _ _, (fun z hz => by cases hz), rfl, h1, hpr, by rw [← hP]; rfl, hX1⟩
  case round =>
    clear hP h1 hX1 hpr h
    obtain ⟨k, zs, s, hk, rfl, hO, hU, hzl, hr, hsr, hPP, hX⟩ := hrel
    by_cases hlt : k < N
    · have hd : decide ((k : Int) < (N : Int)) = true := by simp; omega
      have hL := Nat.le_trans hLm hX.size
      have hPP2 : (zs.map Prod.fst ++ ((inS s).1 :: (listS inS (N - (k + 1)) (inS s).2).1), (listS inS (N - (k + 1)) (inS s).2).2) = P := by
        rw [show N - k = (N - (k + 1)) + 1 by omega] at hPP; exact hPP
      clear hPP
      have hsr2 : (inS s).2.rest.length ≤ 1000000 := Nat.le_trans (in_restLe s) hsr
      obtain ⟨⟨i, s2⟩, hp⟩ : ∃ p, inS s = p := ⟨_, rfl⟩
      rw [hp] at hPP2 hsr2
      dsimp only at hPP2 hsr2
      go_wp2_with (first
        | ((with_reducible change wpList _ _ _ (Oper.mk (some 7) _ _ _ _ _ :: _) _ _); refine kLssI _ _ _ _ .u64 (k : Int) (N : Int) true rfl rfl rfl rfl hd ?_; go_frame)
        | (go_at_call 120; refine (tInRead_any _ hr hsr hL).mono ?_; rintro e w2 ⟨u, rfl, hou, hr2, hX2⟩; rw [hp] at hr2 hou ⊢; have hO2 := hO.over (over_exc hX2 hgl); have hU2 := fun z hz => (hU z hz).over (over_exc hX2 hgl); have hE2 := hX.trans hX2; have hou2 := own_less hX.size hou; clear hO hU hX2 hr hX hou; go_frame)
        | ((with_reducible change wpList _ _ _ (Oper.mk (some 11) _ _ _ _ _ :: _) _ _); refine kBuildIn1 _ i u hou2.vals.sl rfl rfl rfl ?_; intro w3 hR3 hz3 hB3; have hO3 := hO2.below hB3; have hU3 := fun z hz => (hU2 z hz).below hB3; have hou3 := hou2.below hB3; have hr3 := hr2.below hB3; have hE3 := hE2.trans (exc_below g hB3); have hrow := isRows_one (n := 35) hR3 (inR_len _); clear hO2 hU2 hou2 hr2 hE2 hB3 hz3 hR3; go_frame)
        | ((with_reducible change wpList _ _ _ (Oper.mk (some 12) _ _ _ _ _ :: _) _ _); refine kAppIns _ _ rfl rfl W0.heap.size _ _ zs [(i, u)] rfl hO3 rfl hrow (by intro z hz; simp at hz; subst hz; exact hou3.vals.sl.one) (by simp; omega) hE3.size ?_; intro v4 w4 hO4 hB4 hg4; have hU4 := fun z (hz : z ∈ zs) => ownB_grown (hU3 z hz) hO3 (by decide) hg4; have hou4 := ownB_grown hou3 hO3 (by decide) hg4; have hr4 := hr3.under hB4 hgl hLm; have hE4 := exc_then hE3 hB4; clear hO3 hU3 hou3 hr3 hE3 hg4 hB4 hrow; go_frame)
        | ((with_reducible change wpList _ _ _ (Oper.mk (some 13) _ _ _ _ _ :: _) _ _); refine kAddUP _ _ _ _ k 1 (k + 1) (by omega) rfl rfl rfl rfl ?_; go_frame))
      go_roundw
      case rel =>
        refine ⟨k + 1, zs ++ [(i, u)], s2, by omega, rfl, hO4, fun z hz => ?_, by simp; omega, hr4, hsr2, by rw [← hPP2]; simp, hE4⟩
        rcases List.mem_append.1 hz with hz | hz
        · exact hU4 z hz
        · simp at hz; subst hz; exact hou4
      case measure => simp [intOf]; omega
    · have hd : decide ((k : Int) < (N : Int)) = false := by simp; omega
      rw [show N - k = 0 by omega] at hPP
      have hPP2 : (zs.map Prod.fst ++ [], s) = P := hPP
      rw [List.append_nil] at hPP2
      subst hPP2
      go_wp2_with (first
        | ((with_reducible change wpList _ _ _ (Oper.mk (some 7) _ _ _ _ _ :: _) _ _); refine kLssI _ _ _ _ .u64 (k : Int) (N : Int) false rfl rfl rfl rfl hd ?_; go_frame))
      go_ret
      exact ⟨_, rfl, ⟨zs, rfl, hO, hU⟩, hr, hX⟩
set_option maxRecDepth 100000 in
set_option maxHeartbeats 8000000 in
theorem tOutsRead_any {s : Scn} {g : Nat} (W0 : World) (h : Rd Lm 97 W0 g s) (hs : s.rest.length ≤ 1000000) (hLm : Lm ≤ W0.heap.size) : Calls Tryz.prog 112 #[.pointer (some ⟨g, 0, none⟩)] W0 (OutsPost Lm 97 g W0 (outsS s)) := by
  have hgl := h.lt
  unfold outsS
  obtain ⟨p, hp⟩ : ∃ p, countS s 200 = p := ⟨_, rfl⟩
  have hpr : p.2.rest.length ≤ 1000000 := by rw [← hp]; exact Nat.le_trans (count_restLe s 200) hs
  have hN : p.1 ≤ 200 := by rw [← hp]; exact count_le s 200
  rw [hp]
  obtain ⟨N, s1⟩ := p
  dsimp only at hpr hN ⊢
  obtain ⟨P, hP⟩ : ∃ P, listS outS N s1 = P := ⟨_, rfl⟩
  rw [hP]
  go_enter Tryz.func112, Tryz.ntmps112
  go_wp2_with (first
    | (go_at_call 75; refine (rdCount_any (most := 200) _ h).mono ?_; rintro e w1 ⟨rfl, h1, hX1⟩; rw [hp] at h1 ⊢; clear hp; go_frame))
  go_loopw [6, 3] (fun x y wr => ∃ (k : Nat) (zs : List ((Int × List UInt8) × Value)) (s : Scn), k ≤ N ∧ x = .int .u64 (k : Int) ∧ OwnR 2 64 wr W0.heap.size y (zs.map outR) ∧ (∀ z ∈ zs, OwnB wr W0.heap.size z.2 z.1.2) ∧ zs.length = k ∧ Rd Lm 97 wr g s ∧ s.rest.length ≤ 1000000 ∧ (zs.map Prod.fst ++ (listS outS (N - k) s).1, (listS outS (N - k) s).2) = P ∧ Exc g W0 wr) (fun x _ _ => N - (intOf x).toNat)
  case atStart => exact ⟨0, [], s1, by omega, rfl, ownR_nil _ _ _ _, (fun z hz => by cases hz), rfl, h1, hpr, by rw [← hP]; rfl, hX1⟩
  case round =>
    clear hP h1 hX1 hpr h
    obtain ⟨k, zs, s, hk, rfl, hO, hU, hzl, hr, hsr, hPP, hX⟩ := hrel
    by_cases hlt : k < N
    · have hd : decide ((k : Int) < (N : Int)) = true := by simp; omega
      have hL := Nat.le_trans hLm hX.size
      have hPP2 : (zs.map Prod.fst ++ ((outS s).1 :: (listS outS (N - (k + 1)) (outS s).2).1), (listS outS (N - (k + 1)) (outS s).2).2) = P := by
        rw [show N - k = (N - (k + 1)) + 1 by omega] at hPP; exact hPP
      clear hPP
      have hsr2 : (outS s).2.rest.length ≤ 1000000 := Nat.le_trans (out_restLeT s) hsr
      obtain ⟨⟨⟨q, l⟩, s2⟩, hp⟩ : ∃ p, outS s = p := ⟨_, rfl⟩
      rw [hp] at hPP2 hsr2
      dsimp only at hPP2 hsr2
      go_wp2_with (first
        | ((with_reducible change wpList _ _ _ (Oper.mk (some 7) _ _ _ _ _ :: _) _ _); refine kLssI _ _ _ _ .u64 (k : Int) (N : Int) true rfl rfl rfl rfl hd ?_; go_frame)
        | (go_at_call 121; refine (coOutRead_any _ hr hsr).mono ?_; rintro e w2 ⟨u, rfl, hou, hr2, hX2⟩; rw [hp] at hr2 hou ⊢; have hO2 := hO.over (over_exc hX2 hgl); have hU2 := fun z hz => (hU z hz).over (over_exc hX2 hgl); have hE2 := hX.trans hX2; have hou2 := own_less hX.size hou; clear hO hU hX2 hr hX hou; go_frame)
        | ((with_reducible change wpList _ _ _ (Oper.mk (some 11) _ _ _ _ _ :: _) _ _); refine kBuildOut1T _ q l u hou2.vals.sl rfl rfl rfl ?_; intro w3 hR3 hz3 hB3; have hO3 := hO2.below hB3; have hU3 := fun z hz => (hU2 z hz).below hB3; have hou3 := hou2.below hB3; have hr3 := hr2.below hB3; have hE3 := hE2.trans (exc_below g hB3); have hrow := isRows_one (n := 2) hR3 (outR_len _); clear hO2 hU2 hou2 hr2 hE2 hB3 hz3 hR3; go_frame)
        | ((with_reducible change wpList _ _ _ (Oper.mk (some 12) _ _ _ _ _ :: _) _ _); refine kAppOuts _ _ rfl rfl W0.heap.size _ _ zs [((q, l), u)] rfl hO3 rfl hrow (by intro z hz; simp at hz; subst hz; exact hou3.vals.sl.one) (by simp; omega) hE3.size ?_; intro v4 w4 hO4 hB4 hg4; have hU4 := fun z (hz : z ∈ zs) => ownB_grown (hU3 z hz) hO3 (by decide) hg4; have hou4 := ownB_grown hou3 hO3 (by decide) hg4; have hr4 := hr3.under hB4 hgl hLm; have hE4 := exc_then hE3 hB4; clear hO3 hU3 hou3 hr3 hE3 hg4 hB4 hrow; go_frame)
        | ((with_reducible change wpList _ _ _ (Oper.mk (some 13) _ _ _ _ _ :: _) _ _); refine kAddUP _ _ _ _ k 1 (k + 1) (by omega) rfl rfl rfl rfl ?_; go_frame))
      go_roundw
      case rel =>
        refine ⟨k + 1, zs ++ [((q, l), u)], s2, by omega, rfl, hO4, fun z hz => ?_, by simp; omega, hr4, hsr2, by rw [← hPP2]; simp, hE4⟩
        rcases List.mem_append.1 hz with hz | hz
        · exact hU4 z hz
        · simp at hz; subst hz; exact hou4
      case measure => simp [intOf]; omega
    · have hd : decide ((k : Int) < (N : Int)) = false := by simp; omega
      rw [show N - k = 0 by omega] at hPP
      have hPP2 : (zs.map Prod.fst ++ [], s) = P := hPP
      rw [List.append_nil] at hPP2
      subst hPP2
      go_wp2_with (first
        | ((with_reducible change wpList _ _ _ (Oper.mk (some 7) _ _ _ _ _ :: _) _ _); refine kLssI _ _ _ _ .u64 (k : Int) (N : Int) false rfl rfl rfl rfl hd ?_; go_frame))
      go_ret
      exact ⟨_, rfl, ⟨zs, rfl, hO, hU⟩, hr, hX⟩
set_option maxRecDepth 100000 in
set_option maxHeartbeats 8000000 in
theorem tRead_any {s : Scn} {g : Nat} (W0 : World) (h : Rd Lm 97 W0 g s) (hs : s.rest.length ≤ 1000000) (hLm : Lm ≤ W0.heap.size) : Calls Tryz.prog 76 #[.pointer (some ⟨g, 0, none⟩)] W0 (TxPost Lm 97 g W0 (readS s)) := by
  have hgl := h.lt
  have hgA : W0.heap.size ≠ g := by omega
  obtain ⟨R, hR⟩ : ∃ R, readS s = R := ⟨_, rfl⟩
  rw [hR]
  unfold readS at hR
  rw [rawTx_eq] at hR
  obtain ⟨p, hp⟩ : ∃ p, fixedS s 4 = p := ⟨_, rfl⟩
  have hpr : p.2.rest.length ≤ 1000000 := by rw [← hp]; exact Nat.le_trans (fixed_restLeC s 4) hs
  rw [hp] at hR
  obtain ⟨q, hq⟩ : ∃ q, insS p.2 = q := ⟨_, rfl⟩
  have hqr : q.2.rest.length ≤ 1000000 := by rw [← hq]; exact Nat.le_trans (ins_restLe p.2) hpr
  rw [hq] at hR
  obtain ⟨r, hr⟩ : ∃ r, outsS q.2 = r := ⟨_, rfl⟩
  have hrr : r.2.rest.length ≤ 1000000 := by rw [← hr]; exact Nat.le_trans (outs_restLe q.2) hqr
  rw [hr] at hR
  obtain ⟨t, ht⟩ : ∃ t, fixedS r.2 4 = t := ⟨_, rfl⟩
  rw [ht] at hR
  dsimp only at hR
  obtain ⟨E, hE⟩ : ∃ E, t.2.err = E := ⟨_, rfl⟩
  rw [hE] at hR
  by_cases e0 : E ≠ 0
  · rw [if_pos e0] at hR
    subst hR
    have he : (!decide ((E : Int) = 0)) = true := by simp; exact e0
    clear e0
    go_enter Tryz.func76, Tryz.ntmps76
    go_wp2_with (first
      | ((with_reducible change wpList _ _ _ (Oper.mk (some 2) _ _ _ _ _ :: _) _ _); refine kAllocL _ _ rfl rfl zero_TxC ?_; intro w1 hRA hz1 hB1; have h1 := h.below hB1; have hE1 := exc_below g hB1; have hz1h : Hid (W0.heap.size < w1.heap.size) := hz1; have hg1 : Hid (g < w1.heap.size) := h1.lt; have hL1 : Hid (Lm ≤ w1.heap.size) := Nat.le_trans hLm (Nat.le_of_lt hz1); have hs1 := Nat.le_refl w1.heap.size; clear hB1 hz1; go_frame)
      | (go_at_call 110; refine (tWordRead_any _ h1).mono ?_; rintro e w2 ⟨rfl, h2, hX2⟩; rw [hp] at h2 ⊢; have hRA2 := hX2.row hRA hgA; have hE2 := hE1.trans hX2; have hs2 := Nat.le_trans hs1 hX2.size; clear hRA hE1 hX2 h1 hs1; go_frame)
      | (go_at_call 111; refine (tInsRead_any _ h2 hpr (Nat.le_trans hL1.out hs2)).mono ?_; rintro e w3 ⟨a, rfl, hI3, h3, hX3⟩; rw [hq] at h3 hI3; have hI := hI3.less hs2; have hRA3 := hX3.row hRA2 hgA; have hE3 := hE2.trans hX3; have hs3 := Nat.le_trans hs2 hX3.size; clear hRA2 hE2 hX3 h2 hs2 hI3; go_frame)
      | (go_at_call 112; refine (tOutsRead_any _ h3 hqr (Nat.le_trans hL1.out hs3)).mono ?_; rintro e w4 ⟨b, rfl, hO4, h4, hX4⟩; rw [hr] at h4 hO4; have hO := hO4.less hs3; have hI4 := hI.over (over_exc hX4 hg1.out); have hRA4 := hX4.row hRA3 hgA; have hE4 := hE3.trans hX4; have hs4 := Nat.le_trans hs3 hX4.size; clear hRA3 hE3 hX4 h3 hs3 hO4 hI; go_frame)
      | (go_at_call 110; refine (tWordRead_any _ h4).mono ?_; rintro e w5 ⟨rfl, h5, hX5⟩; rw [ht] at h5 ⊢; have hI5 := hI4.over (over_exc hX5 hg1.out); have hO5 := hO.over (over_exc hX5 hg1.out); have hRA5 := hX5.row hRA4 hgA; have hE5 := hE4.trans hX5; have hs5 := Nat.le_trans hs4 hX5.size; clear hRA4 hE4 hX5 h4 hs4 hO hI4; go_frame)
      | ((with_reducible change wpList _ _ _ (Oper.mk (some 12) _ _ _ _ _ :: _) _ _); refine kBuildTx4 _ _ _ _ p.1 t.1 a b hI5.of.sl hO5.of.sl rfl rfl rfl rfl rfl rfl ?_; go_frame)
      | ((with_reducible change wpList _ _ _ (Oper.mk (some 3) _ _ _ _ _ :: _) _ _); refine kAllocL _ _ rfl rfl zero_TxC ?_; intro w6 hRB hz6 hB6; have hRA6 := hRA5.below hB6 hRA5.lt; have hE6 := hE5.trans (exc_below g hB6); have hAB : Hid (W0.heap.size ≠ w5.heap.size) := Nat.ne_of_lt hRA5.lt; clear hz6; go_frame)
      | ((with_reducible change wpList _ _ _ (Oper.mk none _ _ _ _ _ :: _) _ _); refine kStoreTx _ _ w5.heap.size p.1 t.1 a b _ hRB rfl hI5.of.sl.one hO5.of.sl.one rfl rfl rfl rfl ?_; intro w7 hRB7 hW7; have hB7 := hB6.trans (hW7.below (Nat.le_refl _)); have hI7 := hI5.below hB7; have hO7 := hO5.below hB7; have h7 := h5.below hB7; have hRA7 := hW7.row hRA6 hAB.out; have hE7 := hE5.trans (exc_below g hB7); clear hRB hB6 hE6 hW7 hB7 hI5 hO5 h5 hRA5 hRA6 hE5 hs5; go_frame)
      | (go_at_call 57; refine (rdErr_any (n := E) _ h7 hE).mono ?_; rintro e w8 ⟨rfl, rfl⟩; go_frame)
      | ((with_reducible change wpList _ _ _ (Oper.mk (some 15) _ _ _ _ _ :: _) _ _); refine kNeqI _ _ _ _ .i64 (E : Int) 0 true rfl rfl rfl rfl he ?_; go_frame)
      | ((with_reducible change wpList _ _ _ (Oper.mk (some 16) _ _ _ _ _ :: _) _ _); refine kBuildTx0 rfl rfl ?_; go_frame)
      | ((with_reducible change wpList _ _ _ (Oper.mk none _ _ _ _ _ :: _) _ _); refine kStoreTx _ _ W0.heap.size 0 0 (.slice none 0 0) (.slice none 0 0) _ hRA7 rfl rfl rfl rfl rfl rfl rfl ?_; intro w9 hRA9 hW9; have h9 := h7.wrote hW9 hLm (Ne.symm hgA); have hE9 := exc_new hE7 hW9 (Nat.le_refl _); go_frame))
    (try simp only [Exit.inBlock, Exit.then])
    exact result_row rfl rfl hRA9 Tryz.underlying34 rfl info_TxC rfl ⟨_, _, rfl, ownIns_nil _ _, ownOuts_nil _ _, h9, hE9⟩
  · rw [if_neg e0] at hR
    subst hR
    have he : (!decide ((E : Int) = 0)) = false := by simp; omega
    clear e0
    go_enter Tryz.func76, Tryz.ntmps76
    go_wp2_with (first
      | ((with_reducible change wpList _ _ _ (Oper.mk (some 2) _ _ _ _ _ :: _) _ _); refine kAllocL _ _ rfl rfl zero_TxC ?_; intro w1 hRA hz1 hB1; have h1 := h.below hB1; have hE1 := exc_below g hB1; have hz1h : Hid (W0.heap.size < w1.heap.size) := hz1; have hg1 : Hid (g < w1.heap.size) := h1.lt; have hL1 : Hid (Lm ≤ w1.heap.size) := Nat.le_trans hLm (Nat.le_of_lt hz1); have hs1 := Nat.le_refl w1.heap.size; clear hB1 hz1; go_frame)
      | (go_at_call 110; refine (tWordRead_any _ h1).mono ?_; rintro e w2 ⟨rfl, h2, hX2⟩; rw [hp] at h2 ⊢; have hRA2 := hX2.row hRA hgA; have hE2 := hE1.trans hX2; have hs2 := Nat.le_trans hs1 hX2.size; clear hRA hE1 hX2 h1 hs1; go_frame)
      | (go_at_call 111; refine (tInsRead_any _ h2 hpr (Nat.le_trans hL1.out hs2)).mono ?_; rintro e w3 ⟨a, rfl, hI3, h3, hX3⟩; rw [hq] at h3 hI3; have hI := hI3.less hs2; have hRA3 := hX3.row hRA2 hgA; have hE3 := hE2.trans hX3; have hs3 := Nat.le_trans hs2 hX3.size; clear hRA2 hE2 hX3 h2 hs2 hI3; go_frame)
      | (go_at_call 112; refine (tOutsRead_any _ h3 hqr (Nat.le_trans hL1.out hs3)).mono ?_; rintro e w4 ⟨b, rfl, hO4, h4, hX4⟩; rw [hr] at h4 hO4; have hO := hO4.less hs3; have hI4 := hI.over (over_exc hX4 hg1.out); have hRA4 := hX4.row hRA3 hgA; have hE4 := hE3.trans hX4; have hs4 := Nat.le_trans hs3 hX4.size; clear hRA3 hE3 hX4 h3 hs3 hO4 hI; go_frame)
      | (go_at_call 110; refine (tWordRead_any _ h4).mono ?_; rintro e w5 ⟨rfl, h5, hX5⟩; rw [ht] at h5 ⊢; have hI5 := hI4.over (over_exc hX5 hg1.out); have hO5 := hO.over (over_exc hX5 hg1.out); have hRA5 := hX5.row hRA4 hgA; have hE5 := hE4.trans hX5; have hs5 := Nat.le_trans hs4 hX5.size; clear hRA4 hE4 hX5 h4 hs4 hO hI4; go_frame)
      | ((with_reducible change wpList _ _ _ (Oper.mk (some 12) _ _ _ _ _ :: _) _ _); refine kBuildTx4 _ _ _ _ p.1 t.1 a b hI5.of.sl hO5.of.sl rfl rfl rfl rfl rfl rfl ?_; go_frame)
      | ((with_reducible change wpList _ _ _ (Oper.mk (some 3) _ _ _ _ _ :: _) _ _); refine kAllocL _ _ rfl rfl zero_TxC ?_; intro w6 hRB hz6 hB6; have hRA6 := hRA5.below hB6 hRA5.lt; have hE6 := hE5.trans (exc_below g hB6); have hAB : Hid (W0.heap.size ≠ w5.heap.size) := Nat.ne_of_lt hRA5.lt; clear hz6; go_frame)
      | ((with_reducible change wpList _ _ _ (Oper.mk none _ _ _ _ _ :: _) _ _); refine kStoreTx _ _ w5.heap.size p.1 t.1 a b _ hRB rfl hI5.of.sl.one hO5.of.sl.one rfl rfl rfl rfl ?_; intro w7 hRB7 hW7; have hB7 := hB6.trans (hW7.below (Nat.le_refl _)); have hI7 := hI5.below hB7; have hO7 := hO5.below hB7; have h7 := h5.below hB7; have hRA7 := hW7.row hRA6 hAB.out; have hE7 := hE5.trans (exc_below g hB7); clear hRB hB6 hE6 hW7 hB7 hI5 hO5 h5 hRA5 hRA6 hE5 hs5; go_frame)
      | (go_at_call 57; refine (rdErr_any (n := E) _ h7 hE).mono ?_; rintro e w8 ⟨rfl, rfl⟩; go_frame)
      | ((with_reducible change wpList _ _ _ (Oper.mk (some 15) _ _ _ _ _ :: _) _ _); refine kNeqI _ _ _ _ .i64 (E : Int) 0 false rfl rfl rfl rfl he ?_; go_frame)
      | ((with_reducible change wpList _ _ _ (Oper.mk (some 17) _ _ _ _ _ :: _) _ _); refine kLoadTx _ _ p.1 t.1 a b hRB7 rfl rfl rfl ?_; go_frame)
      | ((with_reducible change wpList _ _ _ (Oper.mk none _ _ _ _ _ :: _) _ _); refine kStoreTx _ _ W0.heap.size p.1 t.1 a b _ hRA7 rfl hI7.of.sl.one hO7.of.sl.one rfl rfl rfl rfl ?_; intro w9 hRA9 hW9; have h9 := h7.wrote hW9 hLm (Ne.symm hgA); have hE9 := exc_new hE7 hW9 (Nat.le_refl _); have hI9 := (hI7.over (over_wrote hW9 hz1h.out)).less (Nat.le_of_lt hz1h.out); have hO9 := (hO7.over (over_wrote hW9 hz1h.out)).less (Nat.le_of_lt hz1h.out); go_frame))
    (try simp only [Exit.inBlock, Exit.then])
    exact result_row rfl rfl hRA9 Tryz.underlying34 rfl info_TxC rfl ⟨_, _, rfl, hI9, hO9, h9, hE9⟩
theorem read_restLe (s : Scn) : (readS s).2.rest.length ≤ s.rest.length := by
  have h := raw_restLeTx s
  unfold readS
  split <;> exact h
end Go.Proofs.YtmfjgehlkbndjaaGreatDoor

/-
  Layer 10: the walks of what reads, the reference's.
-/
namespace Go.Proofs.YtmfjgehlkbndjaaGreatDoor
open Go Go.RowKit

variable {Lm : Nat}
theorem ownsRow_grown {n m : Nat} {E F : TypeId} {w w' : World} {b b' k : Nat} {v u : Value} {xs : List Value} {L : List (List Value)} (h : w.ownsRow b F m u k xs) (ho : OwnR n E w b' v L) (hE : E ≠ F) (hg : w.grownBy w' v.ownBlock) : w'.ownsRow b F m u k xs := by
  refine ⟨h.1, ?_⟩
  rcases h.2 with hn | ⟨g, cap, cur, rfl, hb, hk, rest⟩
  · exact .inl hn
  · refine .inr ⟨g, cap, cur, rfl, hb, ?_, rest⟩
    rw [hg.block g (Array.getElem?_eq_some_iff.1 hk).1 ?_]
    · exact hk
    · intro e
      rcases ho.1.2 with ⟨rfl, _⟩ | ⟨g', cap', cur', rfl, _, hg', _⟩
      · simp [Value.ownBlock] at e
      · simp only [Value.ownBlock, Option.some.injEq] at e
        subst e
        rw [hg'] at hk
        simp only [Option.some.injEq, Obj.cells.injEq] at hk
        exact hE hk.2.1
theorem ownIns_grownO {w w' : World} {b b' : Nat} {v u : Value} {l : List InP} {L : List (List Value)} (h : OwnIns w b u l) (ho : OwnR 2 64 w b' v L) (hg : w.grownBy w' v.ownBlock) : OwnIns w' b u l := by
  obtain ⟨zs, e, h1, h2⟩ := h
  exact ⟨zs, e, ⟨ownsRow_grown h1.1 ho (by decide) hg, h1.2⟩, fun z hz => ownsRow_grown (h2 z hz) ho (by decide) hg⟩
theorem inS_eq {s : Scn} {p : (List UInt8 × Nat) × Scn} {q : List UInt8 × Scn} {r : Nat × Scn} (hp : refS s = p) (hq : textS p.2 2000 = q) (hr : fixedS q.2 4 = r) : inS s = (⟨p.1.1, p.1.2, q.1, r.1⟩, r.2) := by
  unfold inS; rw [hp, hq, hr]
section
variable {P : Program} {ops : Array Oper} {S : World → Prop} {o : Oper} {a : Act}
end
set_option maxRecDepth 100000 in
set_option maxHeartbeats 8000000 in
theorem yRead_any {s : Scn} {g : Nat} (W0 : World) (h : Rd Lm 89 W0 g s) (hs : s.rest.length ≤ 1000000) (hLm : Lm ≤ W0.heap.size) : Calls Tryz.prog 52 #[.pointer (some ⟨g, 0, none⟩)] W0 (TxPost Lm 89 g W0 (readS s)) := by
  have hgl : Hid (g < W0.heap.size) := h.lt
  have hgA : W0.heap.size ≠ g := by have := hgl.out; omega
  obtain ⟨R, hR⟩ : ∃ R, readS s = R := ⟨_, rfl⟩
  rw [hR]
  unfold readS at hR
  rw [rawTx_eq] at hR
  obtain ⟨p, hp⟩ : ∃ p, fixedS s 4 = p := ⟨_, rfl⟩
  have hpr : p.2.rest.length ≤ 1000000 := by rw [← hp]; exact Nat.le_trans (fixed_restLeC s 4) hs
  have hp4 : p.1 % 4294967296 = p.1 := by rw [← hp]; exact Nat.mod_eq_of_lt (fixed4_lt s)
  rw [hp] at hR
  obtain ⟨q, hq⟩ : ∃ q, insS p.2 = q := ⟨_, rfl⟩
  have hqr : q.2.rest.length ≤ 1000000 := by rw [← hq]; exact Nat.le_trans (ins_restLe p.2) hpr
  rw [hq] at hR
  obtain ⟨r, hr⟩ : ∃ r, outsS q.2 = r := ⟨_, rfl⟩
  have hrr : r.2.rest.length ≤ 1000000 := by rw [← hr]; exact Nat.le_trans (outs_restLe q.2) hqr
  rw [hr] at hR
  obtain ⟨t, ht⟩ : ∃ t, fixedS r.2 4 = t := ⟨_, rfl⟩
  have ht4 : t.1 % 4294967296 = t.1 := by rw [← ht]; exact Nat.mod_eq_of_lt (fixed4_lt r.2)
  rw [ht] at hR
  dsimp only at hR
  obtain ⟨E, hE⟩ : ∃ E, t.2.err = E := ⟨_, rfl⟩
  rw [hE] at hR
  unfold insS at hq
  obtain ⟨c1, hc1⟩ : ∃ c, countS p.2 200 = c := ⟨_, rfl⟩
  have hc1r : c1.2.rest.length ≤ 1000000 := by rw [← hc1]; exact Nat.le_trans (count_restLe p.2 200) hpr
  have hN : c1.1 ≤ 200 := by rw [← hc1]; exact count_le p.2 200
  rw [hc1] at hq
  obtain ⟨N, s1⟩ := c1
  dsimp only at hc1r hN hq
  unfold outsS at hr
  obtain ⟨c2, hc2⟩ : ∃ c, countS q.2 200 = c := ⟨_, rfl⟩
  have hc2r : c2.2.rest.length ≤ 1000000 := by rw [← hc2]; exact Nat.le_trans (count_restLe q.2 200) hqr
  have hM : c2.1 ≤ 200 := by rw [← hc2]; exact count_le q.2 200
  rw [hc2] at hr
  obtain ⟨M, s2⟩ := c2
  dsimp only at hc2r hM hr
  go_enter Tryz.func52, Tryz.ntmps52
  go_wp2_with (first
    | ((with_reducible change wpList _ _ _ (Oper.mk (some 2) _ _ _ _ _ :: _) _ _); refine kAllocL _ _ rfl rfl zero_TxC ?_; intro w1 hRA hz1 hB1; have h1 := h.below hB1; have hE1 := exc_below g hB1; have hz1h : Hid (W0.heap.size < w1.heap.size) := hz1; clear hB1 hz1; go_frame)
    | (go_at_call 84; refine (jFixedOf_any (z := 4) _ h1 hs).mono ?_; rintro e w2 ⟨rfl, h2, hX2⟩; rw [hp] at h2 ⊢; have hRA2 := hX2.row hRA hgA; have hE2 := hE1.trans hX2; have hs2 : Hid (W0.heap.size < w2.heap.size) := Nat.lt_of_lt_of_le hz1h.out hX2.size; clear hRA hE1 hX2 h1 hz1h; go_frame)
    | ((with_reducible change wpList _ _ _ (Oper.mk (some 11) _ _ _ _ _ :: _) _ _); refine kConvUW _ p.1 rfl rfl rfl ?_; rw [hp4]; go_frame)
    | ((with_reducible change wpList _ _ _ (Oper.mk (some 12) _ _ _ _ _ :: _) _ _); refine kBuildTx1 _ p.1 rfl rfl rfl ?_; go_frame)
    | ((with_reducible change wpList _ _ _ (Oper.mk (some 3) _ _ _ _ _ :: _) _ _); refine kAllocL _ _ rfl rfl zero_TxC ?_; intro w3 hRB hz3 hB3; have hRA3 := hRA2.below hB3 hRA2.lt; have hz3h : Hid (w2.heap.size < w3.heap.size) := hz3; clear hz3; go_frame)
    | ((with_reducible change wpList _ _ _ (Oper.mk none _ _ _ _ _ :: _) _ _); refine kStoreTx _ _ w2.heap.size p.1 0 (.slice none 0 0) (.slice none 0 0) _ hRB rfl rfl rfl rfl rfl rfl rfl ?_; intro w4 hRB4 hW4; have hB4 := hB3.trans (hW4.below (Nat.le_refl _)); have h4 := h2.below hB4; have hRA4 := hW4.row hRA3 (Nat.ne_of_lt hs2.out); have hE4 := hE2.trans (exc_below g hB4); have hBb : Hid (w2.heap.size < w4.heap.size) := Nat.lt_of_lt_of_le hz3h.out (by rw [hW4.size]; exact Nat.le_refl _); clear hRB hB3 hW4 hB4 h2 hRA2 hRA3 hE2 hz3h; go_frame)
    | (go_at_call 51; refine (jCountOf_any (most := 200) _ h4 hpr).mono ?_; rintro e w5 ⟨rfl, h5, hX5⟩; rw [hc1] at h5 ⊢; have hBg : Hid (w2.heap.size ≠ g) := (by show w2.heap.size ≠ g; have := hs2.out; have := hgl.out; omega); have hRB5 := hX5.row hRB4 hBg.out; have hRA5 := hX5.row hRA4 hgA; have hE5 := hE4.trans hX5; have hs5 : w4.heap.size ≤ w5.heap.size := hX5.size; clear hRB4 hRA4 hE4 hX5 h4; go_frame)
    | ((with_reducible change wpList _ _ _ (Oper.mk (some 15) _ _ _ _ _ :: _) _ _); refine kConvUI _ N (by omega) rfl rfl rfl ?_; go_frame))
  have hgb : Hid (g < w4.heap.size) := by show g < w4.heap.size; have := hgl.out; have := hs2.out; have := hBb.out; omega
  have hLb : Hid (Lm ≤ w4.heap.size) := by show Lm ≤ w4.heap.size; have := hs2.out; have := hBb.out; omega
  have hAb : Hid (W0.heap.size < w4.heap.size) := Nat.lt_trans hs2.out hBb.out
  have hAB : Hid (W0.heap.size ≠ w2.heap.size) := Nat.ne_of_lt hs2.out
  have hWB : Hid (W0.heap.size ≤ w2.heap.size) := Nat.le_of_lt hs2.out
  clear hs h hs2
  go_loopw [5] (fun x wr => ∃ (k : Nat) (zs : List (InP × Value)) (s : Scn) (y : Value), k ≤ N ∧ x = .int .i64 (k : Int) ∧ Row wr W0.heap.size 34 (txC 0 (.slice none 0 0) (.slice none 0 0) 0) ∧ Row wr w2.heap.size 34 (txC p.1 y (.slice none 0 0) 0) ∧ OwnR 35 62 wr w4.heap.size y (zs.map inR) ∧ (∀ z ∈ zs, OwnB wr w4.heap.size z.2 z.1.unlock) ∧ zs.length = k ∧ Rd Lm 89 wr g s ∧ s.rest.length ≤ 1000000 ∧ (zs.map Prod.fst ++ (listS inS (N - k) s).1, (listS inS (N - k) s).2) = q ∧ w4.heap.size ≤ wr.heap.size ∧ Exc g W0 wr) (fun x _ => N - (intOf x).toNat)
  case atStart => exact ⟨0, [], s1, (.slice none 0 0), by omega, rfl, hRA5, hRB5, ownR_nil _ _ _ _, (fun z hz => by cases hz), rfl, h5, hc1r, by rw [← hq]; rfl, hs5, hE5⟩
  case round =>
    clear hq h5 hRA5 hRB5 hE5 hs5 hc1r
    obtain ⟨k, zs, s, y, hk, rfl, hRA, hRB, hO, hU, hzl, hrd, hsr, hPP, hsb, hX⟩ := hrel
    by_cases hlt : k < N
    · have hd : decide ((k : Int) < (N : Int)) = true := by simp; omega
      have hL := Nat.le_trans hLb.out hsb
      have hPP2 : (zs.map Prod.fst ++ ((inS s).1 :: (listS inS (N - (k + 1)) (inS s).2).1), (listS inS (N - (k + 1)) (inS s).2).2) = q := by
        rw [show N - k = (N - (k + 1)) + 1 by omega] at hPP; exact hPP
      clear hPP
      obtain ⟨p1, hp1⟩ : ∃ p, refS s = p := ⟨_, rfl⟩
      have hp1r : p1.2.rest.length ≤ 1000000 := by rw [← hp1]; exact Nat.le_trans (ref_restLeT s) hsr
      obtain ⟨q1, hq1⟩ : ∃ p, textS p1.2 2000 = p := ⟨_, rfl⟩
      have hq1r : q1.2.rest.length ≤ 1000000 := by rw [← hq1]; exact Nat.le_trans (text_restLeT p1.2 2000) hp1r
      obtain ⟨r1, hr1⟩ : ∃ p, fixedS q1.2 4 = p := ⟨_, rfl⟩
      have hr1r : r1.2.rest.length ≤ 1000000 := by rw [← hr1]; exact Nat.le_trans (fixed_restLeC q1.2 4) hq1r
      have hr14 : r1.1 % 4294967296 = r1.1 := by rw [← hr1]; exact Nat.mod_eq_of_lt (fixed4_lt q1.2)
      rw [inS_eq hp1 hq1 hr1] at hPP2
      dsimp only at hPP2
      go_wp2_with (first
        | ((with_reducible change wpList _ _ _ (Oper.mk (some 18) _ _ _ _ _ :: _) _ _); refine kLssI _ _ _ _ .i64 (k : Int) (N : Int) true rfl rfl rfl rfl hd ?_; go_frame)
        | (go_at_call 85; refine (zRefRead_any _ hrd hsr hL).mono ?_; rintro e a1 ⟨rfl, hrd1, hX1⟩; rw [hp1] at hrd1 ⊢; have hRA1 := hX1.row hRA hgA; have hRB1 := hX1.row hRB hBg.out; have hO1 := hO.over (over_exc hX1 hgb.out); have hU1 := fun z hz => (hU z hz).over (over_exc hX1 hgb.out); have hE1 := hX.trans hX1; have hs1 := Nat.le_trans hsb hX1.size; clear hRA hRB hO hU hX hX1 hrd hsb hL; go_frame)
        | ((with_reducible change wpList _ _ _ (Oper.mk (some 23) _ _ _ _ _ :: _) _ _); refine kBuildInR _ p1.1.1 p1.1.2 rfl rfl rfl ?_; go_frame)
        | ((with_reducible change wpList _ _ _ (Oper.mk (some 6) _ _ _ _ _ :: _) _ _); refine kAllocL _ _ rfl rfl zero_InC ?_; intro a2 hRC hz2 hB2; have hgC : Hid (a1.heap.size ≠ g) := (by show a1.heap.size ≠ g; have := hrd1.lt; omega); have hLC : Hid (Lm ≤ a1.heap.size) := Nat.le_trans hLb.out hs1; have hzC : Hid (a1.heap.size < a2.heap.size) := hz2; clear hz2; go_frame)
        | ((with_reducible change wpList _ _ _ (Oper.mk none _ _ _ _ _ :: _) _ _); refine kStoreIn _ _ a1.heap.size ⟨p1.1.1, p1.1.2, [], 0⟩ (.slice none 0 0) _ hRC (inC_size _ _) rfl rfl rfl rfl rfl ?_; intro a3 hRC3 hW3; have hB3 := hB2.trans (hW3.below (Nat.le_refl _)); have hrd3 := hrd1.below hB3; have hF3 := exc_below g hB3; have hz3 : Hid (a1.heap.size < a3.heap.size) := Nat.lt_of_lt_of_le hzC.out (by rw [hW3.size]; exact Nat.le_refl _); clear hB2 hW3 hRC hB3 hrd1 hzC; go_frame)
        | (go_at_call 86; refine (jTextOf_own (z := 2000) (by decide) _ hrd3 hp1r).mono ?_; rintro e a4 ⟨u, rfl, hu4, hrd4, hX4⟩; rw [hq1] at hu4 hrd4; have hRC4 := hX4.row hRC3 hgC.out; have hF4 := hF3.trans hX4; clear hRC3 hF3 hX4 hrd3; go_frame)
        | ((with_reducible change wpList _ _ _ (Oper.mk (some 26) _ _ _ _ _ :: _) _ _); refine kFld inCF1 _ _ 0 33 rfl rfl rfl rfl ?_; go_frame)
        | ((with_reducible change wpList _ _ _ (Oper.mk none (Op.store 38 _ _) _ _ _ _ :: _) _ _); refine kStore1 _ _ _ _ a1.heap.size 33 _ u rfl rfl rfl rfl hRC4 info_bytesP (by rw [inC_size]; decide) hu4.vals.sl.one ?_; intro a5 hRC5 hW5; rw [inC_put _ _ _ q1.1] at hRC5; have hu5 := own_wroteN hu4 hRC4 (by decide) hW5; have hrd5 := hrd4.wrote hW5 hLC.out (Ne.symm hgC.out); have hF5 := exc_new hF4 hW5 (Nat.le_refl _); clear hRC4 hW5 hu4 hrd4 hF4; go_frame)
        | (go_at_call 84; refine (jFixedOf_any (z := 4) _ hrd5 hq1r).mono ?_; rintro e a6 ⟨rfl, hrd6, hX6⟩; rw [hr1] at hrd6 ⊢; have hRC6 := hX6.row hRC5 hgC.out; have hu6 := hu5.over (over_exc hX6 (Nat.lt_trans (Nat.lt_of_lt_of_le hgb.out hs1) hz3.out)); have hF6 := hF5.trans hX6; clear hRC5 hu5 hX6 hF5 hrd5; go_frame)
        | ((with_reducible change wpList _ _ _ (Oper.mk (some 29) _ _ _ _ _ :: _) _ _); refine kConvUW _ r1.1 rfl rfl rfl ?_; rw [hr14]; go_frame)
        | ((with_reducible change wpList _ _ _ (Oper.mk (some 30) _ _ _ _ _ :: _) _ _); refine kFld inCF2 _ _ 0 34 rfl rfl rfl rfl ?_; go_frame)
        | ((with_reducible change wpList _ _ _ (Oper.mk none (Op.store 22 _ _) _ _ _ _ :: _) _ _); refine kStore1 _ _ _ _ a1.heap.size 34 _ (.int .u32 (r1.1 : Int)) rfl rfl rfl rfl hRC6 info_u32Co (by rw [inC_size]; decide) rfl ?_; intro a7 hRC7 hW7; rw [inC_order] at hRC7; have hu7 := own_less (Nat.le_trans hs1 (Nat.le_of_lt hz3.out)) (own_wroteN hu6 hRC6 (by decide) hW7); have hrd7 := hrd6.wrote hW7 hLC.out (Ne.symm hgC.out); have hF7 := exc_new hF6 hW7 (Nat.le_refl _); have hO7 := hO1.over (over_exc hF7 hgb.out); have hU7 := fun z hz => (hU1 z hz).over (over_exc hF7 hgb.out); have hRA7 := hF7.row hRA1 hgA; have hRB7 := hF7.row hRB1 hBg.out; have hE7 := hE1.trans hF7; have hs7 := Nat.le_trans hs1 hF7.size; clear hRC6 hW7 hu6 hrd6 hF6 hO1 hU1 hRA1 hRB1 hE1 hF7 hs1; go_frame)
        | ((with_reducible change wpList _ _ _ (Oper.mk (some 31) _ _ _ _ _ :: _) _ _); refine kFld txCF1 _ _ 0 1 rfl rfl rfl rfl ?_; go_frame)
        | ((with_reducible change wpList _ _ _ (Oper.mk (some 32) _ _ _ _ _ :: _) _ _); refine kLd Tryz.underlying31 rfl _ _ 1 _ y hRB7 rfl rfl rfl rfl ?_; go_frame)
        | ((with_reducible change wpList _ _ _ (Oper.mk (some 33) _ _ _ _ _ :: _) _ _); refine kLoadIn _ a1.heap.size ⟨p1.1.1, p1.1.2, q1.1, r1.1⟩ u hRC7 rfl rfl rfl ?_; go_frame)
        | ((with_reducible change wpList _ _ _ (Oper.mk (some 34) _ _ _ _ _ :: _) _ _); refine kBuildIn1 _ ⟨p1.1.1, p1.1.2, q1.1, r1.1⟩ u hu7.vals.sl rfl rfl rfl ?_; intro a8 hR8 hz8 hB8; have hO8 := hO7.below hB8; have hU8 := fun z hz => (hU7 z hz).below hB8; have hu8 := hu7.below hB8; have hrd8 := hrd7.below hB8; have hRA8 := hRA7.below hB8 hRA7.lt; have hRB8 := hRB7.below hB8 hRB7.lt; have hE8 := hE7.trans (exc_below g hB8); have hs8 := Nat.le_trans hs7 hB8.size; have hrow := isRows_one (n := 35) hR8 (inR_len _); clear hO7 hU7 hu7 hrd7 hRA7 hRB7 hE7 hs7 hB8 hR8 hz8 hRC7; go_frame)
        | ((with_reducible change wpList _ _ _ (Oper.mk (some 35) _ _ _ _ _ :: _) _ _); refine kAppIns _ _ rfl rfl w4.heap.size _ _ zs [(⟨p1.1.1, p1.1.2, q1.1, r1.1⟩, u)] rfl hO8 rfl hrow (by intro z hz; simp at hz; subst hz; exact hu8.vals.sl.one) (by simp; omega) hs8 ?_; intro y9 a9 hO9 hB9 hg9; have hU9 := fun z (hz : z ∈ zs) => ownB_grown (hU8 z hz) hO8 (by decide) hg9; have hu9 := ownB_grown hu8 hO8 (by decide) hg9; have hrd9 := hrd8.under hB9 hgb.out hLb.out; have hRA9 := hRA8.below hB9 hAb.out; have hRB9 := hRB8.below hB9 hBb.out; have hE9 := exc_then hE8 (hB9.mono (Nat.le_of_lt hAb.out)); have hs9 := Nat.le_trans hs8 hB9.size; clear hO8 hU8 hu8 hrd8 hRA8 hRB8 hE8 hg9 hB9 hrow hs8; go_frame)
        | ((with_reducible change wpList _ _ _ (Oper.mk (some 36) _ _ _ _ _ :: _) _ _); refine kFld txCF1 _ _ 0 1 rfl rfl rfl rfl ?_; go_frame)
        | ((with_reducible change wpList _ _ _ (Oper.mk none (Op.store 31 _ _) _ _ _ _ :: _) _ _); refine kStore1 _ _ _ _ w2.heap.size 1 _ y9 rfl rfl rfl rfl hRB9 info_insC (by show 1 < 4; decide) hO9.rows.sl.one ?_; intro a10 hRB10 hW10; have hO10 := hO9.over (over_wrote hW10 hBb.out); have hU10 := fun z hz => (hU9 z hz).over (over_wrote hW10 hBb.out); have hu10 := hu9.over (over_wrote hW10 hBb.out); have hrd10 := hrd9.wrote hW10 (Nat.le_trans hLm hWB.out) (Ne.symm hBg.out); have hRA10 := hW10.row hRA9 hAB.out; have hE10 := exc_new hE9 hW10 hWB.out; have hs10 : w4.heap.size ≤ a10.heap.size := (by rw [hW10.size]; exact hs9); clear hO9 hU9 hu9 hrd9 hRA9 hRB9 hE9 hW10 hs9; go_frame)
        | ((with_reducible change wpList _ _ _ (Oper.mk (some 20) _ _ _ _ _ :: _) _ _); refine kAddI _ _ _ _ (k : Int) 1 ((k + 1 : Nat) : Int) (by omega) rfl rfl rfl rfl ?_; go_frame))
      go_roundw
      case rel =>
        refine ⟨k + 1, zs ++ [(⟨p1.1.1, p1.1.2, q1.1, r1.1⟩, u)], r1.2, y9, by omega, rfl, hRA10, hRB10, hO10, fun z hz => ?_, by simp; omega, hrd10, hr1r, by rw [← hPP2]; simp, hs10, hE10⟩
        rcases List.mem_append.1 hz with hz | hz
        · exact hU10 z hz
        · simp at hz; subst hz; exact hu10
      case measure => simp [intOf]; omega
    · have hd : decide ((k : Int) < (N : Int)) = false := by simp; omega
      rw [show N - k = 0 by omega] at hPP
      have hPP2 : (zs.map Prod.fst ++ [], s) = q := hPP
      rw [List.append_nil] at hPP2
      subst hPP2
      have hI : OwnIns wr w4.heap.size y (zs.map Prod.fst) := ⟨zs, rfl, hO, hU⟩
      obtain ⟨is, his⟩ : ∃ is, zs.map Prod.fst = is := ⟨_, rfl⟩
      rw [his] at hI hR
      clear hO hU his hPP hzl hlt
      go_wp2_with (first
        | ((with_reducible change wpList _ _ _ (Oper.mk (some 18) _ _ _ _ _ :: _) _ _); refine kLssI _ _ _ _ .i64 (k : Int) (N : Int) false rfl rfl rfl rfl hd ?_; go_frame)
        | (go_at_call 51; refine (jCountOf_any (most := 200) _ hrd hsr).mono ?_; rintro e w5 ⟨rfl, h5, hX5⟩; rw [hc2] at h5 ⊢; have hRB5 := hX5.row hRB hBg.out; have hRA5 := hX5.row hRA hgA; have hI5 := hI.over (over_exc hX5 hgb.out); have hE5 := hX.trans hX5; have hs5 := Nat.le_trans hsb hX5.size; clear hRB hRA hX hX5 hrd hI hsb; go_frame)
        | ((with_reducible change wpList _ _ _ (Oper.mk (some 39) _ _ _ _ _ :: _) _ _); refine kConvUI _ M (by omega) rfl rfl rfl ?_; go_frame))
      go_loopw [8] (fun x wr => ∃ (k : Nat) (zs : List ((Int × List UInt8) × Value)) (s : Scn) (b : Value), k ≤ M ∧ x = .int .i64 (k : Int) ∧ Row wr W0.heap.size 34 (txC 0 (.slice none 0 0) (.slice none 0 0) 0) ∧ Row wr w2.heap.size 34 (txC p.1 y b 0) ∧ OwnIns wr w4.heap.size y is ∧ OwnR 2 64 wr w4.heap.size b (zs.map outR) ∧ (∀ z ∈ zs, OwnB wr w4.heap.size z.2 z.1.2) ∧ zs.length = k ∧ Rd Lm 89 wr g s ∧ s.rest.length ≤ 1000000 ∧ (zs.map Prod.fst ++ (listS outS (M - k) s).1, (listS outS (M - k) s).2) = r ∧ w4.heap.size ≤ wr.heap.size ∧ Exc g W0 wr) (fun x _ => M - (intOf x).toNat)
      case atStart => exact ⟨0, [], s2, (.slice none 0 0), by omega, rfl, hRA5, hRB5, hI5, ownR_nil _ _ _ _, (fun z hz => by cases hz), rfl, h5, hc2r, by rw [← hr]; rfl, hs5, hE5⟩
      case round =>
        clear hr h5 hRA5 hRB5 hE5 hI5 hs5 hc2r hd hsr
        obtain ⟨k, zs, s, b, hk, rfl, hRA, hRB, hI, hO, hU, hzl, hrd, hsr, hPP, hsb, hX⟩ := hrel
        by_cases hlt : k < M
        · have hd : decide ((k : Int) < (M : Int)) = true := by simp; omega
          have hPP2 : (zs.map Prod.fst ++ ((outS s).1 :: (listS outS (M - (k + 1)) (outS s).2).1), (listS outS (M - (k + 1)) (outS s).2).2) = r := by
            rw [show M - k = (M - (k + 1)) + 1 by omega] at hPP; exact hPP
          clear hPP
          have hsr2 : (outS s).2.rest.length ≤ 1000000 := Nat.le_trans (out_restLeT s) hsr
          obtain ⟨⟨⟨n1, l1⟩, s3⟩, hp1⟩ : ∃ p, outS s = p := ⟨_, rfl⟩
          rw [hp1] at hPP2 hsr2
          dsimp only at hPP2 hsr2
          go_wp2_with (first
            | ((with_reducible change wpList _ _ _ (Oper.mk (some 42) _ _ _ _ _ :: _) _ _); refine kLssI _ _ _ _ .i64 (k : Int) (M : Int) true rfl rfl rfl rfl hd ?_; go_frame))
          refine region_mixE [(0, true), (1, true), (2, true), (3, false), (4, false), (5, false), (6, true)] 7 _ (fun w => Row w w2.heap.size 34 (txC p.1 y b 0)) (by kernel_rfl) (by kernel_rfl) rfl rfl ?_
          intro b0 hBd hsd
          have hRA0 := hRA.below hBd hRA.lt
          have hRB0 := hRB.below hBd hRB.lt
          have hI0 := hI.below hBd
          have hO0 := hO.below hBd
          have hU0 := fun z hz => (hU z hz).below hBd
          have hrd0 := hrd.below hBd
          have hE0 := hX.trans (exc_below g hBd)
          have hs0 : w4.heap.size ≤ b0.heap.size := by rw [hsd]; exact hsb
          clear hRA hRB hI hO hU hrd hX hBd hsd hsb
          simp only [List.map_cons, List.map_nil]
          dsimp only [List.filterMap, List.getElem?_cons_zero, List.getElem?_cons_succ]
          refine dY _ hRB0 (yFld txCF2 _ _ 0 2 rfl rfl rfl rfl) ?_; go_frame
          refine dY _ hRB0 (yLoad1 _ _ _ _ 2 _ b _ rfl rfl rfl (fun _ h => h) Tryz.underlying32 rfl rfl) ?_; go_frame
          refine dY _ hRB0 (yMove _ (.pointer (some ⟨g, 0, none⟩)) rfl rfl rfl) ?_; go_frame
          refine dLoud ?_
          refine kCall1 87 _ _ _ rfl rfl (by kernel_rfl) rfl ?_
          refine (zOutRead_any _ hrd0 hsr).mono ?_
          rintro e b1 ⟨u, rfl, hou, hrd1, hX1⟩
          rw [hp1] at hrd1 hou ⊢
          have hRA1 := hX1.row hRA0 hgA
          have hRB1 := hX1.row hRB0 hBg.out
          have hI1 := hI0.over (over_exc hX1 hgb.out)
          have hO1 := hO0.over (over_exc hX1 hgb.out)
          have hU1 := fun z hz => (hU0 z hz).over (over_exc hX1 hgb.out)
          have hu1 := own_less hs0 hou
          have hE1 := hE0.trans hX1
          have hs1 := Nat.le_trans hs0 hX1.size
          clear hRA0 hRB0 hI0 hO0 hU0 hou hE0 hs0 hX1 hrd0
          refine ⟨_, rfl, mixOn ⟨fun w => Row w w2.heap.size 34 (txC p.1 y b 0), fun _ h => h, hRB1, ?_⟩⟩
          go_frame
          refine dLoud ?_
          refine kBuildOut1T _ n1 l1 u hu1.vals.sl rfl rfl rfl ?_
          intro b2 hR2 hz2 hB2
          have hRA2 := hRA1.below hB2 hRA1.lt
          have hRB2 := hRB1.below hB2 hRB1.lt
          have hI2 := hI1.below hB2
          have hO2 := hO1.below hB2
          have hU2 := fun z hz => (hU1 z hz).below hB2
          have hu2 := hu1.below hB2
          have hrd2 := hrd1.below hB2
          have hE2 := hE1.trans (exc_below g hB2)
          have hs2 := Nat.le_trans hs1 hB2.size
          have hrow := isRows_one (n := 2) hR2 (outR_len _)
          clear hRA1 hRB1 hI1 hO1 hU1 hu1 hrd1 hE1 hs1 hR2 hz2 hB2
          refine mixOn ⟨fun w => Row w w2.heap.size 34 (txC p.1 y b 0), fun _ h => h, hRB2, ?_⟩
          go_frame
          refine dLoud ?_
          refine kAppOuts _ _ rfl rfl w4.heap.size _ _ zs [((n1, l1), u)] rfl hO2 rfl hrow (by intro z hz; simp at hz; subst hz; exact hu2.vals.sl.one) (by simp; omega) hs2 ?_
          intro b9 a3 hO3 hB3 hg3
          have hU3 := fun z (hz : z ∈ zs) => ownB_grown (hU2 z hz) hO2 (by decide) hg3
          have hu3 := ownB_grown hu2 hO2 (by decide) hg3
          have hI3 := ownIns_grownO hI2 hO2 hg3
          have hrd3 := hrd2.under hB3 hgb.out hLb.out
          have hRA3 := hRA2.below hB3 hAb.out
          have hRB3 := hRB2.below hB3 hBb.out
          have hE3 := exc_then hE2 (hB3.mono (Nat.le_of_lt hAb.out))
          have hs3 := Nat.le_trans hs2 hB3.size
          clear hRA2 hRB2 hI2 hO2 hU2 hu2 hrd2 hE2 hs2 hB3 hg3 hrow
          refine mixOn ⟨fun w => Row w w2.heap.size 34 (txC p.1 y b 0), fun _ h => h, hRB3, ?_⟩
          go_frame
          refine dY _ hRB3 (yFld txCF2 _ _ 0 2 rfl rfl rfl rfl) ?_; go_frame
          refine dDone ?_
          refine kStore1 _ _ _ _ w2.heap.size 2 _ b9 rfl rfl rfl rfl hRB3 info_outsC (by show 2 < 4; decide) hO3.rows.sl.one ?_
          intro a4 hRB4 hW4
          have hO4 := hO3.over (over_wrote hW4 hBb.out)
          have hU4 := fun z hz => (hU3 z hz).over (over_wrote hW4 hBb.out)
          have hu4 := hu3.over (over_wrote hW4 hBb.out)
          have hI4 := hI3.over (over_wrote hW4 hBb.out)
          have hrd4 := hrd3.wrote hW4 (Nat.le_trans hLm hWB.out) (Ne.symm hBg.out)
          have hRA4 := hW4.row hRA3 hAB.out
          have hE4 := exc_new hE3 hW4 hWB.out
          have hs4 : w4.heap.size ≤ a4.heap.size := by rw [hW4.size]; exact hs3
          clear hO3 hU3 hu3 hI3 hrd3 hRA3 hRB3 hE3 hs3 hW4
          refine mixOn ?_
          go_frame
          go_wp2_with (first
            | ((with_reducible change wpList _ _ _ (Oper.mk (some 44) _ _ _ _ _ :: _) _ _); refine kAddI _ _ _ _ (k : Int) 1 ((k + 1 : Nat) : Int) (by omega) rfl rfl rfl rfl ?_; go_frame))
          go_roundw
          case rel =>
            refine ⟨k + 1, zs ++ [((n1, l1), u)], s3, b9, by omega, rfl, hRA4, hRB4, hI4, hO4, fun z hz => ?_, by simp; omega, hrd4, hsr2, by rw [← hPP2]; simp, hs4, hE4⟩
            rcases List.mem_append.1 hz with hz | hz
            · exact hU4 z hz
            · simp at hz; subst hz; exact hu4
          case measure => simp [intOf]; omega
        · have hd : decide ((k : Int) < (M : Int)) = false := by simp; omega
          rw [show M - k = 0 by omega] at hPP
          have hPP2 : (zs.map Prod.fst ++ [], s) = r := hPP
          rw [List.append_nil] at hPP2
          subst hPP2
          have hO' : OwnOuts wr w4.heap.size b (zs.map Prod.fst) := ⟨zs, rfl, hO, hU⟩
          obtain ⟨os, hos⟩ : ∃ os, zs.map Prod.fst = os := ⟨_, rfl⟩
          rw [hos] at hO' hR
          clear hO hU hos hPP hzl hlt
          by_cases e0 : E ≠ 0
          · rw [if_pos e0] at hR
            subst hR
            have he : (!decide ((E : Int) = 0)) = true := by simp; exact e0
            clear e0
            go_wp2_with (first
              | ((with_reducible change wpList _ _ _ (Oper.mk (some 42) _ _ _ _ _ :: _) _ _); refine kLssI _ _ _ _ .i64 (k : Int) (M : Int) false rfl rfl rfl rfl hd ?_; go_frame)
              | (go_at_call 84; refine (jFixedOf_any (z := 4) _ hrd hsr).mono ?_; rintro e w5 ⟨rfl, h5, hX5⟩; rw [ht] at h5 ⊢; have hRB5 := hX5.row hRB hBg.out; have hRA5 := hX5.row hRA hgA; have hI5 := hI.over (over_exc hX5 hgb.out); have hO5 := hO'.over (over_exc hX5 hgb.out); have hE5 := hX.trans hX5; clear hRB hRA hX hX5 hrd hI hO' hsb; go_frame)
              | ((with_reducible change wpList _ _ _ (Oper.mk (some 54) _ _ _ _ _ :: _) _ _); refine kConvUW _ t.1 rfl rfl rfl ?_; rw [ht4]; go_frame)
              | ((with_reducible change wpList _ _ _ (Oper.mk (some 55) _ _ _ _ _ :: _) _ _); refine kFld txCF3 _ _ 0 3 rfl rfl rfl rfl ?_; go_frame)
              | ((with_reducible change wpList _ _ _ (Oper.mk none (Op.store 22 _ _) _ _ _ _ :: _) _ _); refine kStore1 _ _ _ _ w2.heap.size 3 _ (.int .u32 (t.1 : Int)) rfl rfl rfl rfl hRB5 info_u32Co (by show 3 < 4; decide) rfl ?_; intro w6 hRB6 hW6; have hI6 := hI5.over (over_wrote hW6 hBb.out); have hO6 := hO5.over (over_wrote hW6 hBb.out); have h6 := h5.wrote hW6 (Nat.le_trans hLm hWB.out) (Ne.symm hBg.out); have hRA6 := hW6.row hRA5 hAB.out; have hE6 := exc_new hE5 hW6 hWB.out; have hRB7 : Row w6 w2.heap.size 34 (txC p.1 y b t.1) := hRB6; obtain ⟨vS, hRS, hVS, hLS⟩ := id h6; rw [hE] at hRS; clear hRB6 hRB5 hRA5 hI5 hO5 hE5 h5 hW6 hVS hLS; go_frame)
              | ((with_reducible change wpList _ _ _ (Oper.mk (some 58) _ _ _ _ _ :: _) _ _); refine kS1 _ g rfl rfl rfl ?_; go_frame)
              | ((with_reducible change wpList _ _ _ (Oper.mk (some 59) _ _ _ _ _ :: _) _ _); refine kLoad1 _ _ _ g 1 _ (.int .i64 (E : Int)) _ rfl rfl rfl hRS Tryz.underlying3 rfl rfl ?_; clear hRS; go_frame)
              | ((with_reducible change wpList _ _ _ (Oper.mk (some 60) _ _ _ _ _ :: _) _ _); refine kNeqI _ _ _ _ .i64 (E : Int) 0 true rfl rfl rfl rfl he ?_; go_frame)
              | ((with_reducible change wpList _ _ _ (Oper.mk (some 61) _ _ _ _ _ :: _) _ _); refine kBuildTx0 rfl rfl ?_; go_frame)
              | ((with_reducible change wpList _ _ _ (Oper.mk none (Op.store 34 _ _) _ _ _ _ :: _) _ _); refine kStoreTx _ _ W0.heap.size 0 0 (.slice none 0 0) (.slice none 0 0) _ hRA6 rfl rfl rfl rfl rfl rfl rfl ?_; intro w9 hRA9 hW9; have h9 := h6.wrote hW9 hLm (Ne.symm hgA); have hE9 := exc_new hE6 hW9 (Nat.le_refl _); go_frame))
            (try simp only [Exit.inBlock, Exit.then])
            exact result_row rfl rfl hRA9 Tryz.underlying34 rfl info_TxC rfl ⟨_, _, rfl, ownIns_nil _ _, ownOuts_nil _ _, h9, hE9⟩
          · rw [if_neg e0] at hR
            subst hR
            have he : (!decide ((E : Int) = 0)) = false := by simp; omega
            clear e0
            go_wp2_with (first
              | ((with_reducible change wpList _ _ _ (Oper.mk (some 42) _ _ _ _ _ :: _) _ _); refine kLssI _ _ _ _ .i64 (k : Int) (M : Int) false rfl rfl rfl rfl hd ?_; go_frame)
              | (go_at_call 84; refine (jFixedOf_any (z := 4) _ hrd hsr).mono ?_; rintro e w5 ⟨rfl, h5, hX5⟩; rw [ht] at h5 ⊢; have hRB5 := hX5.row hRB hBg.out; have hRA5 := hX5.row hRA hgA; have hI5 := hI.over (over_exc hX5 hgb.out); have hO5 := hO'.over (over_exc hX5 hgb.out); have hE5 := hX.trans hX5; clear hRB hRA hX hX5 hrd hI hO' hsb; go_frame)
              | ((with_reducible change wpList _ _ _ (Oper.mk (some 54) _ _ _ _ _ :: _) _ _); refine kConvUW _ t.1 rfl rfl rfl ?_; rw [ht4]; go_frame)
              | ((with_reducible change wpList _ _ _ (Oper.mk (some 55) _ _ _ _ _ :: _) _ _); refine kFld txCF3 _ _ 0 3 rfl rfl rfl rfl ?_; go_frame)
              | ((with_reducible change wpList _ _ _ (Oper.mk none (Op.store 22 _ _) _ _ _ _ :: _) _ _); refine kStore1 _ _ _ _ w2.heap.size 3 _ (.int .u32 (t.1 : Int)) rfl rfl rfl rfl hRB5 info_u32Co (by show 3 < 4; decide) rfl ?_; intro w6 hRB6 hW6; have hI6 := hI5.over (over_wrote hW6 hBb.out); have hO6 := hO5.over (over_wrote hW6 hBb.out); have h6 := h5.wrote hW6 (Nat.le_trans hLm hWB.out) (Ne.symm hBg.out); have hRA6 := hW6.row hRA5 hAB.out; have hE6 := exc_new hE5 hW6 hWB.out; have hRB7 : Row w6 w2.heap.size 34 (txC p.1 y b t.1) := hRB6; obtain ⟨vS, hRS, hVS, hLS⟩ := id h6; rw [hE] at hRS; clear hRB6 hRB5 hRA5 hI5 hO5 hE5 h5 hW6 hVS hLS; go_frame)
              | ((with_reducible change wpList _ _ _ (Oper.mk (some 58) _ _ _ _ _ :: _) _ _); refine kS1 _ g rfl rfl rfl ?_; go_frame)
              | ((with_reducible change wpList _ _ _ (Oper.mk (some 59) _ _ _ _ _ :: _) _ _); refine kLoad1 _ _ _ g 1 _ (.int .i64 (E : Int)) _ rfl rfl rfl hRS Tryz.underlying3 rfl rfl ?_; clear hRS; go_frame)
              | ((with_reducible change wpList _ _ _ (Oper.mk (some 60) _ _ _ _ _ :: _) _ _); refine kNeqI _ _ _ _ .i64 (E : Int) 0 false rfl rfl rfl rfl he ?_; go_frame)
              | ((with_reducible change wpList _ _ _ (Oper.mk (some 62) _ _ _ _ _ :: _) _ _); refine kLoadTx _ _ p.1 t.1 y b hRB7 rfl rfl rfl ?_; go_frame)
              | ((with_reducible change wpList _ _ _ (Oper.mk none (Op.store 34 _ _) _ _ _ _ :: _) _ _); refine kStoreTx _ _ W0.heap.size p.1 t.1 y b _ hRA6 rfl hI6.of.sl.one hO6.of.sl.one rfl rfl rfl rfl ?_; intro w9 hRA9 hW9; have h9 := h6.wrote hW9 hLm (Ne.symm hgA); have hE9 := exc_new hE6 hW9 (Nat.le_refl _); have hI9 := (hI6.over (over_wrote hW9 hAb.out)).less (Nat.le_of_lt hAb.out); have hO9 := (hO6.over (over_wrote hW9 hAb.out)).less (Nat.le_of_lt hAb.out); go_frame))
            (try simp only [Exit.inBlock, Exit.then])
            exact result_row rfl rfl hRA9 Tryz.underlying34 rfl info_TxC rfl ⟨_, _, rfl, hI9, hO9, h9, hE9⟩
end Go.Proofs.YtmfjgehlkbndjaaGreatDoor
