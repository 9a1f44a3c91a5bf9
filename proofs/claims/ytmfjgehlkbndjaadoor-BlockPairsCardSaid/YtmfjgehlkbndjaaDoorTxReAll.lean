/-
  Joined: TxRead, TxRead2.
-/
import Derived.Test.YtmfjgehlkbndjaaDoorTxWrite
import Derived.Test.YtmfjgehlkbndjaaDoorPcRefRead2
import Derived.Test.YtmfjgehlkbndjaaDoorKitE
/-
  Layer 10: the walks of what reads, the program's.
-/
namespace Go.Proofs.YtmfjgehlkbndjaaDoor
open Go Go.RowKit

variable {Lm : Nat}
theorem exc_then {g : Nat} {w w1 w2 : World} (h : Exc g w w1) (hb : Below w.heap.size w1 w2) : Exc g w w2 :=
  ⟨hb.os.trans h.os, hb.tape.trans h.tape, hb.output.trans h.output, Nat.le_trans h.size hb.size, fun i hi hne => (hb.block i hi).trans (h.block i hi hne)⟩
theorem text_restLeT (s : Scn) (z : Int) : (textS s z).2.rest.length ≤ s.rest.length := by
  have h := count_restLe s z.toNat
  unfold textS
  split
  · exact h
  · split
    · exact Nat.le_refl _
    · show (List.drop _ _).length ≤ _
      rw [List.length_drop]; omega
theorem ref_restLeT (s : Scn) : (refS s).2.rest.length ≤ s.rest.length := by
  have h1 := raw_restLeC s 32
  have h2 := fixed_restLeC (rawS s 32).2 4
  unfold refS
  split <;> exact Nat.le_trans h2 h1
theorem out_restLeT (s : Scn) : (outS s).2.rest.length ≤ s.rest.length := by
  have h1 := fixed_restLeC s 8
  have h2 := text_restLeT (fixedS s 8).2 2000
  unfold outS
  split <;> exact Nat.le_trans h2 h1
theorem in_restLe (s : Scn) : (inS s).2.rest.length ≤ s.rest.length :=
  Nat.le_trans (fixed_restLeC _ 4) (Nat.le_trans (text_restLeT _ 2000) (ref_restLeT s))
theorem list_restLe {α : Type} {f : Scn → α × Scn} (hf : ∀ s : Scn, (f s).2.rest.length ≤ s.rest.length) : ∀ (n : Nat) (s : Scn), (listS f n s).2.rest.length ≤ s.rest.length
  | 0, _ => Nat.le_refl _
  | n + 1, s => Nat.le_trans (list_restLe hf n (f s).2) (hf s)
def insS (s : Scn) : List InP × Scn := listS inS (countS s 200).1 (countS s 200).2
def outsS (s : Scn) : List (Int × List UInt8) × Scn := listS outS (countS s 200).1 (countS s 200).2
theorem ins_restLe (s : Scn) : (insS s).2.rest.length ≤ s.rest.length := Nat.le_trans (list_restLe in_restLe _ _) (count_restLe s 200)
theorem outs_restLe (s : Scn) : (outsS s).2.rest.length ≤ s.rest.length := Nat.le_trans (list_restLe out_restLeT _ _) (count_restLe s 200)
theorem rawTx_eq (s : Scn) : rawTx s = (⟨(fixedS s 4).1, (insS (fixedS s 4).2).1, (outsS (insS (fixedS s 4).2).2).1, (fixedS (outsS (insS (fixedS s 4).2).2).2 4).1⟩, (fixedS (outsS (insS (fixedS s 4).2).2).2 4).2) := rfl
theorem raw_restLeTx (s : Scn) : (rawTx s).2.rest.length ≤ s.rest.length := by
  rw [rawTx_eq]
  exact Nat.le_trans (fixed_restLeC _ 4) (Nat.le_trans (outs_restLe _) (Nat.le_trans (ins_restLe _) (fixed_restLeC s 4)))
def WPost (Lm : Nat) (T : TypeId) (g : Nat) (w : World) (p : Nat × Scn) (e : Ending) (w' : World) : Prop := e = .returned (.int .u32 (p.1 : Int)) ∧ Rd Lm T w' g p.2 ∧ Exc g w w'
def InPost (Lm : Nat) (T : TypeId) (g : Nat) (w : World) (p : InP × Scn) (e : Ending) (w' : World) : Prop := ∃ v, e = .returned (.agg (inC p.1 v)) ∧ OwnB w' w.heap.size v p.1.unlock ∧ Rd Lm T w' g p.2 ∧ Exc g w w'
def InsPost (Lm : Nat) (T : TypeId) (g : Nat) (w : World) (p : List InP × Scn) (e : Ending) (w' : World) : Prop := ∃ v, e = .returned v ∧ OwnIns w' w.heap.size v p.1 ∧ Rd Lm T w' g p.2 ∧ Exc g w w'
def OutsPost (Lm : Nat) (T : TypeId) (g : Nat) (w : World) (p : List (Int × List UInt8) × Scn) (e : Ending) (w' : World) : Prop := ∃ v, e = .returned v ∧ OwnOuts w' w.heap.size v p.1 ∧ Rd Lm T w' g p.2 ∧ Exc g w w'
/-- a transaction of one's own -/
def TxPost (Lm : Nat) (T : TypeId) (g : Nat) (w : World) (p : TxP × Scn) (e : Ending) (w' : World) : Prop := ∃ a b, e = .returned (.agg (txC p.1.version a b p.1.end')) ∧ OwnIns w' w.heap.size a p.1.ins ∧ OwnOuts w' w.heap.size b p.1.outs ∧ Rd Lm T w' g p.2 ∧ Exc g w w'
section
variable {ops : Array Oper} {Q : Exit → Act → World → Prop} {rest : List Oper} {o : Oper} {a : Act} {w : World}
theorem kBuildIn3 (x y z : Operand) (l t : List UInt8) (n k : Nat) (u : Value) (hu : SliceV u) (ho : o.op = .build 62 #[(0, x), (1, y), (2, z)]) (hg : Region.wanted o (yielded ops a.tmps) = true) (hx : a.eval x = .agg (refC l n)) (hy : a.eval y = u) (hz : a.eval z = .int .u32 (k : Int)) (h : wpList Tryd.prog ops Q rest (a.put o.dst (.agg (inC ⟨l, n, t, k⟩ u))) w) : wpList Tryd.prog ops Q (o :: rest) a w :=
  kBuildAny _ _ #[(0, .agg (refC l n)), (1, u), (2, .int .u32 (k : Int))] _ ho hg (by simp [hx, hy, hz]) (built_In3 hu l t n k) h
theorem kBuildTx0 (ho : o.op = .build 57 #[]) (hg : Region.wanted o (yielded ops a.tmps) = true) (h : wpList Tryd.prog ops Q rest (a.put o.dst (.agg (txC 0 (.slice none 0 0) (.slice none 0 0) 0))) w) : wpList Tryd.prog ops Q (o :: rest) a w :=
  kBuildAny _ _ #[] _ ho hg (by simp) built_Tx0 h
theorem kBuildTx4 (x y z t : Operand) (n e : Nat) (u v : Value) (hu : SliceV u) (hv : SliceV v) (ho : o.op = .build 57 #[(0, x), (1, y), (2, z), (3, t)]) (hg : Region.wanted o (yielded ops a.tmps) = true) (hx : a.eval x = .int .u32 (n : Int)) (hy : a.eval y = u) (hz : a.eval z = v) (ht : a.eval t = .int .u32 (e : Int)) (h : wpList Tryd.prog ops Q rest (a.put o.dst (.agg (txC n u v e))) w) : wpList Tryd.prog ops Q (o :: rest) a w :=
  kBuildAny _ _ #[(0, .int .u32 (n : Int)), (1, u), (2, v), (3, .int .u32 (e : Int))] _ ho hg (by simp [hx, hy, hz, ht]) (built_Tx4 hu hv n e) h
theorem kBuildRefN (x : Operand) (hx : a.eval x = .int .u32 4294967295) (ho : o.op = .build 60 #[(1, x)]) (hg : Region.wanted o (yielded ops a.tmps) = true) (h : wpList Tryd.prog ops Q rest (a.put o.dst (.agg (refC z32 4294967295))) w) : wpList Tryd.prog ops Q (o :: rest) a w :=
  kBuildAny _ _ #[(1, .int .u32 4294967295)] _ ho hg (by simp [hx]) built_RefN h
end
set_option maxRecDepth 100000 in
set_option maxHeartbeats 8000000 in
theorem tWordRead_any {s : Scn} {g : Nat} (w : World) (h : Rd Lm 76 w g s) : Calls Tryd.prog 58 #[.pointer (some ⟨g, 0, none⟩)] w (WPost Lm 76 g w (fixedS s 4)) := by
  have hrf := rdFixed_any (z := 4) w h
  have hlt := fixed4_lt s
  generalize fixedS s 4 = p at *
  have hm : p.1 % 4294967296 = p.1 := Nat.mod_eq_of_lt hlt
  go_enter Tryd.func58, Tryd.ntmps58
  go_wp2_with (first
    | (go_at_call 28; refine (hrf).mono ?_; rintro e w1 ⟨rfl, hr1, hX1⟩; clear hrf; go_frame)
    | ((with_reducible change wpList _ _ _ (Oper.mk (some 5) _ _ _ _ _ :: _) _ _); refine kConvUW _ p.1 rfl rfl rfl ?_; rw [hm]; go_frame))
  go_ret
  exact ⟨rfl, hr1, hX1⟩
set_option maxRecDepth 100000 in
set_option maxHeartbeats 8000000 in
theorem tInRead_any {s : Scn} {g : Nat} (W0 : World) (h : Rd Lm 76 W0 g s) (hs : s.rest.length ≤ 1000000) (hLm : Lm ≤ W0.heap.size) : Calls Tryd.prog 80 #[.pointer (some ⟨g, 0, none⟩)] W0 (InPost Lm 76 g W0 (inS s)) := by
  have hgl := h.lt
  have hgA : W0.heap.size ≠ g := by omega
  unfold inS
  obtain ⟨p, hp⟩ : ∃ p, refS s = p := ⟨_, rfl⟩
  have hpr : p.2.rest.length ≤ 1000000 := by rw [← hp]; exact Nat.le_trans (ref_restLeT s) hs
  rw [hp]
  obtain ⟨q, hq⟩ : ∃ q, textS p.2 2000 = q := ⟨_, rfl⟩
  rw [hq]
  obtain ⟨r, hr⟩ : ∃ r, fixedS q.2 4 = r := ⟨_, rfl⟩
  rw [hr]
  go_enter Tryd.func80, Tryd.ntmps80
  go_wp2_with (first
    | ((with_reducible change wpList _ _ _ (Oper.mk (some 2) _ _ _ _ _ :: _) _ _); refine kAllocL _ _ rfl rfl zero_InC ?_; intro w1 hRA hz1 hB1; have h1 := h.below hB1; have hE1 := exc_below g hB1; have hL1 : Lm ≤ w1.heap.size := (by omega); have hz1h : Hid (W0.heap.size < w1.heap.size) := hz1; clear hB1 hz1; go_frame)
    | (go_at_call 91; refine (coRefRead_any _ h1 hs hL1).mono ?_; rintro e w2 ⟨rfl, h2, hX2⟩; rw [hp] at h2 ⊢; have hRA2 := hX2.row hRA hgA; have hE2 := hE1.trans hX2; have hz2 := Nat.lt_of_lt_of_le hz1h.out hX2.size; have hz2h : Hid (W0.heap.size < w2.heap.size) := hz2; clear hRA hE1 hX2 h1 hL1 hz1h hz2; go_frame)
    | (go_at_call 92; refine (rdText_own (z := 2000) (by decide) _ h2 hpr).mono ?_; rintro e w3 ⟨u, rfl, hO3, h3, hX3⟩; rw [hq] at h3 hO3; have hRA3 := hX3.row hRA2 hgA; have hE3 := hE2.trans hX3; clear hRA2 hE2 h2 hX3; go_frame)
    | (go_at_call 58; refine (tWordRead_any _ h3).mono ?_; rintro e w4 ⟨rfl, h4, hX4⟩; rw [hr] at h4 ⊢; have hO4 := hO3.over (over_exc hX4 (Nat.lt_trans hgl hz2h.out)); have hRA4 := hX4.row hRA3 hgA; have hE4 := hE3.trans hX4; clear hRA3 hE3 h3 hX4 hO3; go_frame)
    | ((with_reducible change wpList _ _ _ (Oper.mk (some 9) _ _ _ _ _ :: _) _ _); refine kBuildIn3 _ _ _ p.1.1 q.1 p.1.2 r.1 u hO4.vals.sl rfl rfl rfl rfl rfl ?_; go_frame)
    | ((with_reducible change wpList _ _ _ (Oper.mk none _ _ _ _ _ :: _) _ _); refine kStoreIn _ _ W0.heap.size ⟨p.1.1, p.1.2, q.1, r.1⟩ u _ hRA4 (inC_size _ _) hO4.vals.sl.one rfl rfl rfl rfl ?_; intro w5 hRA5 hW5; have hO5 := own_less (Nat.le_of_lt hz2h.out) (hO4.over (over_wrote hW5 hz2h.out)); have h5 := h4.wrote hW5 hLm (Ne.symm hgA); have hE5 := exc_new hE4 hW5 (Nat.le_refl _); clear hRA4 hE4 h4 hW5 hO4; go_frame))
  (try simp only [Exit.inBlock, Exit.then])
  exact result_row rfl rfl hRA5 Tryd.underlying62 rfl (info_InS _ _) rfl ⟨_, rfl, hO5, h5, hE5⟩
set_option maxRecDepth 100000 in
set_option maxHeartbeats 8000000 in
theorem tInsRead_any {s : Scn} {g : Nat} (W0 : World) (h : Rd Lm 76 W0 g s) (hs : s.rest.length ≤ 1000000) (hLm : Lm ≤ W0.heap.size) : Calls Tryd.prog 59 #[.pointer (some ⟨g, 0, none⟩)] W0 (InsPost Lm 76 g W0 (insS s)) := by
  have hgl := h.lt
  unfold insS
  obtain ⟨p, hp⟩ : ∃ p, countS s 200 = p := ⟨_, rfl⟩
  have hpr : p.2.rest.length ≤ 1000000 := by rw [← hp]; exact Nat.le_trans (count_restLe s 200) hs
  have hN : p.1 ≤ 200 := by rw [← hp]; exact count_le s 200
  rw [hp]
  obtain ⟨N, s1⟩ := p
  dsimp only at hpr hN ⊢
  obtain ⟨P, hP⟩ : ∃ P, listS inS N s1 = P := ⟨_, rfl⟩
  rw [hP]
  go_enter Tryd.func59, Tryd.ntmps59
  go_wp2_with (first
    | (go_at_call 30; refine (rdCount_any (most := 200) _ h).mono ?_; rintro e w1 ⟨rfl, h1, hX1⟩; rw [hp] at h1 ⊢; clear hp; go_frame))
  go_loopw [6, 3] (fun x y wr => ∃ (k : Nat) (zs : List (InP × Value)) (s : Scn), k ≤ N ∧ x = .int .u64 (k : Int) ∧ OwnR 35 62 wr W0.heap.size y (zs.map inR) ∧ (∀ z ∈ zs, OwnB wr W0.heap.size z.2 z.1.unlock) ∧ zs.length = k ∧ Rd Lm 76 wr g s ∧ s.rest.length ≤ 1000000 ∧ (zs.map Prod.fst ++ (listS inS (N - k) s).1, (listS inS (N - k) s).2) = P ∧ Exc g W0 wr) (fun x _ _ => N - (intOf x).toNat)
  case atStart => exact ⟨0, [], s1, by omega, rfl, ownR_nil _ _ _ _, (fun z hz => by cases hz), rfl, h1, hpr, by rw [← hP]; rfl, hX1⟩
  case round =>
    clear hP h1 hX1 hpr h
    obtain ⟨k, zs, s, hk, rfl, hO, hU, hzl, hr, hsr, hPP, hX⟩ := hrel
    by_cases hlt : k < N
    · have hd : decide ((k : Int) < (N : Int)) = true := by simp; omega
      have hL := Nat.le_trans hLm hX.size
      have hPP2 : (zs.map Prod.fst ++ ((inS s).1 :: (listS inS (N - (k + 1)) (inS s).2).1), (listS inS (N - (k + 1)) (inS s).2).2) = P := by
        rw [show N - k = (N - (k + 1)) + 1 by omega] at hPP; exact hPP
      clear hPP
      have hsr2 : (inS s).2.rest.length ≤ 1000000 := Nat.le_trans (in_restLe s) hsr
      obtain ⟨⟨i, s2⟩, hp⟩ : ∃ p, inS s = p := ⟨_, rfl⟩
      rw [hp] at hPP2 hsr2
      dsimp only at hPP2 hsr2
      go_wp2_with (first
        | ((with_reducible change wpList _ _ _ (Oper.mk (some 7) _ _ _ _ _ :: _) _ _); refine kLssI _ _ _ _ .u64 (k : Int) (N : Int) true rfl rfl rfl rfl hd ?_; go_frame)
        | (go_at_call 80; refine (tInRead_any _ hr hsr hL).mono ?_; rintro e w2 ⟨u, rfl, hou, hr2, hX2⟩; rw [hp] at hr2 hou ⊢; have hO2 := hO.over (over_exc hX2 hgl); have hU2 := fun z hz => (hU z hz).over (over_exc hX2 hgl); have hE2 := hX.trans hX2; have hou2 := own_less hX.size hou; clear hO hU hX2 hr hX hou; go_frame)
        | ((with_reducible change wpList _ _ _ (Oper.mk (some 11) _ _ _ _ _ :: _) _ _); refine kBuildIn1 _ i u hou2.vals.sl rfl rfl rfl ?_; intro w3 hR3 hz3 hB3; have hO3 := hO2.below hB3; have hU3 := fun z hz => (hU2 z hz).below hB3; have hou3 := hou2.below hB3; have hr3 := hr2.below hB3; have hE3 := hE2.trans (exc_below g hB3); have hrow := isRows_one (n := 35) hR3 (inR_len _); clear hO2 hU2 hou2 hr2 hE2 hB3 hz3 hR3; go_frame)
        | ((with_reducible change wpList _ _ _ (Oper.mk (some 12) _ _ _ _ _ :: _) _ _); refine kAppIns _ _ rfl rfl W0.heap.size _ _ zs [(i, u)] rfl hO3 rfl hrow (by intro z hz; simp at hz; subst hz; exact hou3.vals.sl.one) (by simp; omega) hE3.size ?_; intro v4 w4 hO4 hB4 hg4; have hU4 := fun z (hz : z ∈ zs) => ownB_grown (hU3 z hz) hO3 (by decide) hg4; have hou4 := ownB_grown hou3 hO3 (by decide) hg4; have hr4 := hr3.under hB4 hgl hLm; have hE4 := exc_then hE3 hB4; clear hO3 hU3 hou3 hr3 hE3 hg4 hB4 hrow; go_frame)
        | ((with_reducible change wpList _ _ _ (Oper.mk (some 13) _ _ _ _ _ :: _) _ _); refine kAddUP _ _ _ _ k 1 (k + 1) (by omega) rfl rfl rfl rfl ?_; go_frame))
      go_roundw
      case rel =>
        refine ⟨k + 1, zs ++ [(i, u)], s2, by omega, rfl, hO4, fun z hz => ?_, by simp; omega, hr4, hsr2, by rw [← hPP2]; simp, hE4⟩
        rcases List.mem_append.1 hz with hz | hz
        · exact hU4 z hz
        · simp at hz; subst hz; exact hou4
      case measure => simp [intOf]; omega
    · have hd : decide ((k : Int) < (N : Int)) = false := by simp; omega
      rw [show N - k = 0 by omega] at hPP
      have hPP2 : (zs.map Prod.fst ++ [], s) = P := hPP
      rw [List.append_nil] at hPP2
      subst hPP2
      go_wp2_with (first
        | ((with_reducible change wpList _ _ _ (Oper.mk (some 7) _ _ _ _ _ :: _) _ _); refine kLssI _ _ _ _ .u64 (k : Int) (N : Int) false rfl rfl rfl rfl hd ?_; go_frame))
      go_ret
      exact ⟨_, rfl, ⟨zs, rfl, hO, hU⟩, hr, hX⟩
set_option maxRecDepth 100000 in
set_option maxHeartbeats 8000000 in
theorem tOutsRead_any {s : Scn} {g : Nat} (W0 : World) (h : Rd Lm 76 W0 g s) (hs : s.rest.length ≤ 1000000) (hLm : Lm ≤ W0.heap.size) : Calls Tryd.prog 60 #[.pointer (some ⟨g, 0, none⟩)] W0 (OutsPost Lm 76 g W0 (outsS s)) := by
  have hgl := h.lt
  unfold outsS
  obtain ⟨p, hp⟩ : ∃ p, countS s 200 = p := ⟨_, rfl⟩
  have hpr : p.2.rest.length ≤ 1000000 := by rw [← hp]; exact Nat.le_trans (count_restLe s 200) hs
  have hN : p.1 ≤ 200 := by rw [← hp]; exact count_le s 200
  rw [hp]
  obtain ⟨N, s1⟩ := p
  dsimp only at hpr hN ⊢
  obtain ⟨P, hP⟩ : ∃ P, listS outS N s1 = P := ⟨_, rfl⟩
  rw [hP]
  go_enter Tryd.func60, Tryd.ntmps60
  go_wp2_with (first
    | (go_at_call 30; refine (rdCount_any (most := 200) _ h).mono ?_; rintro e w1 ⟨rfl, h1, hX1⟩; rw [hp] at h1 ⊢; clear hp; go_frame))
  go_loopw [6, 3] (fun x y wr => ∃ (k : Nat) (zs : List ((Int × List UInt8) × Value)) (s : Scn), k ≤ N ∧ x = .int .u64 (k : Int) ∧ OwnR 2 64 wr W0.heap.size y (zs.map outR) ∧ (∀ z ∈ zs, OwnB wr W0.heap.size z.2 z.1.2) ∧ zs.length = k ∧ Rd Lm 76 wr g s ∧ s.rest.length ≤ 1000000 ∧ (zs.map Prod.fst ++ (listS outS (N - k) s).1, (listS outS (N - k) s).2) = P ∧ Exc g W0 wr) (fun x _ _ => N - (intOf x).toNat)
  case atStart => exact ⟨0, [], s1, by omega, rfl, ownR_nil _ _ _ _, (fun z hz => by cases hz), rfl, h1, hpr, by rw [← hP]; rfl, hX1⟩
  case round =>
    clear hP h1 hX1 hpr h
    obtain ⟨k, zs, s, hk, rfl, hO, hU, hzl, hr, hsr, hPP, hX⟩ := hrel
    by_cases hlt : k < N
    · have hd : decide ((k : Int) < (N : Int)) = true := by simp; omega
      have hL := Nat.le_trans hLm hX.size
      have hPP2 : (zs.map Prod.fst ++ ((outS s).1 :: (listS outS (N - (k + 1)) (outS s).2).1), (listS outS (N - (k + 1)) (outS s).2).2) = P := by
        rw [show N - k = (N - (k + 1)) + 1 by omega] at hPP; exact hPP
      clear hPP
      have hsr2 : (outS s).2.rest.length ≤ 1000000 := Nat.le_trans (out_restLeT s) hsr
      obtain ⟨⟨⟨q, l⟩, s2⟩, hp⟩ : ∃ p, outS s = p := ⟨_, rfl⟩
      rw [hp] at hPP2 hsr2
      dsimp only at hPP2 hsr2
      go_wp2_with (first
        | ((with_reducible change wpList _ _ _ (Oper.mk (some 7) _ _ _ _ _ :: _) _ _); refine kLssI _ _ _ _ .u64 (k : Int) (N : Int) true rfl rfl rfl rfl hd ?_; go_frame)
        | (go_at_call 81; refine (coOutRead_any _ hr hsr).mono ?_; rintro e w2 ⟨u, rfl, hou, hr2, hX2⟩; rw [hp] at hr2 hou ⊢; have hO2 := hO.over (over_exc hX2 hgl); have hU2 := fun z hz => (hU z hz).over (over_exc hX2 hgl); have hE2 := hX.trans hX2; have hou2 := own_less hX.size hou; clear hO hU hX2 hr hX hou; go_frame)
        | ((with_reducible change wpList _ _ _ (Oper.mk (some 11) _ _ _ _ _ :: _) _ _); refine kBuildOut1T _ q l u hou2.vals.sl rfl rfl rfl ?_; intro w3 hR3 hz3 hB3; have hO3 := hO2.below hB3; have hU3 := fun z hz => (hU2 z hz).below hB3; have hou3 := hou2.below hB3; have hr3 := hr2.below hB3; have hE3 := hE2.trans (exc_below g hB3); have hrow := isRows_one (n := 2) hR3 (outR_len _); clear hO2 hU2 hou2 hr2 hE2 hB3 hz3 hR3; go_frame)
        | ((with_reducible change wpList _ _ _ (Oper.mk (some 12) _ _ _ _ _ :: _) _ _); refine kAppOuts _ _ rfl rfl W0.heap.size _ _ zs [((q, l), u)] rfl hO3 rfl hrow (by intro z hz; simp at hz; subst hz; exact hou3.vals.sl.one) (by simp; omega) hE3.size ?_; intro v4 w4 hO4 hB4 hg4; have hU4 := fun z (hz : z ∈ zs) => ownB_grown (hU3 z hz) hO3 (by decide) hg4; have hou4 := ownB_grown hou3 hO3 (by decide) hg4; have hr4 := hr3.under hB4 hgl hLm; have hE4 := exc_then hE3 hB4; clear hO3 hU3 hou3 hr3 hE3 hg4 hB4 hrow; go_frame)
        | ((with_reducible change wpList _ _ _ (Oper.mk (some 13) _ _ _ _ _ :: _) _ _); refine kAddUP _ _ _ _ k 1 (k + 1) (by omega) rfl rfl rfl rfl ?_; go_frame))
      go_roundw
      case rel =>
        refine ⟨k + 1, zs ++ [((q, l), u)], s2, by omega, rfl, hO4, fun z hz => ?_, by simp; omega, hr4, hsr2, by rw [← hPP2]; simp, hE4⟩
        rcases List.mem_append.1 hz with hz | hz
        · exact hU4 z hz
        · simp at hz; subst hz; exact hou4
      case measure => simp [intOf]; omega
    · have hd : decide ((k : Int) < (N : Int)) = false := by simp; omega
      rw [show N - k = 0 by omega] at hPP
      have hPP2 : (zs.map Prod.fst ++ [], s) = P := hPP
      rw [List.append_nil] at hPP2
      subst hPP2
      go_wp2_with (first
        | ((with_reducible change wpList _ _ _ (Oper.mk (some 7) _ _ _ _ _ :: _) _ _); refine kLssI _ _ _ _ .u64 (k : Int) (N : Int) false rfl rfl rfl rfl hd ?_; go_frame))
      go_ret
      exact ⟨_, rfl, ⟨zs, rfl, hO, hU⟩, hr, hX⟩
set_option maxRecDepth 100000 in
set_option maxHeartbeats 8000000 in
theorem tRead_any {s : Scn} {g : Nat} (W0 : World) (h : Rd Lm 76 W0 g s) (hs : s.rest.length ≤ 1000000) (hLm : Lm ≤ W0.heap.size) : Calls Tryd.prog 31 #[.pointer (some ⟨g, 0, none⟩)] W0 (TxPost Lm 76 g W0 (readS s)) := by
  have hgl := h.lt
  have hgA : W0.heap.size ≠ g := by omega
  obtain ⟨R, hR⟩ : ∃ R, readS s = R := ⟨_, rfl⟩
  rw [hR]
  unfold readS at hR
  rw [rawTx_eq] at hR
  obtain ⟨p, hp⟩ : ∃ p, fixedS s 4 = p := ⟨_, rfl⟩
  have hpr : p.2.rest.length ≤ 1000000 := by rw [← hp]; exact Nat.le_trans (fixed_restLeC s 4) hs
  rw [hp] at hR
  obtain ⟨q, hq⟩ : ∃ q, insS p.2 = q := ⟨_, rfl⟩
  have hqr : q.2.rest.length ≤ 1000000 := by rw [← hq]; exact Nat.le_trans (ins_restLe p.2) hpr
  rw [hq] at hR
  obtain ⟨r, hr⟩ : ∃ r, outsS q.2 = r := ⟨_, rfl⟩
  have hrr : r.2.rest.length ≤ 1000000 := by rw [← hr]; exact Nat.le_trans (outs_restLe q.2) hqr
  rw [hr] at hR
  obtain ⟨t, ht⟩ : ∃ t, fixedS r.2 4 = t := ⟨_, rfl⟩
  rw [ht] at hR
  dsimp only at hR
  obtain ⟨E, hE⟩ : ∃ E, t.2.err = E := ⟨_, rfl⟩
  rw [hE] at hR
  by_cases e0 : E ≠ 0
  · rw [if_pos e0] at hR
    subst hR
    have he : (!decide ((E : Int) = 0)) = true := by simp; exact e0
    clear e0
    go_enter Tryd.func31, Tryd.ntmps31
    go_wp2_with (first
      | ((with_reducible change wpList _ _ _ (Oper.mk (some 2) _ _ _ _ _ :: _) _ _); refine kAllocL _ _ rfl rfl zero_TxC ?_; intro w1 hRA hz1 hB1; have h1 := h.below hB1; have hE1 := exc_below g hB1; have hz1h : Hid (W0.heap.size < w1.heap.size) := hz1; have hg1 : Hid (g < w1.heap.size) := h1.lt; have hL1 : Hid (Lm ≤ w1.heap.size) := Nat.le_trans hLm (Nat.le_of_lt hz1); have hs1 := Nat.le_refl w1.heap.size; clear hB1 hz1; go_frame)
      | (go_at_call 58; refine (tWordRead_any _ h1).mono ?_; rintro e w2 ⟨rfl, h2, hX2⟩; rw [hp] at h2 ⊢; have hRA2 := hX2.row hRA hgA; have hE2 := hE1.trans hX2; have hs2 := Nat.le_trans hs1 hX2.size; clear hRA hE1 hX2 h1 hs1; go_frame)
      | (go_at_call 59; refine (tInsRead_any _ h2 hpr (Nat.le_trans hL1.out hs2)).mono ?_; rintro e w3 ⟨a, rfl, hI3, h3, hX3⟩; rw [hq] at h3 hI3; have hI := hI3.less hs2; have hRA3 := hX3.row hRA2 hgA; have hE3 := hE2.trans hX3; have hs3 := Nat.le_trans hs2 hX3.size; clear hRA2 hE2 hX3 h2 hs2 hI3; go_frame)
      | (go_at_call 60; refine (tOutsRead_any _ h3 hqr (Nat.le_trans hL1.out hs3)).mono ?_; rintro e w4 ⟨b, rfl, hO4, h4, hX4⟩; rw [hr] at h4 hO4; have hO := hO4.less hs3; have hI4 := hI.over (over_exc hX4 hg1.out); have hRA4 := hX4.row hRA3 hgA; have hE4 := hE3.trans hX4; have hs4 := Nat.le_trans hs3 hX4.size; clear hRA3 hE3 hX4 h3 hs3 hO4 hI; go_frame)
      | (go_at_call 58; refine (tWordRead_any _ h4).mono ?_; rintro e w5 ⟨rfl, h5, hX5⟩; rw [ht] at h5 ⊢; have hI5 := hI4.over (over_exc hX5 hg1.out); have hO5 := hO.over (over_exc hX5 hg1.out); have hRA5 := hX5.row hRA4 hgA; have hE5 := hE4.trans hX5; have hs5 := Nat.le_trans hs4 hX5.size; clear hRA4 hE4 hX5 h4 hs4 hO hI4; go_frame)
      | ((with_reducible change wpList _ _ _ (Oper.mk (some 12) _ _ _ _ _ :: _) _ _); refine kBuildTx4 _ _ _ _ p.1 t.1 a b hI5.of.sl hO5.of.sl rfl rfl rfl rfl rfl rfl ?_; go_frame)
      | ((with_reducible change wpList _ _ _ (Oper.mk (some 3) _ _ _ _ _ :: _) _ _); refine kAllocL _ _ rfl rfl zero_TxC ?_; intro w6 hRB hz6 hB6; have hRA6 := hRA5.below hB6 hRA5.lt; have hE6 := hE5.trans (exc_below g hB6); have hAB : Hid (W0.heap.size ≠ w5.heap.size) := Nat.ne_of_lt hRA5.lt; clear hz6; go_frame)
      | ((with_reducible change wpList _ _ _ (Oper.mk none _ _ _ _ _ :: _) _ _); refine kStoreTx _ _ w5.heap.size p.1 t.1 a b _ hRB rfl hI5.of.sl.one hO5.of.sl.one rfl rfl rfl rfl ?_; intro w7 hRB7 hW7; have hB7 := hB6.trans (hW7.below (Nat.le_refl _)); have hI7 := hI5.below hB7; have hO7 := hO5.below hB7; have h7 := h5.below hB7; have hRA7 := hW7.row hRA6 hAB.out; have hE7 := hE5.trans (exc_below g hB7); clear hRB hB6 hE6 hW7 hB7 hI5 hO5 h5 hRA5 hRA6 hE5 hs5; go_frame)
      | (go_at_call 32; refine (rdErr_any (n := E) _ h7 hE).mono ?_; rintro e w8 ⟨rfl, rfl⟩; go_frame)
      | ((with_reducible change wpList _ _ _ (Oper.mk (some 15) _ _ _ _ _ :: _) _ _); refine kNeqI _ _ _ _ .i64 (E : Int) 0 true rfl rfl rfl rfl he ?_; go_frame)
      | ((with_reducible change wpList _ _ _ (Oper.mk (some 16) _ _ _ _ _ :: _) _ _); refine kBuildTx0 rfl rfl ?_; go_frame)
      | ((with_reducible change wpList _ _ _ (Oper.mk none _ _ _ _ _ :: _) _ _); refine kStoreTx _ _ W0.heap.size 0 0 (.slice none 0 0) (.slice none 0 0) _ hRA7 rfl rfl rfl rfl rfl rfl rfl ?_; intro w9 hRA9 hW9; have h9 := h7.wrote hW9 hLm (Ne.symm hgA); have hE9 := exc_new hE7 hW9 (Nat.le_refl _); go_frame))
    (try simp only [Exit.inBlock, Exit.then])
    exact result_row rfl rfl hRA9 Tryd.underlying57 rfl info_TxC rfl ⟨_, _, rfl, ownIns_nil _ _, ownOuts_nil _ _, h9, hE9⟩
  · rw [if_neg e0] at hR
    subst hR
    have he : (!decide ((E : Int) = 0)) = false := by simp; omega
    clear e0
    go_enter Tryd.func31, Tryd.ntmps31
    go_wp2_with (first
      | ((with_reducible change wpList _ _ _ (Oper.mk (some 2) _ _ _ _ _ :: _) _ _); refine kAllocL _ _ rfl rfl zero_TxC ?_; intro w1 hRA hz1 hB1; have h1 := h.below hB1; have hE1 := exc_below g hB1; have hz1h : Hid (W0.heap.size < w1.heap.size) := hz1; have hg1 : Hid (g < w1.heap.size) := h1.lt; have hL1 : Hid (Lm ≤ w1.heap.size) := Nat.le_trans hLm (Nat.le_of_lt hz1); have hs1 := Nat.le_refl w1.heap.size; clear hB1 hz1; go_frame)
      | (go_at_call 58; refine (tWordRead_any _ h1).mono ?_; rintro e w2 ⟨rfl, h2, hX2⟩; rw [hp] at h2 ⊢; have hRA2 := hX2.row hRA hgA; have hE2 := hE1.trans hX2; have hs2 := Nat.le_trans hs1 hX2.size; clear hRA hE1 hX2 h1 hs1; go_frame)
      | (go_at_call 59; refine (tInsRead_any _ h2 hpr (Nat.le_trans hL1.out hs2)).mono ?_; rintro e w3 ⟨a, rfl, hI3, h3, hX3⟩; rw [hq] at h3 hI3; have hI := hI3.less hs2; have hRA3 := hX3.row hRA2 hgA; have hE3 := hE2.trans hX3; have hs3 := Nat.le_trans hs2 hX3.size; clear hRA2 hE2 hX3 h2 hs2 hI3; go_frame)
      | (go_at_call 60; refine (tOutsRead_any _ h3 hqr (Nat.le_trans hL1.out hs3)).mono ?_; rintro e w4 ⟨b, rfl, hO4, h4, hX4⟩; rw [hr] at h4 hO4; have hO := hO4.less hs3; have hI4 := hI.over (over_exc hX4 hg1.out); have hRA4 := hX4.row hRA3 hgA; have hE4 := hE3.trans hX4; have hs4 := Nat.le_trans hs3 hX4.size; clear hRA3 hE3 hX4 h3 hs3 hO4 hI; go_frame)
      | (go_at_call 58; refine (tWordRead_any _ h4).mono ?_; rintro e w5 ⟨rfl, h5, hX5⟩; rw [ht] at h5 ⊢; have hI5 := hI4.over (over_exc hX5 hg1.out); have hO5 := hO.over (over_exc hX5 hg1.out); have hRA5 := hX5.row hRA4 hgA; have hE5 := hE4.trans hX5; have hs5 := Nat.le_trans hs4 hX5.size; clear hRA4 hE4 hX5 h4 hs4 hO hI4; go_frame)
      | ((with_reducible change wpList _ _ _ (Oper.mk (some 12) _ _ _ _ _ :: _) _ _); refine kBuildTx4 _ _ _ _ p.1 t.1 a b hI5.of.sl hO5.of.sl rfl rfl rfl rfl rfl rfl ?_; go_frame)
      | ((with_reducible change wpList _ _ _ (Oper.mk (some 3) _ _ _ _ _ :: _) _ _); refine kAllocL _ _ rfl rfl zero_TxC ?_; intro w6 hRB hz6 hB6; have hRA6 := hRA5.below hB6 hRA5.lt; have hE6 := hE5.trans (exc_below g hB6); have hAB : Hid (W0.heap.size ≠ w5.heap.size) := Nat.ne_of_lt hRA5.lt; clear hz6; go_frame)
      | ((with_reducible change wpList _ _ _ (Oper.mk none _ _ _ _ _ :: _) _ _); refine kStoreTx _ _ w5.heap.size p.1 t.1 a b _ hRB rfl hI5.of.sl.one hO5.of.sl.one rfl rfl rfl rfl ?_; intro w7 hRB7 hW7; have hB7 := hB6.trans (hW7.below (Nat.le_refl _)); have hI7 := hI5.below hB7; have hO7 := hO5.below hB7; have h7 := h5.below hB7; have hRA7 := hW7.row hRA6 hAB.out; have hE7 := hE5.trans (exc_below g hB7); clear hRB hB6 hE6 hW7 hB7 hI5 hO5 h5 hRA5 hRA6 hE5 hs5; go_frame)
      | (go_at_call 32; refine (rdErr_any (n := E) _ h7 hE).mono ?_; rintro e w8 ⟨rfl, rfl⟩; go_frame)
      | ((with_reducible change wpList _ _ _ (Oper.mk (some 15) _ _ _ _ _ :: _) _ _); refine kNeqI _ _ _ _ .i64 (E : Int) 0 false rfl rfl rfl rfl he ?_; go_frame)
      | ((with_reducible change wpList _ _ _ (Oper.mk (some 17) _ _ _ _ _ :: _) _ _); refine kLoadTx _ _ p.1 t.1 a b hRB7 rfl rfl rfl ?_; go_frame)
      | ((with_reducible change wpList _ _ _ (Oper.mk none _ _ _ _ _ :: _) _ _); refine kStoreTx _ _ W0.heap.size p.1 t.1 a b _ hRA7 rfl hI7.of.sl.one hO7.of.sl.one rfl rfl rfl rfl ?_; intro w9 hRA9 hW9; have h9 := h7.wrote hW9 hLm (Ne.symm hgA); have hE9 := exc_new hE7 hW9 (Nat.le_refl _); have hI9 := (hI7.over (over_wrote hW9 hz1h.out)).less (Nat.le_of_lt hz1h.out); have hO9 := (hO7.over (over_wrote hW9 hz1h.out)).less (Nat.le_of_lt hz1h.out); go_frame))
    (try simp only [Exit.inBlock, Exit.then])
    exact result_row rfl rfl hRA9 Tryd.underlying57 rfl info_TxC rfl ⟨_, _, rfl, hI9, hO9, h9, hE9⟩
theorem read_restLe (s : Scn) : (readS s).2.rest.length ≤ s.rest.length := by
  have h := raw_restLeTx s
  unfold readS
  split <;> exact h
end Go.Proofs.YtmfjgehlkbndjaaDoor

/-
  Layer 10: the walks of what reads, the reference's.
-/
namespace Go.Proofs.YtmfjgehlkbndjaaDoor
open Go Go.RowKit

variable {Lm : Nat}
theorem ownsRow_grown {n m : Nat} {E F : TypeId} {w w' : World} {b b' k : Nat} {v u : Value} {xs : List Value} {L : List (List Value)} (h : w.ownsRow b F m u k xs) (ho : OwnR n E w b' v L) (hE : E ≠ F) (hg : w.grownBy w' v.ownBlock) : w'.ownsRow b F m u k xs := by
  refine ⟨h.1, ?_⟩
  rcases h.2 with hn | ⟨g, cap, cur, rfl, hb, hk, rest⟩
  · exact .inl hn
  · refine .inr ⟨g, cap, cur, rfl, hb, ?_, rest⟩
    rw [hg.block g (Array.getElem?_eq_some_iff.1 hk).1 ?_]
    · exact hk
    · intro e
      rcases ho.1.2 with ⟨rfl, _⟩ | ⟨g', cap', cur', rfl, _, hg', _⟩
      · simp [Value.ownBlock] at e
      · simp only [Value.ownBlock, Option.some.injEq] at e
        subst e
        rw [hg'] at hk
        simp only [Option.some.injEq, Obj.cells.injEq] at hk
        exact hE hk.2.1
section
variable {P : Program} {ops : Array Oper} {S : World → Prop} {o : Oper} {a : Act}
end
end Go.Proofs.YtmfjgehlkbndjaaDoor
