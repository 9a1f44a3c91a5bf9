/-
  Layer 6: Text, and the reference's writers.
-/
import Derived.Test.YtgichipcmbnnhaaPcWrite
namespace Go.Proofs.Ytgichipcmbnnhaa
open Go Go.RowKit

/-- texts one behind the other -/
def textsL (Ls : List (List UInt8)) : List UInt8 := (Ls.map textL).flatten
theorem textsL_take (Ls : List (List UInt8)) (k : Nat) (hk : k < Ls.length) : textsL (Ls.take (k + 1)) = textsL (Ls.take k) ++ textL Ls[k] := by
  unfold textsL; rw [List.take_succ_eq_append_getElem hk, List.map_append, List.flatten_append]; simp
theorem countL_le (n : Nat) : (countL n).length ≤ 9 := by have := fSize_le (cFirst n); rw [countL_len, ← cFirst_size]; omega
theorem textL_le {x : List UInt8} {m : Nat} (h : x.length ≤ m) : (textL x).length ≤ m + 9 := by
  have := countL_le x.length; unfold textL; rw [List.length_append]; omega
theorem textsL_le (Ls : List (List UInt8)) (m : Nat) (h : ∀ L ∈ Ls, L.length ≤ m) : (textsL Ls).length ≤ Ls.length * (m + 9) := by
  induction Ls with
  | nil => simp [textsL]
  | cons x Ls ih =>
    have h1 := textL_le (h x (by simp))
    have h2 := ih fun L hL => h L (by simp [hL])
    have e : textsL (x :: Ls) = textL x ++ textsL Ls := by simp [textsL]
    rw [e, List.length_append, List.length_cons, Nat.add_mul, Nat.one_mul]; omega
theorem AreLists.len {w : World} {v : Value} {Ls : List (List UInt8)} (h : AreLists w v Ls) : ∃ vs : List Value, vs.length = Ls.length ∧ IsVals w v vs := by
  obtain ⟨vs, h1, h2, _⟩ := h; exact ⟨vs, h1, h2⟩
theorem AreLists.at {w : World} {v : Value} {Ls : List (List UInt8)} (h : AreLists w v Ls) {k : Nat} (hk : k < Ls.length) : ∃ (vs : List Value) (x : Value), vs.length = Ls.length ∧ IsVals w v vs ∧ vs[k]? = some x ∧ IsVals w x (Ls[k].map VB) := by
  obtain ⟨vs, h1, h2, h3⟩ := h
  exact ⟨vs, vs[k], h1, h2, List.getElem?_eq_getElem (by omega), h3 k _ _ (List.getElem?_eq_getElem (by omega)) (List.getElem?_eq_getElem hk)⟩
theorem info_bytesP : (Try.prog.info? 25).map (·.size) = some 1 := by kernel_rfl
set_option maxRecDepth 100000 in
set_option maxHeartbeats 8000000 in
theorem pcText_any {l : List UInt8} {v u : Value} {Ls : List (List UInt8)} (w : World) (hv : IsVals w v (l.map VB)) (hu : AreLists w u Ls) (hl : l.length ≤ 100000) (hn : Ls.length ≤ 100) (hx : ∀ L ∈ Ls, L.length ≤ 3900) : Calls Try.prog 37 #[v, u] w (POwnPost w (l ++ textsL Ls)) := by
  obtain ⟨N, hN⟩ : ∃ N, Ls.length = N := ⟨_, rfl⟩
  have hL0 := hu.len
  have hsum : (textsL Ls).length ≤ 500000 := by have := textsL_le Ls 3900 hx; omega
  obtain ⟨vs0, hvs0, hV0⟩ := hL0
  go_enter Try.func37, Try.ntmps37
  go_wp2_with (first
    | ((with_reducible change wpList _ _ _ (Oper.mk (some 9) _ _ _ _ _ :: _) _ _); refine kLenN _ _ _ u _ N rfl rfl rfl hV0 (hvs0.trans hN) Try.underlying84 ?_; go_frame))
  clear hV0 hvs0
  go_loopw [10, 5] (fun i t wr => ∃ k : Nat, k ≤ N ∧ i = .int .i64 k ∧ OwnB wr w.heap.size t (textsL (Ls.take k)) ∧ Below w.heap.size w wr) (fun i _ _ => N - (intOf i).toNat)
  case atStart => exact ⟨0, by omega, rfl, ownB_nil _ _, Below.refl _ _⟩
  case round =>
    obtain ⟨k, hk, rfl, hO, hB⟩ := hrel
    by_cases hlt : k < N
    · have hd : decide ((k : Int) < (N : Int)) = true := by simp; omega
      have hkl : k < Ls.length := by omega
      obtain ⟨vs, x, hvs, hV0, hxk, hX0⟩ := hu.at hkl
      have hV := hV0.below hB
      have hX := hX0.below hB
      have hsz := hB.size
      have hm : Ls[k].length ≤ 3900 := hx _ (List.getElem_mem hkl)
      have hTk := textsL_take Ls k hkl
      have hTl : (textsL (Ls.take k)).length ≤ 400000 := by have := textsL_le (Ls.take k) 3900 (fun L hL => hx L (List.mem_of_mem_take hL)); rw [List.length_take] at this; omega
      obtain ⟨X, hXe⟩ : ∃ X, Ls[k] = X := ⟨_, rfl⟩
      rw [hXe] at hX hX0 hm hTk
      obtain ⟨m, hme⟩ : ∃ m, X.length = m := ⟨_, rfl⟩
      have hcl := countL_le m
      clear hV0
      go_wp2_with (first
        | ((with_reducible change wpList _ _ _ (Oper.mk (some 11) _ _ _ _ _ :: _) _ _); refine kLssI _ _ _ _ .i64 (k : Int) (N : Int) true rfl rfl rfl rfl hd ?_; go_frame)
        | ((with_reducible change wpList _ _ _ (Oper.mk (some 12) _ _ _ _ _ :: _) _ _); refine kIndexAddrV _ _ _ _ .i64 u vs (k : Int) k x rfl rfl rfl hV rfl Try.underlying84 info_bytesP rfl hxk ?_; intro b hb; go_frame)
        | ((with_reducible change wpList _ _ _ (Oper.mk (some 13) _ _ _ _ _ :: _) _ _); refine kLoadCell _ _ b x _ rfl rfl rfl hb Try.underlying25 rfl ?_; clear hb hV; go_frame)
        | ((with_reducible change wpList _ _ _ (Oper.mk (some 16) _ _ _ _ _ :: _) _ _); refine kLenN _ _ _ x _ m rfl rfl rfl hX (by rw [List.length_map, hme]) Try.underlying25 ?_; go_frame)
        | ((with_reducible change wpList _ _ _ (Oper.mk (some 17) _ _ _ _ _ :: _) _ _); refine kConvIU _ m (by omega) rfl rfl rfl ?_; go_frame)
        | (go_at_call 55; refine (pcCounted_any m _).mono ?_; rintro e w2 ⟨v2, rfl, hO2, hB2⟩; have hO3 := hO.below hB2; have hsz2 := hB2.size; have hB3 := hB.trans (hB2.mono hsz); clear hB2 hO hX; go_frame)
        | ((with_reducible change wpList _ _ _ (Oper.mk (some 19) _ _ _ _ _ :: _) _ _); refine kAppB _ _ rfl rfl w.heap.size _ _ (textsL (Ls.take k)) (countL m) hO3 hO2.vals rfl rfl (by omega) (by omega) ?_; intro v4 w4 hO4 hB4; have hB5 := hB3.trans hB4; have hX4 := hX0.below hB5; have hsz4 := hB5.size; clear hO2 hO3 hB4 hB3; go_frame)
        | ((with_reducible change wpList _ _ _ (Oper.mk (some 22) _ _ _ _ _ :: _) _ _); refine kAppB _ _ rfl rfl w.heap.size _ _ (textsL (Ls.take k) ++ countL m) X hO4 hX4 rfl rfl (by rw [List.length_append]; omega) hsz4 ?_; intro v6 w6 hO6 hB6; have hB7 := hB5.trans hB6; clear hO4 hX4 hB5 hB6; go_frame)
        | ((with_reducible change wpList _ _ _ (Oper.mk (some 23) _ _ _ _ _ :: _) _ _); refine kAddI _ _ _ _ (k : Int) 1 ((k + 1 : Nat) : Int) (by omega) rfl rfl rfl rfl ?_; go_frame))
      go_roundw
      case rel =>
        refine ⟨k + 1, by omega, rfl, ?_, hB7⟩
        rw [hTk, show textL X = countL m ++ X by unfold textL; rw [hme], ← List.append_assoc]; exact hO6
      case measure => simp [intOf]; omega
    · have hd : decide ((k : Int) < (N : Int)) = false := by simp; omega
      have hT : textsL (Ls.take k) = textsL Ls := by rw [List.take_of_length_le (by omega)]
      rw [hT] at hO
      have hv2 := hv.below hB
      have hsz := hB.size
      clear hT
      go_wp2_with (first
        | ((with_reducible change wpList _ _ _ (Oper.mk (some 11) _ _ _ _ _ :: _) _ _); refine kLssI _ _ _ _ .i64 (k : Int) (N : Int) false rfl rfl rfl rfl hd ?_; go_frame)
        | (go_at_call 53; refine (pcBehind_any _ hv2 hO.vals (by omega) hsum).mono ?_; rintro e w2 ⟨v2, rfl, hO2, hB2⟩; have hO3 := own_less hsz hO2; have hB3 := hB.trans (hB2.mono hsz); clear hB2 hO2; go_frame))
      go_ret
      exact ⟨_, rfl, hO3, hB3⟩
end Go.Proofs.Ytgichipcmbnnhaa
