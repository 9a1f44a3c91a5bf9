/-
  Layer 6: a range over a slice's bytes, the last first, and the walk of the Reader's Fixed.
-/
import Derived.Test.YtgichipcmbnnhaaPcRead
import Derived.RangeFuncBox
import Derived.RangeFuncLeaves
import Derived.Shelf.Abstract
import Derived.WalkKit
import Derived.OwnWalkIn
import Derived.TacticsInMore
import Derived.LoopNIn
import Derived.LoopIn
namespace Go.Proofs.Ytgichipcmbnnhaa
open Go Go.RowKit Go.Shelf
variable {Lm : Nat}

attribute [local go_sem] Oper.semAt_some

/-- of what lay below N all is as it was, but for the block B -/
structure Kx (N B : Nat) (w w' : World) : Prop where
  os : w'.os = w.os
  tape : w'.tape = w.tape
  output : w'.output = w.output
  size : w.heap.size ≤ w'.heap.size
  block : ∀ k, k < N → k ≠ B → w'.heap[k]? = w.heap[k]?
theorem Kx.refl (N B : Nat) (w : World) : Kx N B w w := ⟨rfl, rfl, rfl, Nat.le_refl _, fun _ _ _ => rfl⟩
theorem Kx.trans {N B : Nat} {a b c : World} (h : Kx N B a b) (k : Kx N B b c) : Kx N B a c :=
  ⟨k.os.trans h.os, k.tape.trans h.tape, k.output.trans h.output, Nat.le_trans h.size k.size, fun i hi hne => (k.block i hi hne).trans (h.block i hi hne)⟩
theorem Kx.cell {N B : Nat} {w w' : World} (h : Kx N B w w') {a : Addr} (ha : a.block < N) (hne : a.block ≠ B) : w'.cell? a = w.cell? a := World.cell?_of_block (h.block _ ha hne)
theorem Kx.grown {N B : Nat} {w a b : World} {row : Option Nat} (h : Kx N B w a) (hN : N ≤ a.heap.size) (hg : a.grownBy b row) (hr : ∀ r, row = some r → N ≤ r) : Kx N B w b :=
  h.trans ⟨hg.os, hg.tape, hg.output, hg.size, fun k hk _ => hg.block k (by omega) fun e => by have := hr k e.symm; omega⟩
theorem Kx.set (N B : Nat) (w : World) (v : Value) : Kx N B w (w.setCell ⟨B, 0, none⟩ v) :=
  ⟨rfl, rfl, rfl, by simp, fun k _ hne => heap_setCell_other _ _ _ _ hne⟩
theorem kx_own {β : Type} {N B : Nat} {w : World} (hN : N ≤ w.heap.size) : OwnFrom N (fun (_ : β) W => Kx N B w W) :=
  fun _ _ _ _ hs hg hr => hs.grown (Nat.le_trans hN hs.size) hg fun r e => (hr r e).1
theorem boxed_ownP {β : Type} {N B : Nat} {t : TypeId} {f : β → Value} (hB : B < N) : OwnFrom N (fun (s : β) W => Boxed W B t (f s)) :=
  fun s _ _ _ hs hg hr => hs.kept hg fun e => by have := (hr B e.symm).1; omega

/-- what has come when k rounds are over -/
def backTo6 (l : List UInt8) (k : Nat) : List (Nat × UInt8) := (List.range k).map fun t => (l.length - 1 - t, l[l.length - 1 - t]?.getD 0)
theorem backTo6_succ (l : List UInt8) (k : Nat) : backTo6 l (k + 1) = backTo6 l k ++ [(l.length - 1 - k, l[l.length - 1 - k]?.getD 0)] := by simp [backTo6, List.range_succ]
theorem backTo6_len (l : List UInt8) (k : Nat) : (backTo6 l k).length = k := by simp [backTo6]
/-- the number that is gathered -/
def gath (xs : List (Nat × UInt8)) : Nat := xs.foldl (fun n x => n * 256 % 18446744073709551616 + x.2.toNat) 0
theorem gath_snoc (xs : List (Nat × UInt8)) (x : Nat × UInt8) : gath (xs ++ [x]) = gath xs * 256 % 18446744073709551616 + x.2.toNat := by simp [gath]
theorem numL_drop (l : List UInt8) (j : Nat) (hj : j < l.length) : numL (l.drop j) = l[j].toNat + 256 * numL (l.drop (j + 1)) := by
  rw [List.drop_eq_getElem_cons hj]; rfl
theorem gath_back (l : List UInt8) (hl : l.length ≤ 8) : ∀ k, k ≤ l.length → gath (backTo6 l k) = numL (l.drop (l.length - k))
  | 0, _ => by simp [backTo6, gath, numL]
  | k + 1, hk => by
    have ih := gath_back l hl k (by omega)
    have hj : l.length - 1 - k < l.length := by omega
    have e1 : l.length - (k + 1) = l.length - 1 - k := by omega
    have e2 : l.length - 1 - k + 1 = l.length - k := by omega
    have hlt : numL (l.drop (l.length - k)) < 72057594037927936 := by
      have h1 := numL_lt (l.drop (l.length - k))
      have h2 : 256 ^ (l.drop (l.length - k)).length ≤ 256 ^ 7 := Nat.pow_le_pow_right (by decide) (by rw [List.length_drop]; omega)
      have e7 : (256 : Nat) ^ 7 = 72057594037927936 := by decide
      omega
    rw [backTo6_succ, gath_snoc, ih, e1, numL_drop l _ hj, e2, List.getElem?_eq_getElem hj, Option.getD_some]
    dsimp only
    omega
theorem gath_all (l : List UInt8) (hl : l.length ≤ 8) : gath (backTo6 l l.length) = numL l := by
  rw [gath_back l hl _ (Nat.le_refl _), Nat.sub_self, List.drop_zero]
/-- bytes that are there lie in a row -/
theorem vals_atP {w : World} {l : List UInt8} {ao : Option Addr} {n c : Nat} (h : IsVals w (.slice ao n c) (l.map VB)) (hl : l ≠ []) : ∃ b off, ao = some ⟨b, off, none⟩ ∧ ∀ j, j < l.length → w.cell? ⟨b, off + j, none⟩ = some (VB (l[j]?.getD 0)) := by
  obtain ⟨ao', c', e, _, _, hj⟩ := h
  simp only [Value.slice.injEq] at e
  obtain ⟨rfl, rfl, rfl⟩ := e
  have hget : ∀ j, j < l.length → (l.map VB)[j]? = some (VB (l[j]?.getD 0)) := fun j hj => by
    rw [List.getElem?_map, List.getElem?_eq_getElem hj]; rfl
  obtain ⟨a, rfl, h0⟩ := hj 0 _ (hget 0 (List.length_pos_iff.2 hl))
  obtain ⟨b, off, spot⟩ := a
  cases spot with
  | some p =>
    exfalso
    unfold Addr.add at h0
    rw [if_pos rfl] at h0
    unfold World.cell? at h0
    split at h0 <;> simp at h0
  | none =>
    refine ⟨b, off, rfl, fun j hjl => ?_⟩
    obtain ⟨a', e, hc⟩ := hj j _ (hget j hjl)
    cases e
    rw [add_none] at hc; exact hc

set_option maxRecDepth 100000 in
set_option maxHeartbeats 4000000 in
/-- Backward's closure, for every loop body that keeps what lay below N but for its one variable -/
theorem backward1_in (n : Nat) (hn : 1 ≤ n) (lp Bs N B b off len cap : Nat) (l : List UInt8) (hlen : l.length = len) (hl8 : len ≤ 8) (hb : b < N) (hbB : b ≠ B) (hs : Bs < N) (hsB : Bs ≠ B) (J Jx : List (Nat × UInt8) → World → Prop)
    (hY : ∀ pre x W, J pre W → pre.length < len → YieldAt Fence.wide (n - 1) Try.prog lp #[.int .i64 (x.1 : Int), VB x.2] W fun e W' =>
      (e = .returned (.bool true) ∧ J (pre ++ [x]) W' ∧ Kx N B W W') ∨ (e = .returned (.bool false) ∧ Jx (pre ++ [x]) W'))
    (W : World) (hBs : W.cell? ⟨Bs, 0, none⟩ = some (.slice (some ⟨b, off, none⟩) len cap)) (hc : ∀ j, j < len → W.cell? ⟨b, off + j, none⟩ = some (VB (l[j]?.getD 0))) (h0 : J [] W) :
    CallsIn Fence.wide n Try.prog 62 #[.func (.yield lp) #[] #[], .pointer (some ⟨Bs, 0, none⟩)] W fun e W' => (∃ v, e = .returned v) ∧
      ((∃ ys, ys = backTo6 l len ∧ J ys W') ∨ (∃ pre, True ∧ Jx pre W')) := by
  refine callsIn_of_wp Try.func62 rfl trivial ?_ rfl
  simp only [Try.ntmps62, List.size_toArray, List.length_cons, List.length_nil, Nat.reduceAdd, Nat.reduceSub, Array.replicate_succ, Array.replicate_zero, List.push_toArray, List.append_toArray, List.nil_append, List.cons_append]
  gi_wp2
  gi_loopw [3] (fun i wr => ∃ j k : Nat, j + k = len ∧ i = .int .i64 ((j : Int) - 1) ∧ J (backTo6 l k) wr ∧ Kx N B W wr)
    (fun i _ => (intOf i + 1).toNat)
  case atStart => exact ⟨len, 0, rfl, by go_num, h0, Kx.refl _ _ _⟩
  case round =>
    obtain ⟨j, k, hjk, rfl, hJs, hx⟩ := hrel
    have hBr : wr.cell? ⟨Bs, 0, none⟩ = some (.slice (some ⟨b, off, none⟩) len cap) := (hx.cell (a := ⟨Bs, 0, none⟩) hs hsB).trans hBs
    cases j with
    | zero =>
      obtain rfl : k = len := by omega
      gi_wp2
      go_end0
      exact ⟨⟨_, rfl⟩, .inl ⟨_, rfl, hJs⟩⟩
    | succ j =>
      have hcx : wr.cell? ⟨b, off + j, none⟩ = some (VB (l[j]?.getD 0)) := (hx.cell (a := ⟨b, off + j, none⟩) hb hbB).trans (hc j (by omega))
      obtain ⟨fn, tmps, assign, body, hy, hR⟩ := hY _ (j, l[j]?.getD 0) wr hJs (by rw [backTo6_len]; omega)
      dsimp only at hy
      have ej : ((j + 1 : Nat) : Int) - 1 = (j : Int) := by omega
      rw [ej]
      have hbk : backTo6 l k ++ [(j, l[j]?.getD 0)] = backTo6 l (k + 1) := by rw [backTo6_succ, show l.length - 1 - k = j by omega]
      rw [hbk] at hR
      gi_wp2
      refine hR.mono ?_
      rintro e W3 (⟨rfl, hJ3, hk3⟩ | ⟨rfl, hJx3⟩)
      · gi_wp2
        go_roundw
        case rel => exact ⟨j, k + 1, by omega, by go_num, hJ3, hx.trans hk3⟩
        case measure => simp [intOf]
      · gi_wp2
        refine bodyPost_ret (results_none rfl _ _ _) rfl ?_
        exact ⟨⟨_, rfl⟩, .inr ⟨_, trivial, hJx3⟩⟩
set_option maxRecDepth 100000 in
set_option maxHeartbeats 4000000 in
/-- .. of no bytes: no round -/
theorem backward1_nil (n : Nat) (lp Bs cap : Nat) (ao : Option Addr) (J : List (Nat × UInt8) → World → Prop) (W : World) (hBs : W.cell? ⟨Bs, 0, none⟩ = some (.slice ao 0 cap)) (h0 : J [] W) :
    CallsIn Fence.wide n Try.prog 62 #[.func (.yield lp) #[] #[], .pointer (some ⟨Bs, 0, none⟩)] W fun e W' => (∃ v, e = .returned v) ∧ J [] W' := by
  refine callsIn_of_wp Try.func62 rfl trivial ?_ rfl
  simp only [Try.ntmps62, List.size_toArray, List.length_cons, List.length_nil, Nat.reduceAdd, Nat.reduceSub, Array.replicate_succ, Array.replicate_zero, List.push_toArray, List.append_toArray, List.nil_append, List.cons_append]
  gi_wp2
  gi_loopw [3] (fun i wr => i = .int .i64 (-1) ∧ J [] wr) (fun _ _ => 0)
  case atStart => exact ⟨by go_num, h0⟩
  case round =>
    obtain ⟨rfl, hJs⟩ := hrel
    gi_wp2
    go_end0
    exact ⟨⟨_, rfl⟩, hJs⟩
set_option maxHeartbeats 4000000 in
/-- Backward: the slice is boxed, the function captures the box -/
theorem backward_any (ao : Option Addr) (len cap : Nat) (w : World) :
    Calls Try.prog 57 #[.slice ao len cap] w fun e w' => e = .returned (.func (.func 62) #[] #[.pointer (some ⟨w.heap.size, 0, none⟩)]) ∧ w' = w.alloc (.cells #[.slice ao len cap] 25) := by
  refine (callsIn_wide (n := 9)).1 ?_
  refine callsIn_of_wp Try.func57 rfl trivial ?_ rfl
  simp only [Try.ntmps57, List.size_toArray, List.length_cons, List.length_nil, Nat.reduceAdd, Nat.reduceSub, Array.replicate_succ, Array.replicate_zero, List.push_toArray, List.append_toArray, List.nil_append, List.cons_append]
  gi_wp2
  go_ret
  exact ⟨rfl, rfl⟩
/-- what Backward hands back goes over the bytes, the last first -/
theorem backward_stops (n : Nat) (hn : 1 ≤ n) (Bs N B : Nat) (ao : Option Addr) (len cap : Nat) (l : List UInt8) (hlen : l.length = len) (hl8 : len ≤ 8) (w : World) (hN : N = w.heap.size) (hs : Bs < N) (hsB : Bs ≠ B)
    (hBc : w.cell? ⟨Bs, 0, none⟩ = some (.slice ao len cap)) (hV : IsVals w (.slice ao len cap) (l.map VB)) (hbB : ∀ b off j c, ao = some ⟨b, off, none⟩ → w.cell? ⟨b, off + j, none⟩ = some (VB c) → b ≠ B) :
    SeqStopsK Fence.wide n Try.prog 62 #[.pointer (some ⟨Bs, 0, none⟩)] (fun x : Nat × UInt8 => #[Value.int .i64 (x.1 : Int), VB x.2]) (Kx N B) (fun ys => ys = backTo6 l len) (fun _ => True) len w := fun lp J Jx W hW _ _ hY h0 => by
  have hc' := (hW.cell (p := ⟨Bs, 0, none⟩) (by rw [← hN]; exact hs)).trans hBc
  by_cases hl : l = []
  · subst hl
    obtain rfl : len = 0 := by rw [← hlen]; rfl
    exact (backward1_nil n lp Bs cap ao J W hc' h0).mono fun e W' ⟨he, hj⟩ => ⟨he, .inl ⟨_, rfl, hj⟩⟩
  · obtain ⟨b, off, rfl, hcells⟩ := vals_atP hV hl
    have hb0 := hcells 0 (List.length_pos_iff.2 hl)
    have hbN : b < N := by rw [hN]; exact block_lt_of_cell hb0
    refine backward1_in n hn lp Bs N B b off len cap l hlen hl8 hbN (hbB b off 0 _ rfl hb0) hs hsB J Jx hY W hc' (fun j hj => ?_) h0
    exact (hW.cell (p := ⟨b, off + j, none⟩) (by rw [← hN]; exact hbN)).trans (hcells j (by omega))
/-- a digit more: what was shifted has room for it -/
theorem or_digit (n : Nat) (c : UInt8) : bits .or .u64 ((n * 256 % 18446744073709551616 : Nat) : Int) ((c.toNat : Nat) : Int) = ((n * 256 % 18446744073709551616 + c.toNat : Nat) : Int) := by
  have hc := c.toNat_lt
  have e : n * 256 % 18446744073709551616 = 2 ^ 8 * (n % 72057594037927936) := by omega
  rw [u64_or_nat _ _ (by omega) (by omega), e, Nat.two_pow_add_eq_or_of_lt (by omega)]
theorem or_digit2 (n : Nat) (c : UInt8) : bits .or .u64 ((n : Int) * 256 % 18446744073709551616) (B c) = ((n * 256 % 18446744073709551616 + c.toNat : Nat) : Int) := by
  rw [← or_digit]; unfold B; congr 1
theorem or_digit3 (n : Nat) (c : UInt8) : bits .or .u64 (IntKind.u64.wrap ((n : Int) * 256)) (IntKind.u64.wrap (B c)) = ((n * 256 % 18446744073709551616 + c.toNat : Nat) : Int) := by
  have hc := c.toNat_lt
  rw [← or_digit2, IntKind.wrap_u64, IntKind.wrap_u64, show B c % 18446744073709551616 = B c by unfold B; omega]
theorem boxed_noByte {w : World} {B off j : Nat} {t : TypeId} {m : Int} {c : UInt8} (h : Boxed w B t (.int .u64 m)) (hc : w.cell? ⟨B, off + j, none⟩ = some (VB c)) : False := by
  have h' : w.heap[B]? = some (.cells #[.int .u64 m] t (0, 0)) := h
  unfold World.cell? at hc
  rw [h'] at hc
  rcases ho : off + j with _ | n
  · rw [ho] at hc; simp at hc
  · rw [ho] at hc; simp at hc
theorem boxed_noByte2 {w : World} {B : Nat} {t : TypeId} {m : Int} {c : UInt8} {a : Addr} (h : Boxed w B t (.int .u64 m)) (hc : w.cell? a = some (VB c)) : a.block ≠ B := by
  rintro rfl
  obtain ⟨b, off, spot⟩ := a
  cases spot with
  | none => exact boxed_noByte (off := off) (j := 0) h hc
  | some q => unfold World.cell? at hc; split at hc <;> simp at hc
theorem rd_kx {T : TypeId} {w w' : World} {g B : Nat} {t : TypeId} {m : Int} {s : Scn} (hb : Boxed w B t (.int .u64 m)) (hk : Kx w.heap.size B w w') (hg : g ≠ B) (h : Rd Lm T w g s) : Rd Lm T w' g s := by
  obtain ⟨v, hr, ⟨ao, c, rfl, h1, h2, h3⟩, h4⟩ := h
  refine ⟨_, (hk.block g hr.lt hg).trans hr, ⟨ao, c, rfl, h1, h2, fun j u hu => ?_⟩, h4⟩
  obtain ⟨a, rfl, hc⟩ := h3 j u hu
  obtain ⟨x, -, rfl⟩ : ∃ x, x ∈ s.rest ∧ VB x = u := by simpa using List.mem_of_getElem? hu
  exact ⟨a, rfl, (hk.cell (block_lt_of_cell hc) (boxed_noByte2 hb hc)).trans hc⟩
set_option maxRecDepth 100000 in
set_option maxHeartbeats 8000000 in
theorem rdFixed_any {s : Scn} {g : Nat} {z : Int} (w : World) (h : Rd Lm 73 w g s) : Calls Try.prog 43 #[.pointer (some ⟨g, 0, none⟩), .int .i64 z] w (PNumPost Lm 73 g w (fixedS s z)) := by
  rw [fixedS_take]
  have hgw := h.lt
  have hlen : (takeS s (clampS z)).1.length ≤ 8 := Nat.le_trans (takeS_len _ _) (clampS_le z)
  have h1 : Rd Lm 73 (w.alloc (.cells #[.int .u64 0] 63)) g s := h.below ((Below.refl _ w).alloc (Nat.le_refl _) _)
  have htk := rdTake_any (n := clampS z) _ h1
  have hwz := pcWithin_any z
  generalize clampS z = S at *
  generalize takeS s S = p at *
  refine (callsIn_wide (n := 9)).1 ?_
  refine callsIn_of_wp_marks Try.func43 rfl trivial ?_ rfl
  simp only [Try.ntmps43, List.size_toArray, List.length_cons, List.length_nil, Nat.reduceAdd, Nat.reduceSub, Array.replicate_succ, Array.replicate_zero, List.push_toArray, List.append_toArray, List.nil_append, List.cons_append]
  gi_wp2_with (first
    | (refine ⟨trivial, ?_⟩; gi_at_call 58; refine (callsIn_wide.2 (hwz _)).mono ?_; rintro e w1 ⟨rfl, rfl⟩)
    | (refine ⟨trivial, ?_⟩; gi_at_call 56; refine (callsIn_wide.2 htk).mono ?_; rintro e w2 ⟨v2, rfl, hV2, hR2, hX2⟩; obtain ⟨ao, cap, rfl⟩ := vals_slice hV2)
    | (refine ⟨trivial, ?_⟩; gi_at_call 57; refine (callsIn_wide.2 (backward_any _ _ _ _)).mono ?_; rintro e w3 ⟨rfl, rfl⟩))
  clear htk hwz
  obtain ⟨len, hle⟩ : ∃ len, p.1.length = len := ⟨_, rfl⟩
  rw [hle] at hV2 hlen ⊢
  have hsz2 : w.heap.size < w2.heap.size := by have := hX2.size; rw [World.size_alloc] at this; omega
  have bN : Boxed w2 w.heap.size 63 (.int .u64 0) := (Boxed.new w 63 (.int .u64 0)).kept hX2 (fun e => by cases e; omega)
  have hB23 : Below w2.heap.size w2 (w2.alloc (.cells #[.slice ao len cap] 25)) := (Below.refl _ _).alloc (Nat.le_refl _) _
  have bS := Boxed.new w2 25 (.slice ao len cap)
  have bN3 := bN.alloc (.cells #[.slice ao len cap] 25)
  have hz3 : (w2.alloc (.cells #[.slice ao len cap] 25)).heap.size = w2.heap.size + 1 := World.size_alloc ..
  have hR3 := hR2.below hB23
  have hV3 := hV2.below hB23
  have hX3 := hX2.trans (exc_below g hB23)
  generalize w2.alloc (.cells #[.slice ao len cap] 25) = w3 at *
  clear hB23 bN hR2 hV2 hX2
  refine wpIn_rangeFunc_ownG (F := Fence.wide) rfl (by decide) (gf := 62) (lb := #[.pointer (some ⟨w2.heap.size, 0, none⟩)]) rfl trivial (enters_of Try.func62 (by kernel_rfl) rfl)
    (backward_stops (9 - 1) (by decide) w2.heap.size w3.heap.size w.heap.size ao len cap p.1 hle hlen w3 rfl (by omega) (by omega) bS.cell hV3 (fun b off j c _ hc e => by subst e; exact boxed_noByte bN3 hc)) (fun h k => h.trans k)
    (fun W l o o' hl ho _ _ => (Kx.refl _ _ W).grown (by have := (Array.getElem?_eq_some_iff.1 ho).1; omega) (grownBy_putObj' W l o') (fun r e => by cases e; exact hl)) (Below.refl _ _) (fun _ => rfl)
    (fun pre W => Boxed W w.heap.size 63 (.int .u64 (gath pre : Int)) ∧ Kx w3.heap.size w.heap.size w3 W)
    (fun _ _ _ => False)
    (OwnFrom.and (boxed_ownP (f := fun pre => Value.int .u64 (gath pre : Int)) (by omega)) (kx_own (Nat.le_refl _)))
    (fun _ _ _ _ _ hs _ _ => hs)
    ⟨bN3, Kx.refl _ _ _⟩
    (fun x => { tmps := #[.pointer (some ⟨g, 0, none⟩), .int .i64 z, undef, undef, .int .u64 0, .pointer (some ⟨w.heap.size, 0, none⟩), undef, VB x.2, .pointer (some ⟨g, 0, none⟩), .int .i64 z, .int .i64 (S : Int), .slice ao len cap, .func (.func 62) #[] #[.pointer (some ⟨w2.heap.size, 0, none⟩)], .int .i64 (x.1 : Int), VB x.2, undef, undef, undef, undef, undef, undef], defers := [] }) ?assign ?body ?done ?stop
  case assign =>
    intro l x W K hK
    gi_wp2
    exact hK
  case body =>
    rintro l pre x W ⟨hb, hk⟩ _
    have hc := hb.cell
    have hf := hb.frozen
    gi_wp2
    rw [or_digit3 (gath pre) x.2]
    exact ⟨(KeepsOthers.setCell _ _ _).from _, Kx.set _ _ _ _, by rw [gath_snoc]; exact hb.set _, hk.trans (Kx.set _ _ _ _)⟩
  case done =>
    rintro D ys W hD rfl ⟨hb, hk⟩ hK
    have hc := hb.cell
    gi_wp2
    refine ⟨by simp, .inl ⟨_, _, rfl, run_takeDeferred hK, ?_⟩⟩
    have hk2 : Kx w3.heap.size w.heap.size w3 (W.putObj D (.deferred none)) := hk.grown hk.size (grownBy_putObj' W D _) (fun r e => by cases e; exact hD)
    refine ⟨_, results_tmp rfl _ _ _, ?_, rd_kx bN3 hk2 (by omega) hR3, ?_⟩
    · rw [← hle, gath_all p.1 (by omega)]; rfl
    · have hx := (exc_below g ((Below.refl _ w).alloc (Nat.le_refl _) (.cells #[.int .u64 0] 63))).trans hX3
      have hs3 := hx.size
      exact ⟨hk2.os.trans hx.os, hk2.tape.trans hx.tape, hk2.output.trans hx.output, Nat.le_trans hx.size hk2.size, fun k hk hne => (hk2.block k (by omega) (by omega)).trans (hx.block k hk hne)⟩
  case stop =>
    rintro D c pre W _ _ h _
    exact h.elim
end Go.Proofs.Ytgichipcmbnnhaa
