/-
  The walk of the statement SignBytes.
-/
import Derived.Test.YtfgffjmpjoipeaaDoorSgBytes
namespace Go.Proofs.YtfgffjmpjoipeaaDoor
open Go Go.RowKit

open Cv
structure CellAt (w : World) (b : Addr) (c : UInt8) : Prop where
  out : w.cell? b = some (VB c)
theorem CellAt.below {w w' : World} {b : Addr} {c : UInt8} (h : CellAt w b c) (hb : Below w.heap.size w w') : CellAt w' b c := ⟨by rw [hb.cell (block_lt_of_cell h.out)]; exact h.out⟩
/-- bytes that are there have an address -/
theorem vals_shape {w : World} {v : Value} {l : List UInt8} {n : Nat} (hv : IsVals w v (l.map VB)) (hl : l.length = n) (hn : 0 < n) : ∃ ad cap, v = .slice (some ad) n cap ∧ ∀ j, j < n → CellAt w (ad.add j) (l.getD j 0) := by
  obtain ⟨ao, cap, rfl, hc, _, hj⟩ := hv
  have hget : ∀ j, j < n → (l.map VB)[j]? = some (VB (l.getD j 0)) := fun j hj => by
    rw [List.getElem?_map, List.getD_eq_getElem?_getD, List.getElem?_eq_getElem (by omega)]; rfl
  obtain ⟨a, rfl, _⟩ := hj 0 _ (hget 0 hn)
  refine ⟨a, cap, by rw [List.length_map, hl], fun j hjn => ⟨?_⟩⟩
  obtain ⟨a', e, hcell⟩ := hj j _ (hget j hjn)
  cases e; exact hcell
theorem sBytes_vals (r s : Nat) (w : World) : Calls Tryd.prog 22 #[.agg (wcells2 r s)] w (BytesPost w (sigB r s)) :=
  (sBytes_any r s w).mono fun _ _ ⟨v, h1, h2, h3⟩ => ⟨v, h1, h2.vals, h3⟩
section
variable {ops : Array Oper} {Q : Exit → Act → World → Prop} {rest : List Oper} {o : Oper} {a : Act} {w : World}
theorem kIndexAt (x y : Operand) (v : Value) (ad : Addr) (n cap j : Nat) (hv : v = .slice (some ad) n cap) (ho : o.op = .indexAddr 42 x y) (hg : Region.wanted o (yielded ops a.tmps) = true) (hx : a.eval x = v) (hy : a.eval y = .int .i64 (j : Int)) (hj : j < n)
    (h : wpList Tryd.prog ops Q rest (a.put o.dst (.pointer (some (ad.add j)))) w) : wpList Tryd.prog ops Q (o :: rest) a w := by
  subst hv
  refine kPure _ hg ?_ h
  have hrun : (Instr.indexAt 42 (.slice (some ad) n cap) (.int .i64 (j : Int))).run Tryd.prog w = .ok (.pointer (some (ad.add j))) w := by
    have hs := info_b8
    cases hq : Tryd.prog.info? 5 with
    | none => simp [hq] at hs
    | some t =>
      have hs' : t.size = 1 := by simpa [hq] using hs
      simp [Instr.indexAt, asIntOf, run_underlying Tryd.underlying42, sizeOf, typeInfo, hq, hs', hj]
  unfold execOp
  simp only [ho, hx, hy, Sem.run_bind, hrun, Result.andThen_ok, Sem.run_pure]
theorem kConv8 (x : Operand) (n : Nat) (ho : o.op = .convert 22 5 x) (hg : Region.wanted o (yielded ops a.tmps) = true) (hx : a.eval x = .int .u64 (n : Int)) (h : wpList Tryd.prog ops Q rest (a.put o.dst (.int .u8 ((n % 256 : Nat) : Int))) w) : wpList Tryd.prog ops Q (o :: rest) a w := by
  refine kPure _ hg ?_ h
  unfold execOp
  have e : IntKind.u8.wrap (n : Int) = ((n % 256 : Nat) : Int) := by rw [IntKind.wrap_u8]; omega
  simp [ho, hx, convert, run_underlying Tryd.underlying22, run_underlying Tryd.underlying5, e, Conv.intToInt]
theorem kShr56 (T T2 : TypeId) (x y : Operand) (n : Nat) (ho : o.op = .binOp .shr T x y T2) (hg : Region.wanted o (yielded ops a.tmps) = true) (hx : a.eval x = .int .u64 (n : Int)) (hy : a.eval y = .int .u64 56) (h : wpList Tryd.prog ops Q rest (a.put o.dst (.int .u64 ((n / 72057594037927936 : Nat) : Int))) w) : wpList Tryd.prog ops Q (o :: rest) a w := by
  refine kPure _ hg ?_ h
  unfold execOp
  simp only [ho, hx, hy]
  have e : (n : Int) / 2 ^ (56 : Int).toNat = ((n / 72057594037927936 : Nat) : Int) := by rw [show (2 : Int) ^ (56 : Int).toNat = 72057594037927936 from rfl]; omega
  have e2 := shift_shr .u64 .u64 (n : Int) 56 (by decide) (by decide)
  simp only [eqGuard_shr, binOp_shr, e2, e]
  rfl
end
theorem low_byte (r s : Nat) : B ((sigB r s).getD 31 0) = ((limb r 0 % 256 : Nat) : Int) := by
  have e : (sigB r s).getD 31 0 = (bytes32 r).getD 31 0 := by unfold sigB; rw [List.getD_eq_getElem?_getD, List.getD_eq_getElem?_getD, List.getElem?_append_left (by rw [bytes32_length]; decide)]
  have h := nbyte_limb r 0
  unfold B
  rw [e, bytes32_at r 31 (by decide)]
  show ((nbyte r 0 : Nat) : Int) = _
  rw [← h]; simp
theorem high_byte (r s : Nat) : B ((sigB r s).getD 32 0) = ((limb s 3 / 72057594037927936 % 256 : Nat) : Int) := by
  have e : (sigB r s).getD 32 0 = (bytes32 s).getD 0 0 := by unfold sigB; rw [List.getD_eq_getElem?_getD, List.getD_eq_getElem?_getD, List.getElem?_append_right (by rw [bytes32_length]; decide), bytes32_length]
  have h := nbyte_limb s 31
  unfold B
  rw [e, bytes32_at s 0 (by decide)]
  show ((nbyte s 31 : Nat) : Int) = _
  rw [← h]
set_option maxRecDepth 100000 in
set_option maxHeartbeats 8000000 in
theorem SignBytes_long {r s : Nat} {l : List UInt8} {v : Value} (hl : 100 < l.length) (w : World) (hG : Glob 3 PP w) (hO : GlobP 2 0 0 true w) (hB : GlobPt 0 gPt w) (hN : Glob 1 NN w) (hv : IsVals w v (l.map VB)) : Calls Tryd.prog 7 #[.agg (wcells2 r s), v] w fun e w' => e = .returned (.bool true) ∧ Below w.heap.size w w' := by
  obtain ⟨n, HL⟩ : ∃ n, Hid ((l.map VB).length = n) := ⟨_, Lib.hid rfl⟩
  have hL : n = l.length := by rw [← HL.out, List.length_map]
  have F14 := Lib.hid (show decide ((n : Int) > 100) = true from decide_eq_true (by omega))
  clear hl hL
  have hM0 := mm_nil w
  (try unfold WV)
  go_enter Tryd.func7, Tryd.ntmps7
  go_wp2_with (first
    | ((with_reducible change wpList _ _ _ (Oper.mk (some 2) _ _ _ _ _ :: _) _ _); refine mmBox hM0 _ _ (wcells2 r s) rfl rfl rfl ?_; intro w1 hM1; clear hM0; go_frame)
    | (go_at_call 15; refine (signAlive_any _ (hG.below hM1.below) (hO.below hM1.below) (hB.below hM1.below) (hN.below hM1.below)).mono ?_; rintro e w2 ⟨rfl, hB2⟩; have hM2 := hM1.on hB2; clear hB2 hM1; (try unfold WV); go_frame)
    | ((with_reducible change wpList _ _ _ (Oper.mk (some 13) _ _ _ _ _ :: _) _ _); refine kLenN _ _ _ _ _ n rfl rfl rfl ((hv.below hM2.below)) HL.out Tryd.underlying42 ?_; go_frame)
    | ((with_reducible change wpList _ _ _ (Oper.mk (some 14) _ _ _ _ _ :: _) _ _); refine kGtrI _ _ _ _ .i64 _ _ true rfl rfl rfl rfl (F14.out) ?_; go_frame))
  go_ret
  exact ⟨rfl, hM2.below⟩
set_option maxRecDepth 100000 in
set_option maxHeartbeats 8000000 in
theorem SignBytes_other {r s : Nat} (mr : r < M256) (ms : s < M256) {l : List UInt8} {v : Value} (hl : l.length ≤ 100) (h64 : l.length ≠ 64) (w : World) (hG : Glob 3 PP w) (hO : GlobP 2 0 0 true w) (hB : GlobPt 0 gPt w) (hN : Glob 1 NN w) (hv : IsVals w v (l.map VB)) : Calls Tryd.prog 7 #[.agg (wcells2 r s), v] w fun e w' => e = .returned (.bool true) ∧ Below w.heap.size w w' := by
  obtain ⟨n, HL⟩ : ∃ n, Hid ((l.map VB).length = n) := ⟨_, Lib.hid rfl⟩
  have hL : n = l.length := by rw [← HL.out, List.length_map]
  have F14 := Lib.hid (show decide ((n : Int) > 100) = false from decide_eq_false (by omega))
  have HLs := Lib.hid (show ((sigB r s).map VB).length = 64 by rw [List.length_map, sigB_len])
  have hlen := Lib.hid (sigB_len r s)
  have Hta := Lib.hid (show numOf ((sigB r s).take 32) = r by rw [sigB_take, numOf_bytes r mr])
  have Htb := Lib.hid (show numOf ((sigB r s).drop 32) = s by rw [sigB_drop, numOf_bytes s ms])
  obtain ⟨c31, H31⟩ : ∃ c, Hid ((sigB r s).getD 31 0 = c) := ⟨_, Lib.hid rfl⟩
  obtain ⟨c32, H32⟩ : ∃ c, Hid ((sigB r s).getD 32 0 = c) := ⟨_, Lib.hid rfl⟩
  have F47 := Lib.hid (show (!decide (B c31 = ((limb r 0 % 256 : Nat) : Int))) = false by rw [← H31.out, low_byte, decide_eq_true rfl]; rfl)
  have F58 := Lib.hid (show (!decide (B c32 = (((limb s 3 / 72057594037927936) % 256 : Nat) : Int))) = false by rw [← H32.out, high_byte, decide_eq_true rfl]; rfl)
  have F62 := Lib.hid (show (!decide ((n : Int) = 64)) = true by rw [decide_eq_false (show ¬((n : Int) = 64) by omega)]; rfl)
  have H64 := Lib.hid h64
  clear hl hL h64
  have hM0 := mm_nil w
  (try unfold WV)
  go_enter Tryd.func7, Tryd.ntmps7
  go_wp2_with (first
    | ((with_reducible change wpList _ _ _ (Oper.mk (some 2) _ _ _ _ _ :: _) _ _); refine mmBox hM0 _ _ (wcells2 r s) rfl rfl rfl ?_; intro w1 hM1; clear hM0; go_frame)
    | (go_at_call 15; refine (signAlive_any _ (hG.below hM1.below) (hO.below hM1.below) (hB.below hM1.below) (hN.below hM1.below)).mono ?_; rintro e w2 ⟨rfl, hB2⟩; have hM2 := hM1.on hB2; clear hB2 hM1; (try unfold WV); go_frame)
    | ((with_reducible change wpList _ _ _ (Oper.mk (some 13) _ _ _ _ _ :: _) _ _); refine kLenN _ _ _ _ _ n rfl rfl rfl ((hv.below hM2.below)) HL.out Tryd.underlying42 ?_; go_frame)
    | ((with_reducible change wpList _ _ _ (Oper.mk (some 14) _ _ _ _ _ :: _) _ _); refine kGtrI _ _ _ _ .i64 _ _ false rfl rfl rfl rfl (F14.out) ?_; go_frame)
    | ((with_reducible change wpList _ _ _ (Oper.mk (some 15) _ _ _ _ _ :: _) _ _); refine kLoadRow _ _ _ _ _ _ rfl rfl rfl (hM2.get 0 rfl) Tryd.underlying35 rfl (info_SigC _ _) ?_; go_frame)
    | (go_at_call 22; (with_reducible change Calls _ _ #[Value.agg (wcells2 r s)] _ _); refine (sBytes_vals r s _).mono ?_; rintro e w3 ⟨x3, rfl, hN3, hB3⟩; have hM3 := hM2.on hB3; clear hB3 hM2; have hM4 := mm_nil w3; obtain ⟨ad5, cp5, hv5, hat5⟩ := vals_shape hN3 hlen.out (by decide); have h31 := H31.out ▸ hat5 31 (by decide); have h32 := H32.out ▸ hat5 32 (by decide); clear hat5; replace hv5 := Lib.hid hv5; go_frame)
    | (go_at_call 14; (with_reducible change Calls _ _ #[x3] _ _); refine (sParse_as hlen.out Hta.out Htb.out _ (hN3.below hM4.below)).mono ?_; rintro e w5 ⟨rfl, hB5⟩; have hM5 := hM4.on hB5; clear hB5 hM4; (try unfold WV); go_frame)
    | ((with_reducible change wpList _ _ _ (Oper.mk (some 6) _ _ _ _ _ :: _) _ _); refine mmAlloc hM5 _ _ rfl rfl zero_Sig ?_; intro w6 hM6; clear hM5; go_frame)
    | ((with_reducible change wpList _ _ _ (Oper.mk none (Op.store _ (Operand.tmp 6) (Operand.tmp 20)) _ _ _ _ :: _) _ _); refine mmStoreAt hM6 0 _ _ _ _ _ _ (wcells2 r s) rfl rfl rfl rfl rfl (info_SigC _ _) rfl (wcells2_one _ _) ?_; intro w7 hM7; dsimp only [List.set] at hM7; clear hM6; go_frame)
    | (go_at_call 14; (with_reducible change Calls _ _ #[v] _ _); refine (sParse_no H64.out _ ((hv.below hM3.below).below hM7.below)).mono ?_; rintro e w8 ⟨rfl, hB8⟩; have hM8 := hM7.on hB8; clear hB8 hM7; (try unfold WV); go_frame)
    | ((with_reducible change wpList _ _ _ (Oper.mk (some 8) _ _ _ _ _ :: _) _ _); refine mmAlloc hM8 _ _ rfl rfl zero_Sig ?_; intro w9 hM9; clear hM8; go_frame)
    | ((with_reducible change wpList _ _ _ (Oper.mk none (Op.store _ (Operand.tmp 8) (Operand.tmp 25)) _ _ _ _ :: _) _ _); refine mmStoreAt hM9 0 _ _ _ _ _ _ (wcells2 0 0) rfl rfl rfl rfl rfl (info_SigC _ _) rfl (wcells2_one _ _) ?_; intro w10 hM10; dsimp only [List.set] at hM10; clear hM9; go_frame))
  refine region_symT 33 _ [] [] [.val (x3), .val (.int .i64 ((64 : Int))), .val (.bool false), .val (.bool false), .val (.int .i64 (0)), .val (.bool false), .val (.bool false), .val (.bool false), .val (.agg (wcells2 r s)), .val (.agg (wcells2 r s)), .val (.bool false), .val (.bool false), .val (.bool false), .val (x3), .val (.pointer (some (ad5.add 31))), .val (.int .u8 (B c31)), .val (.pointer (some ⟨w.heap.size, 0, none⟩)), .val (.pointer (some ⟨w.heap.size, 0, none⟩)), .val (.int .u64 ((limb r 0 : Int))), .val (.int .u8 ((((limb r 0) % 256 : Nat) : Int))), .val (.bool false), .val (.bool false), .val (.bool false), .val (x3), .val (.pointer (some (ad5.add 32))), .val (.int .u8 (B c32)), .val (.pointer (some ⟨w.heap.size, 4, none⟩)), .val (.pointer (some ⟨w.heap.size, 7, none⟩)), .val (.int .u64 ((limb s 3 : Int))), .val (.int .u64 (((limb s 3 / 72057594037927936 : Nat) : Int))), .val (.int .u8 ((((limb s 3 / 72057594037927936) % 256 : Nat) : Int))), .val (.bool false), .val (.bool false)] rfl (by kernel_rfl) (by kernel_rfl) (by kernel_rfl) (by kernel_rfl) rfl (by intro s hs; cases hs) (steps_all ⟨?_, ?_, ?_, ?_, ?_, ?_, ?_, ?_, ?_, ?_, ?_, ?_, ?_, ?_, ?_, ?_, ?_, ?_, ?_, ?_, ?_, ?_, ?_, ?_, ?_, ?_, ?_, ?_, ?_, ?_, ?_, ?_, ?_, trivial⟩) ?_
  · exact fun A W sz ot hbel ap dp => kMoveV _ _ rfl rfl (sO ot 5) (sE ap sz rfl)
  · exact fun A W sz ot hbel ap dp => kLenN _ _ _ _ _ 64 rfl rfl (sD dp 0 .data) (((hN3.below hM10.below).below hbel)) HLs.out Tryd.underlying42 (sE ap sz rfl)
  · exact fun A W sz ot hbel ap dp => kNeqI _ _ _ _ .i64 ((64 : Int)) (64) false rfl rfl (sD dp 1 .data) rfl (by decide) (sE ap sz rfl)
  · exact fun A W sz ot hbel ap dp => kMoveV _ _ rfl rfl (sD dp 2 .data) (sE ap sz rfl)
  · exact fun A W sz ot hbel ap dp => kMoveV _ _ rfl (wanted_of rfl rfl (sD dp 3 .guard)) (sO ot 7) (sE ap sz rfl)
  · exact fun A W sz ot hbel ap dp => kNeqI _ _ _ _ .i64 (0) (0) false rfl (wanted_of rfl rfl (sD dp 3 .guard)) (sD dp 4 .data) rfl (by decide) (sE ap sz rfl)
  · exact fun A W sz ot hbel ap dp => kPick _ _ _ false (.bool false) rfl rfl (sD dp 3 .data) (sD dp 5 .data) (sE ap sz rfl)
  · exact fun A W sz ot hbel ap dp => kMoveV _ _ rfl rfl (sD dp 6 .data) (sE ap sz rfl)
  · exact fun A W sz ot hbel ap dp => kLoadRow _ _ _ _ _ _ rfl (wanted_of rfl rfl (sD dp 7 .guard)) (sO ot 6) ((hM10.get 1 rfl).on hbel) Tryd.underlying35 rfl (info_SigC _ _) (sE ap sz rfl)
  · exact fun A W sz ot hbel ap dp => kLoadRow _ _ _ _ _ _ rfl (wanted_of rfl rfl (sD dp 7 .guard)) (sO ot 2) (((hM3.get 0 rfl).on hM10.below).on hbel) Tryd.underlying35 rfl (info_SigC _ _) (sE ap sz rfl)
  · exact fun A W sz ot hbel ap dp => kNeqS _ _ _ r s r s false rfl (wanted_of rfl rfl (sD dp 7 .guard)) (sD dp 8 .data) (sD dp 9 .data) (neS_no ⟨rfl, rfl⟩) (sE ap sz rfl)
  · exact fun A W sz ot hbel ap dp => kPick _ _ _ false (.bool false) rfl rfl (sD dp 7 .data) (sD dp 10 .data) (sE ap sz rfl)
  · exact fun A W sz ot hbel ap dp => kMoveV _ _ rfl rfl (sD dp 11 .data) (sE ap sz rfl)
  · exact fun A W sz ot hbel ap dp => kMoveV _ _ rfl (wanted_of rfl rfl (sD dp 12 .guard)) (sO ot 5) (sE ap sz rfl)
  · exact fun A W sz ot hbel ap dp => kIndexAt _ _ _ ad5 64 cp5 31 hv5.out rfl (wanted_of rfl rfl (sD dp 12 .guard)) (sD dp 13 .data) rfl (by decide) (sE ap sz rfl)
  · exact fun A W sz ot hbel ap dp => kLoadCell _ _ _ (VB c31) _ rfl (wanted_of rfl rfl (sD dp 12 .guard)) (sD dp 14 .data) (((h31.below hM10.below).below hbel).out) Tryd.underlying5 rfl (sE ap sz rfl)
  · exact fun A W sz ot hbel ap dp => kFieldSig0 _ _ rfl (wanted_of rfl rfl (sD dp 12 .guard)) (sO ot 2) (sE ap sz rfl)
  · exact fun A W sz ot hbel ap dp => kIndexAddr _ _ _ _ _ _ 0 _ 0 _ 1 rfl (wanted_of rfl rfl (sD dp 12 .guard)) (sD dp 16 .data) rfl Tryd.underlying24 info_w64 rfl (by decide) (sE ap sz rfl)
  · exact fun A W sz ot hbel ap dp => kLoad1 _ _ _ _ _ _ (.int .u64 (limb r 0 : Int)) _ rfl (wanted_of rfl rfl (sD dp 12 .guard)) (sD dp 17 .data) (((hM3.get 0 rfl).on hM10.below).on hbel) Tryd.underlying22 rfl rfl (sE ap sz rfl)
  · exact fun A W sz ot hbel ap dp => kConv8 _ (limb r 0) rfl (wanted_of rfl rfl (sD dp 12 .guard)) (sD dp 18 .data) (sE ap sz rfl)
  · exact fun A W sz ot hbel ap dp => kNeqI _ _ _ _ .u8 (B c31) ((limb r 0 % 256 : Nat) : Int) false rfl (wanted_of rfl rfl (sD dp 12 .guard)) (sD dp 15 .data) (sD dp 19 .data) (F47.out) (sE ap sz rfl)
  · exact fun A W sz ot hbel ap dp => kPick _ _ _ false (.bool false) rfl rfl (sD dp 12 .data) (sD dp 20 .data) (sE ap sz rfl)
  · exact fun A W sz ot hbel ap dp => kMoveV _ _ rfl rfl (sD dp 21 .data) (sE ap sz rfl)
  · exact fun A W sz ot hbel ap dp => kMoveV _ _ rfl (wanted_of rfl rfl (sD dp 22 .guard)) (sO ot 5) (sE ap sz rfl)
  · exact fun A W sz ot hbel ap dp => kIndexAt _ _ _ ad5 64 cp5 32 hv5.out rfl (wanted_of rfl rfl (sD dp 22 .guard)) (sD dp 23 .data) rfl (by decide) (sE ap sz rfl)
  · exact fun A W sz ot hbel ap dp => kLoadCell _ _ _ (VB c32) _ rfl (wanted_of rfl rfl (sD dp 22 .guard)) (sD dp 24 .data) (((h32.below hM10.below).below hbel).out) Tryd.underlying5 rfl (sE ap sz rfl)
  · exact fun A W sz ot hbel ap dp => kFieldSig1 _ _ rfl (wanted_of rfl rfl (sD dp 22 .guard)) (sO ot 2) (sE ap sz rfl)
  · exact fun A W sz ot hbel ap dp => kIndexAddr _ _ _ _ _ _ 4 _ 3 _ 1 rfl (wanted_of rfl rfl (sD dp 22 .guard)) (sD dp 26 .data) rfl Tryd.underlying24 info_w64 rfl (by decide) (sE ap sz rfl)
  · exact fun A W sz ot hbel ap dp => kLoad1 _ _ _ _ _ _ (.int .u64 (limb s 3 : Int)) _ rfl (wanted_of rfl rfl (sD dp 22 .guard)) (sD dp 27 .data) (((hM3.get 0 rfl).on hM10.below).on hbel) Tryd.underlying22 rfl rfl (sE ap sz rfl)
  · exact fun A W sz ot hbel ap dp => kShr56 _ _ _ _ (limb s 3) rfl (wanted_of rfl rfl (sD dp 22 .guard)) (sD dp 28 .data) rfl (sE ap sz rfl)
  · exact fun A W sz ot hbel ap dp => kConv8 _ (limb s 3 / 72057594037927936) rfl (wanted_of rfl rfl (sD dp 22 .guard)) (sD dp 29 .data) (sE ap sz rfl)
  · exact fun A W sz ot hbel ap dp => kNeqI _ _ _ _ .u8 (B c32) (((limb s 3 / 72057594037927936) % 256 : Nat) : Int) false rfl (wanted_of rfl rfl (sD dp 22 .guard)) (sD dp 25 .data) (sD dp 30 .data) (F58.out) (sE ap sz rfl)
  · exact fun A W sz ot hbel ap dp => kPick _ _ _ false (.bool false) rfl rfl (sD dp 22 .data) (sD dp 31 .data) (sE ap sz rfl)
  intro w11 hB11
  dsimp only [AllV]
  intro hap
  dsimp only [putAll, List.take, List.drop]
  go_frame
  have hM11 := hM10.on hB11
  clear hB11 hM10 hap
  go_wp2_with (first
    | ((with_reducible change wpList _ _ _ (Oper.mk (some 61) _ _ _ _ _ :: _) _ _); refine kLenN _ _ _ _ _ n rfl rfl rfl (((hv.below hM3.below).below hM11.below)) HL.out Tryd.underlying42 ?_; go_frame)
    | ((with_reducible change wpList _ _ _ (Oper.mk (some 62) _ _ _ _ _ :: _) _ _); refine kNeqI _ _ _ _ .i64 ((n : Int)) (64) true rfl rfl rfl rfl (F62.out) ?_; go_frame)
    | ((with_reducible change wpList _ _ _ (Oper.mk (some 64) _ _ _ _ _ :: _) _ _); refine kEqlI _ _ _ _ .i64 (51) (51) true rfl rfl rfl rfl (by decide) ?_; go_frame)
    | ((with_reducible change wpList _ _ _ (Oper.mk (some 66) _ _ _ _ _ :: _) _ _); refine kLoadRow _ _ _ _ _ _ rfl rfl rfl (hM11.get 0 rfl) Tryd.underlying35 rfl (info_SigC _ _) ?_; go_frame)
    | ((with_reducible change wpList _ _ _ (Oper.mk (some 67) _ _ _ _ _ :: _) _ _); refine kBuildSig0 rfl rfl ?_; go_frame)
    | ((with_reducible change wpList _ _ _ (Oper.mk (some 68) _ _ _ _ _ :: _) _ _); refine kEqlS _ _ _ 0 0 0 0 true rfl rfl rfl rfl (eqS_yes ⟨rfl, rfl⟩) ?_; go_frame))
  go_ret
  exact ⟨rfl, ((hM3.below).trans (hM11.below.mono (hM3.below).size))⟩
set_option maxRecDepth 100000 in
set_option maxHeartbeats 8000000 in
theorem SignBytes_own {r s : Nat} (mr : r < M256) (ms : s < M256) {l : List UInt8} {v : Value} (h64 : l.length = 64) (w : World) (hG : Glob 3 PP w) (hO : GlobP 2 0 0 true w) (hB : GlobPt 0 gPt w) (hN : Glob 1 NN w) (hv : IsVals w v (l.map VB)) : Calls Tryd.prog 7 #[.agg (wcells2 r s), v] w fun e w' => e = .returned (.bool true) ∧ Below w.heap.size w w' := by
  obtain ⟨n, HL⟩ : ∃ n, Hid ((l.map VB).length = n) := ⟨_, Lib.hid rfl⟩
  have hL : n = l.length := by rw [← HL.out, List.length_map]
  have F14 := Lib.hid (show decide ((n : Int) > 100) = false from decide_eq_false (by omega))
  have HLs := Lib.hid (show ((sigB r s).map VB).length = 64 by rw [List.length_map, sigB_len])
  have hlen := Lib.hid (sigB_len r s)
  have Hta := Lib.hid (show numOf ((sigB r s).take 32) = r by rw [sigB_take, numOf_bytes r mr])
  have Htb := Lib.hid (show numOf ((sigB r s).drop 32) = s by rw [sigB_drop, numOf_bytes s ms])
  obtain ⟨c31, H31⟩ : ∃ c, Hid ((sigB r s).getD 31 0 = c) := ⟨_, Lib.hid rfl⟩
  obtain ⟨c32, H32⟩ : ∃ c, Hid ((sigB r s).getD 32 0 = c) := ⟨_, Lib.hid rfl⟩
  have F47 := Lib.hid (show (!decide (B c31 = ((limb r 0 % 256 : Nat) : Int))) = false by rw [← H31.out, low_byte, decide_eq_true rfl]; rfl)
  have F58 := Lib.hid (show (!decide (B c32 = (((limb s 3 / 72057594037927936) % 256 : Nat) : Int))) = false by rw [← H32.out, high_byte, decide_eq_true rfl]; rfl)
  have F62 := Lib.hid (show (!decide ((n : Int) = 64)) = false by rw [decide_eq_true (show (n : Int) = 64 by omega)]; rfl)
  have H64 := Lib.hid h64
  obtain ⟨xa, Hxa⟩ : ∃ x, Hid (numOf (l.take 32) = x) := ⟨_, Lib.hid rfl⟩
  obtain ⟨xb, Hxb⟩ : ∃ x, Hid (numOf (l.drop 32) = x) := ⟨_, Lib.hid rfl⟩
  have F78 := Lib.hid (show (sigB xa xb == l) = true by rw [← Hxa.out, ← Hxb.out, sigB_back h64]; simp)
  clear hL h64
  have hM0 := mm_nil w
  (try unfold WV)
  go_enter Tryd.func7, Tryd.ntmps7
  go_wp2_with (first
    | ((with_reducible change wpList _ _ _ (Oper.mk (some 2) _ _ _ _ _ :: _) _ _); refine mmBox hM0 _ _ (wcells2 r s) rfl rfl rfl ?_; intro w1 hM1; clear hM0; go_frame)
    | (go_at_call 15; refine (signAlive_any _ (hG.below hM1.below) (hO.below hM1.below) (hB.below hM1.below) (hN.below hM1.below)).mono ?_; rintro e w2 ⟨rfl, hB2⟩; have hM2 := hM1.on hB2; clear hB2 hM1; (try unfold WV); go_frame)
    | ((with_reducible change wpList _ _ _ (Oper.mk (some 13) _ _ _ _ _ :: _) _ _); refine kLenN _ _ _ _ _ n rfl rfl rfl ((hv.below hM2.below)) HL.out Tryd.underlying42 ?_; go_frame)
    | ((with_reducible change wpList _ _ _ (Oper.mk (some 14) _ _ _ _ _ :: _) _ _); refine kGtrI _ _ _ _ .i64 _ _ false rfl rfl rfl rfl (F14.out) ?_; go_frame)
    | ((with_reducible change wpList _ _ _ (Oper.mk (some 15) _ _ _ _ _ :: _) _ _); refine kLoadRow _ _ _ _ _ _ rfl rfl rfl (hM2.get 0 rfl) Tryd.underlying35 rfl (info_SigC _ _) ?_; go_frame)
    | (go_at_call 22; (with_reducible change Calls _ _ #[Value.agg (wcells2 r s)] _ _); refine (sBytes_vals r s _).mono ?_; rintro e w3 ⟨x3, rfl, hN3, hB3⟩; have hM3 := hM2.on hB3; clear hB3 hM2; have hM4 := mm_nil w3; obtain ⟨ad5, cp5, hv5, hat5⟩ := vals_shape hN3 hlen.out (by decide); have h31 := H31.out ▸ hat5 31 (by decide); have h32 := H32.out ▸ hat5 32 (by decide); clear hat5; replace hv5 := Lib.hid hv5; go_frame)
    | (go_at_call 14; (with_reducible change Calls _ _ #[x3] _ _); refine (sParse_as hlen.out Hta.out Htb.out _ (hN3.below hM4.below)).mono ?_; rintro e w5 ⟨rfl, hB5⟩; have hM5 := hM4.on hB5; clear hB5 hM4; (try unfold WV); go_frame)
    | ((with_reducible change wpList _ _ _ (Oper.mk (some 6) _ _ _ _ _ :: _) _ _); refine mmAlloc hM5 _ _ rfl rfl zero_Sig ?_; intro w6 hM6; clear hM5; go_frame)
    | ((with_reducible change wpList _ _ _ (Oper.mk none (Op.store _ (Operand.tmp 6) (Operand.tmp 20)) _ _ _ _ :: _) _ _); refine mmStoreAt hM6 0 _ _ _ _ _ _ (wcells2 r s) rfl rfl rfl rfl rfl (info_SigC _ _) rfl (wcells2_one _ _) ?_; intro w7 hM7; dsimp only [List.set] at hM7; clear hM6; go_frame)
    | (go_at_call 14; (with_reducible change Calls _ _ #[v] _ _); refine (sParse_as H64.out Hxa.out Hxb.out _ ((hv.below hM3.below).below hM7.below)).mono ?_; rintro e w8 ⟨rfl, hB8⟩; have hM8 := hM7.on hB8; clear hB8 hM7; (try unfold WV); go_frame)
    | ((with_reducible change wpList _ _ _ (Oper.mk (some 8) _ _ _ _ _ :: _) _ _); refine mmAlloc hM8 _ _ rfl rfl zero_Sig ?_; intro w9 hM9; clear hM8; go_frame)
    | ((with_reducible change wpList _ _ _ (Oper.mk none (Op.store _ (Operand.tmp 8) (Operand.tmp 25)) _ _ _ _ :: _) _ _); refine mmStoreAt hM9 0 _ _ _ _ _ _ (wcells2 xa xb) rfl rfl rfl rfl rfl (info_SigC _ _) rfl (wcells2_one _ _) ?_; intro w10 hM10; dsimp only [List.set] at hM10; clear hM9; go_frame))
  refine region_symT 33 _ [] [] [.val (x3), .val (.int .i64 ((64 : Int))), .val (.bool false), .val (.bool false), .val (.int .i64 (0)), .val (.bool false), .val (.bool false), .val (.bool false), .val (.agg (wcells2 r s)), .val (.agg (wcells2 r s)), .val (.bool false), .val (.bool false), .val (.bool false), .val (x3), .val (.pointer (some (ad5.add 31))), .val (.int .u8 (B c31)), .val (.pointer (some ⟨w.heap.size, 0, none⟩)), .val (.pointer (some ⟨w.heap.size, 0, none⟩)), .val (.int .u64 ((limb r 0 : Int))), .val (.int .u8 ((((limb r 0) % 256 : Nat) : Int))), .val (.bool false), .val (.bool false), .val (.bool false), .val (x3), .val (.pointer (some (ad5.add 32))), .val (.int .u8 (B c32)), .val (.pointer (some ⟨w.heap.size, 4, none⟩)), .val (.pointer (some ⟨w.heap.size, 7, none⟩)), .val (.int .u64 ((limb s 3 : Int))), .val (.int .u64 (((limb s 3 / 72057594037927936 : Nat) : Int))), .val (.int .u8 ((((limb s 3 / 72057594037927936) % 256 : Nat) : Int))), .val (.bool false), .val (.bool false)] rfl (by kernel_rfl) (by kernel_rfl) (by kernel_rfl) (by kernel_rfl) rfl (by intro s hs; cases hs) (steps_all ⟨?_, ?_, ?_, ?_, ?_, ?_, ?_, ?_, ?_, ?_, ?_, ?_, ?_, ?_, ?_, ?_, ?_, ?_, ?_, ?_, ?_, ?_, ?_, ?_, ?_, ?_, ?_, ?_, ?_, ?_, ?_, ?_, ?_, trivial⟩) ?_
  · exact fun A W sz ot hbel ap dp => kMoveV _ _ rfl rfl (sO ot 5) (sE ap sz rfl)
  · exact fun A W sz ot hbel ap dp => kLenN _ _ _ _ _ 64 rfl rfl (sD dp 0 .data) (((hN3.below hM10.below).below hbel)) HLs.out Tryd.underlying42 (sE ap sz rfl)
  · exact fun A W sz ot hbel ap dp => kNeqI _ _ _ _ .i64 ((64 : Int)) (64) false rfl rfl (sD dp 1 .data) rfl (by decide) (sE ap sz rfl)
  · exact fun A W sz ot hbel ap dp => kMoveV _ _ rfl rfl (sD dp 2 .data) (sE ap sz rfl)
  · exact fun A W sz ot hbel ap dp => kMoveV _ _ rfl (wanted_of rfl rfl (sD dp 3 .guard)) (sO ot 7) (sE ap sz rfl)
  · exact fun A W sz ot hbel ap dp => kNeqI _ _ _ _ .i64 (0) (0) false rfl (wanted_of rfl rfl (sD dp 3 .guard)) (sD dp 4 .data) rfl (by decide) (sE ap sz rfl)
  · exact fun A W sz ot hbel ap dp => kPick _ _ _ false (.bool false) rfl rfl (sD dp 3 .data) (sD dp 5 .data) (sE ap sz rfl)
  · exact fun A W sz ot hbel ap dp => kMoveV _ _ rfl rfl (sD dp 6 .data) (sE ap sz rfl)
  · exact fun A W sz ot hbel ap dp => kLoadRow _ _ _ _ _ _ rfl (wanted_of rfl rfl (sD dp 7 .guard)) (sO ot 6) ((hM10.get 1 rfl).on hbel) Tryd.underlying35 rfl (info_SigC _ _) (sE ap sz rfl)
  · exact fun A W sz ot hbel ap dp => kLoadRow _ _ _ _ _ _ rfl (wanted_of rfl rfl (sD dp 7 .guard)) (sO ot 2) (((hM3.get 0 rfl).on hM10.below).on hbel) Tryd.underlying35 rfl (info_SigC _ _) (sE ap sz rfl)
  · exact fun A W sz ot hbel ap dp => kNeqS _ _ _ r s r s false rfl (wanted_of rfl rfl (sD dp 7 .guard)) (sD dp 8 .data) (sD dp 9 .data) (neS_no ⟨rfl, rfl⟩) (sE ap sz rfl)
  · exact fun A W sz ot hbel ap dp => kPick _ _ _ false (.bool false) rfl rfl (sD dp 7 .data) (sD dp 10 .data) (sE ap sz rfl)
  · exact fun A W sz ot hbel ap dp => kMoveV _ _ rfl rfl (sD dp 11 .data) (sE ap sz rfl)
  · exact fun A W sz ot hbel ap dp => kMoveV _ _ rfl (wanted_of rfl rfl (sD dp 12 .guard)) (sO ot 5) (sE ap sz rfl)
  · exact fun A W sz ot hbel ap dp => kIndexAt _ _ _ ad5 64 cp5 31 hv5.out rfl (wanted_of rfl rfl (sD dp 12 .guard)) (sD dp 13 .data) rfl (by decide) (sE ap sz rfl)
  · exact fun A W sz ot hbel ap dp => kLoadCell _ _ _ (VB c31) _ rfl (wanted_of rfl rfl (sD dp 12 .guard)) (sD dp 14 .data) (((h31.below hM10.below).below hbel).out) Tryd.underlying5 rfl (sE ap sz rfl)
  · exact fun A W sz ot hbel ap dp => kFieldSig0 _ _ rfl (wanted_of rfl rfl (sD dp 12 .guard)) (sO ot 2) (sE ap sz rfl)
  · exact fun A W sz ot hbel ap dp => kIndexAddr _ _ _ _ _ _ 0 _ 0 _ 1 rfl (wanted_of rfl rfl (sD dp 12 .guard)) (sD dp 16 .data) rfl Tryd.underlying24 info_w64 rfl (by decide) (sE ap sz rfl)
  · exact fun A W sz ot hbel ap dp => kLoad1 _ _ _ _ _ _ (.int .u64 (limb r 0 : Int)) _ rfl (wanted_of rfl rfl (sD dp 12 .guard)) (sD dp 17 .data) (((hM3.get 0 rfl).on hM10.below).on hbel) Tryd.underlying22 rfl rfl (sE ap sz rfl)
  · exact fun A W sz ot hbel ap dp => kConv8 _ (limb r 0) rfl (wanted_of rfl rfl (sD dp 12 .guard)) (sD dp 18 .data) (sE ap sz rfl)
  · exact fun A W sz ot hbel ap dp => kNeqI _ _ _ _ .u8 (B c31) ((limb r 0 % 256 : Nat) : Int) false rfl (wanted_of rfl rfl (sD dp 12 .guard)) (sD dp 15 .data) (sD dp 19 .data) (F47.out) (sE ap sz rfl)
  · exact fun A W sz ot hbel ap dp => kPick _ _ _ false (.bool false) rfl rfl (sD dp 12 .data) (sD dp 20 .data) (sE ap sz rfl)
  · exact fun A W sz ot hbel ap dp => kMoveV _ _ rfl rfl (sD dp 21 .data) (sE ap sz rfl)
  · exact fun A W sz ot hbel ap dp => kMoveV _ _ rfl (wanted_of rfl rfl (sD dp 22 .guard)) (sO ot 5) (sE ap sz rfl)
  · exact fun A W sz ot hbel ap dp => kIndexAt _ _ _ ad5 64 cp5 32 hv5.out rfl (wanted_of rfl rfl (sD dp 22 .guard)) (sD dp 23 .data) rfl (by decide) (sE ap sz rfl)
  · exact fun A W sz ot hbel ap dp => kLoadCell _ _ _ (VB c32) _ rfl (wanted_of rfl rfl (sD dp 22 .guard)) (sD dp 24 .data) (((h32.below hM10.below).below hbel).out) Tryd.underlying5 rfl (sE ap sz rfl)
  · exact fun A W sz ot hbel ap dp => kFieldSig1 _ _ rfl (wanted_of rfl rfl (sD dp 22 .guard)) (sO ot 2) (sE ap sz rfl)
  · exact fun A W sz ot hbel ap dp => kIndexAddr _ _ _ _ _ _ 4 _ 3 _ 1 rfl (wanted_of rfl rfl (sD dp 22 .guard)) (sD dp 26 .data) rfl Tryd.underlying24 info_w64 rfl (by decide) (sE ap sz rfl)
  · exact fun A W sz ot hbel ap dp => kLoad1 _ _ _ _ _ _ (.int .u64 (limb s 3 : Int)) _ rfl (wanted_of rfl rfl (sD dp 22 .guard)) (sD dp 27 .data) (((hM3.get 0 rfl).on hM10.below).on hbel) Tryd.underlying22 rfl rfl (sE ap sz rfl)
  · exact fun A W sz ot hbel ap dp => kShr56 _ _ _ _ (limb s 3) rfl (wanted_of rfl rfl (sD dp 22 .guard)) (sD dp 28 .data) rfl (sE ap sz rfl)
  · exact fun A W sz ot hbel ap dp => kConv8 _ (limb s 3 / 72057594037927936) rfl (wanted_of rfl rfl (sD dp 22 .guard)) (sD dp 29 .data) (sE ap sz rfl)
  · exact fun A W sz ot hbel ap dp => kNeqI _ _ _ _ .u8 (B c32) (((limb s 3 / 72057594037927936) % 256 : Nat) : Int) false rfl (wanted_of rfl rfl (sD dp 22 .guard)) (sD dp 25 .data) (sD dp 30 .data) (F58.out) (sE ap sz rfl)
  · exact fun A W sz ot hbel ap dp => kPick _ _ _ false (.bool false) rfl rfl (sD dp 22 .data) (sD dp 31 .data) (sE ap sz rfl)
  intro w11 hB11
  dsimp only [AllV]
  intro hap
  dsimp only [putAll, List.take, List.drop]
  go_frame
  have hM11 := hM10.on hB11
  clear hB11 hM10 hap
  go_wp2_with (first
    | ((with_reducible change wpList _ _ _ (Oper.mk (some 61) _ _ _ _ _ :: _) _ _); refine kLenN _ _ _ _ _ n rfl rfl rfl (((hv.below hM3.below).below hM11.below)) HL.out Tryd.underlying42 ?_; go_frame)
    | ((with_reducible change wpList _ _ _ (Oper.mk (some 62) _ _ _ _ _ :: _) _ _); refine kNeqI _ _ _ _ .i64 ((n : Int)) (64) false rfl rfl rfl rfl (F62.out) ?_; go_frame))
  refine region_symT 11 _ [] [] [.val (.int .i64 (0)), .val (.bool true), .val (.bool true), .val (.agg (wcells2 xa xb)), .prop (fun w v => IsVals w v ((sigB xa xb).map VB)) (fun _ _ _ hb h => h.below hb), .val (textV (sigB xa xb)), .val (v), .val (textV (l)), .val (.bool true), .val (.bool true), .val (.bool true)] rfl (by kernel_rfl) (by kernel_rfl) (by kernel_rfl) (by kernel_rfl) rfl (by intro s hs; cases hs) (steps_all ⟨?_, ?_, ?_, ?_, ?_, ?_, ?_, ?_, ?_, ?_, ?_, trivial⟩) ?_
  · exact fun A W sz ot hbel ap dp => kMoveV _ _ rfl rfl (sO ot 9) (sE ap sz rfl)
  · exact fun A W sz ot hbel ap dp => kEqlI _ _ _ _ .i64 (0) (0) true rfl rfl (sD dp 0 .data) rfl (by decide) (sE ap sz rfl)
  · exact fun A W sz ot hbel ap dp => kMoveV _ _ rfl rfl (sD dp 1 .data) (sE ap sz rfl)
  · exact fun A W sz ot hbel ap dp => kLoadRow _ _ _ _ _ _ rfl (wanted_of rfl rfl (sD dp 2 .guard)) (sO ot 8) ((hM11.get 0 rfl).on hbel) Tryd.underlying35 rfl (info_SigC _ _) (sE ap sz rfl)
  · intro A W sz ot hbel ap dp
    refine kCall1 22 _ _ _ rfl (wanted_of rfl rfl (sD dp 2 .chain)) (by kernel_rfl) (sD dp 3 .data) ?_
    refine (sBytes_vals xa xb W).mono ?_
    rintro e r ⟨xx, rfl, hNx, hBc⟩
    exact ⟨_, rfl, (sV ap sz hBc hNx)⟩
  · intro A W sz ot hbel ap dp
    have hS74 := (show IsVals W (A.tmps.getD 74 undef) ((sigB xa xb).map VB) from (sD dp 4 .data))
    exact kToString _ _ _ _ (A.tmps.getD 74 undef) (sigB xa xb) rfl (wanted_of rfl rfl (sD dp 2 .guard)) rfl hS74 Tryd.underlying42 Tryd.underlying5 Tryd.underlying9 (sE ap sz rfl)
  · exact fun A W sz ot hbel ap dp => kMoveV _ _ rfl (wanted_of rfl rfl (sD dp 2 .guard)) (sO ot 1) (sE ap sz rfl)
  · exact fun A W sz ot hbel ap dp => kToString _ _ _ _ _ (l) rfl (wanted_of rfl rfl (sD dp 2 .guard)) (sD dp 6 .data) ((((hv.below hM3.below).below hM11.below).below hbel)) Tryd.underlying42 Tryd.underlying5 Tryd.underlying9 (sE ap sz rfl)
  · exact fun A W sz ot hbel ap dp => kEqlStr _ _ _ _ (sigB xa xb) (l) true rfl (wanted_of rfl rfl (sD dp 2 .guard)) (sD dp 5 .data) (sD dp 7 .data) (F78.out) (sE ap sz rfl)
  · exact fun A W sz ot hbel ap dp => kPick _ _ _ true (.bool true) rfl rfl (sD dp 2 .data) (sD dp 8 .data) (sE ap sz rfl)
  · exact fun A W sz ot hbel ap dp => kAssignV _ _ rfl rfl (sD dp 9 .data) (sE ap sz rfl)
  intro w12 hB12
  dsimp only [AllV]
  intro x12_74 hN12_74
  intro hap
  dsimp only [putAll, List.take, List.drop]
  go_frame
  have hM12 := hM11.on hB12
  clear hB12 hM11 hap
  have hM13 := mm_nil w12
  go_wp2_with fail
  go_ret
  exact ⟨rfl, ((((hM3.below).trans (hM12.below.mono (hM3.below).size))).trans (hM13.below.mono (((hM3.below).trans (hM12.below.mono (hM3.below).size))).size))⟩
theorem SignBytes_any {r s : Nat} (mr : r < M256) (ms : s < M256) {l : List UInt8} {v : Value} (w : World) (hG : Glob 3 PP w) (hO : GlobP 2 0 0 true w) (hB : GlobPt 0 gPt w) (hN : Glob 1 NN w) (hv : IsVals w v (l.map VB)) : Calls Tryd.prog 7 #[.agg (wcells2 r s), v] w fun e w' => e = .returned (.bool true) ∧ Below w.heap.size w w' := by
  by_cases hl : 100 < l.length
  · exact SignBytes_long hl w hG hO hB hN hv
  · have hl : l.length ≤ 100 := by omega
    by_cases h64 : l.length = 64
    · exact SignBytes_own mr ms h64 w hG hO hB hN hv
    · exact SignBytes_other mr ms hl h64 w hG hO hB hN hv
end Go.Proofs.YtfgffjmpjoipeaaDoor
