/-
  The walks of the reference's hex (a text of digits to sixteen as a number) and Prime.
-/
import Derived.Test.YtajpdmcbdekpbaaDoorFRef3
import Derived.Test.YtajpdmcbdekpbaaDoorFieldPlain
import Derived.Laws.Strings2
import Derived.Laws.Slices
namespace Go.Proofs.YtajpdmcbdekpbaaDoor
open Go Go.RowKit

/-! ### plain -/
/-- a letter's number: a digit to sixteen -/
def hxv (c : UInt8) : Nat := if 65 ≤ c.toNat then c.toNat - 55 else c.toNat - 48
def isHex (c : UInt8) : Bool := (decide (48 ≤ c.toNat) && decide (c.toNat < 58)) || (decide (65 ≤ c.toNat) && decide (c.toNat < 71))
theorem hxv_lt {c : UInt8} (h : isHex c = true) : hxv c < 16 := by
  unfold hxv; simp [isHex] at h; split <;> omega
/-- the number of these letters -/
def hxN (l : List UInt8) : Nat := l.foldl (fun n c => 16 * n + hxv c) 0
theorem hxN_snoc (l : List UInt8) (c : UInt8) : hxN (l ++ [c]) = 16 * hxN l + hxv c := by simp [hxN, List.foldl_append]
theorem hxN_take (f : List UInt8) (k : Nat) (hk : k < f.length) : hxN (f.take (k + 1)) = 16 * hxN (f.take k) + hxv (at8 f k) := by
  rw [List.take_succ_eq_append_getElem hk, hxN_snoc]; simp [at8, hk]
theorem hxN_lt (f : List UInt8) (h : ∀ c ∈ f, isHex c = true) : ∀ k, k ≤ f.length → hxN (f.take k) < 16 ^ k
  | 0, _ => by simp [hxN]
  | k + 1, hk => by
    have ih := hxN_lt f h k (by omega)
    have hc : hxv (at8 f k) < 16 := hxv_lt (h _ (by simp [at8, show k < f.length by omega]))
    rw [hxN_take f k (by omega), Nat.pow_succ]; omega
/-- the digit of the p-th four letters -/
def hxD (s : List UInt8) (p : Nat) : Nat := hxN ((s.drop (4 * p)).take 4)
theorem hxD_lt (s : List UInt8) (h : ∀ c ∈ s, isHex c = true) (p : Nat) (hp : 4 * p + 4 ≤ s.length) : hxD s p < 65536 := by
  have := hxN_lt ((s.drop (4 * p)).take 4) (fun c hc => h c (List.mem_of_mem_drop (List.mem_of_mem_take hc))) 4 (by simp; omega)
  rwa [List.take_of_length_le (l := List.take 4 (List.drop (4 * p) s)) (by simp; omega)] at this
/-- the digits, the last four letters first -/
def hxL (s : List UInt8) (Q r : Nat) : List Nat := (List.range r).map fun t => hxD s (Q - 1 - t)
theorem hxL_len (s : List UInt8) (Q r : Nat) : (hxL s Q r).length = r := by simp [hxL]
theorem hxL_succ (s : List UInt8) (Q r : Nat) : hxL s Q (r + 1) = hxL s Q r ++ [hxD s (Q - 1 - r)] := by simp [hxL, List.range_succ]

theorem info_byteF : (Tryd.prog.info? 5).map (·.size) = some 1 := by kernel_rfl
theorem kSliceStr {P : Program} {ops : Array Oper} {Q : Exit → Act → World → Prop} {rest : List Oper} {o : Oper} {a : Act} {w : World} (T : TypeId) (x y z : Operand) (k k' : IntKind) (l : List UInt8) (i j : Int) (p q : Nat) (ho : o.op = .slice T x (some y) (some z) none) (hg : Region.wanted o (yielded ops a.tmps) = true) (hx : a.eval x = textV l) (hy : a.eval y = .int k i) (hz : a.eval z = .int k' j) (hu : P.underlying T = some .string) (hi : i = (p : Int)) (hj : j = (q : Int)) (hpq : p ≤ q) (hq : q ≤ l.length)
    (h : wpList P ops Q rest (a.put o.dst (textV ((l.drop p).take (q - p)))) w) : wpList P ops Q (o :: rest) a w := by
  subst hi; subst hj
  refine kPure _ hg ?_ h
  unfold execOp
  have hs : (⟨l.toArray⟩ : ByteArray).size = l.length := by simp [ByteArray.size]
  have e := run_slice_string (P := P) w T ⟨l.toArray⟩ k k' (p : Int) (q : Int) hu (by omega) (by omega) (by rw [hs]; omega)
  simp only [ho, hx, hy, hz, textV, Option.map_some, Option.map_none, Sem.run_bind, run_sliceAt_string (P := P) w T _ _ _ _ hu, e, Result.andThen_ok, Sem.run_pure]
  rw [Int.toNat_natCast, Int.toNat_natCast, ByteArray.extract_mk]

set_option maxRecDepth 100000 in
set_option maxHeartbeats 8000000 in
theorem rhex_any (s : List UInt8) (Q : Nat) (hs : s.length = 4 * Q) (hQ : Q ≤ 16) (hh : ∀ c ∈ s, isHex c = true) (w : World) :
    Calls Tryd.prog 39 #[textV s] w (DigPost w (hxL s Q Q)) := by
  obtain ⟨ix, hix, hzx, hsx, hbx⟩ := w64Info
  go_enter Tryd.func39, Tryd.ntmps39
  go_wp2_with (first
    | ((with_reducible change wpList _ _ _ (Oper.mk (some 9) _ _ _ _ _ :: _) _ _); refine kBuildSlice0 _ _ rfl rfl Tryd.underlying35 ix hix ?_; intro w2 hR2 hz2 hB2; clear hz2; have hO2 := own_empty (base := w.heap.size) (Nat.le_refl _) hR2; go_frame)
    | ((with_reducible change wpList _ _ _ (Oper.mk (some 11) _ _ _ _ _ :: _) _ _); refine kLenStr _ _ s rfl rfl rfl Tryd.underlying9 ?_; go_frame))
  clear hR2
  go_loopw [4, 3] (fun i v wr => ∃ q : Nat, q ≤ Q ∧ i = .int .i64 ((4 * q : Nat) : Int) ∧ OwnD wr w.heap.size v (hxL s Q (Q - q)) ∧ Below w.heap.size w wr) (fun i _ _ => (intOf i).toNat)
  case atStart => exact ⟨Q, by omega, by rw [← hs], by rw [Nat.sub_self]; exact hO2, hB2⟩
  case round =>
    obtain ⟨q, hq, rfl, hO, hB⟩ := hrel
    clear hO2 hB2
    have hszq := hB.size
    by_cases h0 : q = 0
    · subst h0
      go_wp2
      go_ret
      exact ⟨_, rfl, hO.dig, hB⟩
    · obtain ⟨p, rfl⟩ : ∃ p, q = p + 1 := ⟨q - 1, by omega⟩
      obtain ⟨f, Hf⟩ : ∃ f, Hid (f = (s.drop (4 * p)).take 4) := ⟨_, Lib.hid rfl⟩
      have hfl : f.length = 4 := by rw [Hf.out]; simp; omega
      have hfm : (f.map VB).length = 4 := by simpa using hfl
      have hfh : ∀ c ∈ f, isHex c = true := fun c hc => hh c (by rw [Hf.out] at hc; exact List.mem_of_mem_drop (List.mem_of_mem_take hc))
      go_wp2_with (first
        | ((with_reducible change wpList _ _ _ (Oper.mk (some 13) _ _ _ _ _ :: _) _ _); refine kGtrI _ _ _ _ .i64 _ _ true rfl rfl rfl rfl (decide_eq_true (by omega)) ?_; go_frame)
        | ((with_reducible change wpList _ _ _ (Oper.mk (some 20) _ _ _ _ _ :: _) _ _); refine kSliceStr _ _ _ _ _ _ s _ _ (4 * p) (4 * p + 4) rfl rfl rfl rfl rfl Tryd.underlying9 (by omega) (by omega) (by omega) (by omega) ?_; rw [show 4 * p + 4 - 4 * p = 4 by omega, ← Hf.out]; go_frame)
        | ((with_reducible change wpList _ _ _ (Oper.mk (some 21) _ _ _ _ _ :: _) _ _); refine kToBytes _ _ _ _ f rfl rfl rfl Tryd.underlying9 Tryd.underlying67 Tryd.underlying5 ?_; intro vb w5 hB5 hvb; go_frame)
        | ((with_reducible change wpList _ _ _ (Oper.mk (some 22) _ _ _ _ _ :: _) _ _); refine kLenN _ _ _ _ _ 4 rfl rfl rfl hvb hfm Tryd.underlying67 ?_; go_frame))
      obtain ⟨wo, hwo⟩ : ∃ wo : World, wo = wr := ⟨_, rfl⟩
      subst hwo
      go_loopw [23, 5] (fun jj nn wq => ∃ k : Nat, k ≤ 4 ∧ jj = .int .i64 (k : Int) ∧ nn = .int .u64 ((hxN (f.take k) : Nat) : Int) ∧ wq = w5) (fun jj _ _ => 4 - (intOf jj).toNat)
      case atStart => exact ⟨0, by omega, rfl, rfl, rfl⟩
      case round =>
        obtain ⟨k, hk, rfl, rfl, rfl⟩ := hrel
        by_cases hlt : k < 4
        · have hd : decide ((k : Int) < 4) = true := decide_eq_true (by omega)
          have hc := hfh (at8 f k) (by simp [at8, show k < f.length by omega])
          have Hn := Lib.hid (hxN_take f k (by omega))
          have hn : hxN (f.take k) < 65536 := Nat.lt_of_lt_of_le (hxN_lt f hfh k (by omega)) (by have : (16 : Nat) ^ k ≤ 16 ^ 4 := Nat.pow_le_pow_right (by decide) (by omega)
                                                                                                 exact this)
          generalize hxN (f.take k) = n at *
          have hat : (f.map VB)[k]? = some (VB (at8 f k)) := by simp [at8, show k < f.length by omega]
          have hvc : VB (at8 f k) = .int .u8 ((at8 f k).toNat : Int) := rfl
          rw [hvc] at hat
          have Hv : hxv (at8 f k) = if 65 ≤ (at8 f k).toNat then (at8 f k).toNat - 55 else (at8 f k).toNat - 48 := rfl
          replace Hv := Lib.hid Hv
          simp [isHex] at hc
          generalize (at8 f k).toNat = z at *
          by_cases h65 : 65 ≤ z
          · have hd2 : decide ((z : Int) ≥ 65) = true := decide_eq_true (by omega)
            have HE := Lib.hid (show 16 * n + hxv (at8 f k) = 16 * n + (z - 65 + 10) by rw [Hv.out, if_pos h65]; omega)
            go_wp2_with (first
              | ((with_reducible change wpList _ _ _ (Oper.mk (some 25) _ _ _ _ _ :: _) _ _); refine kIndexAddrV _ _ _ _ _ _ _ _ k _ rfl rfl rfl hvb rfl Tryd.underlying67 info_byteF rfl hat ?_; intro ba hba; go_frame)
              | ((with_reducible change wpList _ _ _ (Oper.mk (some 26) _ _ _ _ _ :: _) _ _); refine kLoadCell _ _ _ _ _ rfl rfl rfl hba Tryd.underlying5 rfl ?_; go_frame))
            go_roundw
            case rel => exact ⟨k + 1, by omega, by go_num, by rw [Hn.out, HE.out]; congr 1; omega, by first | rfl | trivial⟩
            case measure => simp [intOf]; omega
          · have hd2 : decide ((z : Int) ≥ 65) = false := decide_eq_false (by omega)
            have HE := Lib.hid (show 16 * n + hxv (at8 f k) = 16 * n + (z - 48) by rw [Hv.out, if_neg h65])
            go_wp2_with (first
              | ((with_reducible change wpList _ _ _ (Oper.mk (some 25) _ _ _ _ _ :: _) _ _); refine kIndexAddrV _ _ _ _ _ _ _ _ k _ rfl rfl rfl hvb rfl Tryd.underlying67 info_byteF rfl hat ?_; intro ba hba; go_frame)
              | ((with_reducible change wpList _ _ _ (Oper.mk (some 26) _ _ _ _ _ :: _) _ _); refine kLoadCell _ _ _ _ _ rfl rfl rfl hba Tryd.underlying5 rfl ?_; go_frame))
            go_roundw
            case rel => exact ⟨k + 1, by omega, by go_num, by rw [Hn.out, HE.out]; congr 1; omega, by first | rfl | trivial⟩
            case measure => simp [intOf]; omega
        · obtain rfl : k = 4 := by omega
          have HD := Lib.hid (show hxN (f.take 4) = hxD s p by rw [List.take_of_length_le (by omega), Hf.out]; rfl)
          rw [HD.out]
          have hlq : ((hxL s Q (Q - (p + 1))).map VU).length = Q - (p + 1) := by rw [List.length_map, hxL_len]
          have hOq := ownsRow_below hO hB5
          have hs5 := hB5.size
          go_wp2_with (first
            | ((with_reducible change wpList _ _ _ (Oper.mk (some 43) _ _ _ _ _ :: _) _ _); refine kBuildSlice1 _ _ _ (VU (hxD s p)) rfl rfl Tryd.underlying35 ix _ hix hzx hsx rfl rfl ?_; intro w6 hR6 hz6 hB6; clear hz6; go_frame)
            | ((with_reducible change wpList _ _ _ (Oper.mk (some 44) _ _ _ _ _ :: _) _ _); refine kAppend _ _ _ _ rfl rfl w.heap.size ix _ Tryd.underlying35 hix hzx hsx rfl _ _ _ [VU (hxD s p)] rfl (ownsRow_below hOq hB6) rfl (isVals_lit hR6) (vu_one [_]) (by unfold maxLen; rw [hlq]; simp; omega) (by rw [hbx, hlq]; simp; omega) (by have := hB6.size; omega) ?_; intro v7 w7 hO7 hG7; have hB7 := ((hB.trans (hB5.mono hszq)).trans (hB6.mono (by omega))).trans (below_grown (ownsRow_below hOq hB6) hG7 (by have := hB6.size; omega)); clear hR6 hB6 hG7; go_frame))
          go_roundw
          case rel =>
            refine ⟨p, by omega, by congr 1; omega, ?_, hB7⟩
            rw [show Q - p = Q - (p + 1) + 1 by omega, hxL_succ, show Q - 1 - (Q - (p + 1)) = p by omega]
            unfold OwnD
            rw [List.map_append (l₂ := [_])]
            exact hO7
          case measure => simp [intOf]; omega
def pText : List UInt8 := [70, 70, 70, 70, 70, 70, 70, 70, 70, 70, 70, 70, 70, 70, 70, 70, 70, 70, 70, 70, 70, 70, 70, 70, 70, 70, 70, 70, 70, 70, 70, 70, 70, 70, 70, 70, 70, 70, 70, 70, 70, 70, 70, 70, 70, 70, 70, 70, 70, 70, 70, 70, 70, 70, 70, 69, 70, 70, 70, 70, 70, 67, 50, 70]
def nText : List UInt8 := [70, 70, 70, 70, 70, 70, 70, 70, 70, 70, 70, 70, 70, 70, 70, 70, 70, 70, 70, 70, 70, 70, 70, 70, 70, 70, 70, 70, 70, 70, 70, 69, 66, 65, 65, 69, 68, 67, 69, 54, 65, 70, 52, 56, 65, 48, 51, 66, 66, 70, 68, 50, 53, 69, 56, 67, 68, 48, 51, 54, 52, 49, 52, 49]
theorem pText_val : dval (hxL pText 16 16) = PP := by decide +kernel
theorem nText_val : dval (hxL nText 16 16) = NN := by decide +kernel
theorem hxL_digs (s : List UInt8) (Q r : Nat) (hs : s.length = 4 * Q) (hr : r ≤ Q) (h : ∀ c ∈ s, isHex c = true) : Digs (hxL s Q r) := fun x hx => by
  simp [hxL] at hx; obtain ⟨t, ht, rfl⟩ := hx; exact hxD_lt s h _ (by omega)
theorem rhex_num (s : List UInt8) (m : Nat) (hs : s.length = 64) (hh : ∀ c ∈ s, isHex c = true) (hv : dval (hxL s 16 16) = m) (w : World) :
    Calls Tryd.prog 39 #[textV s] w (NumPost w m 16) :=
  (rhex_any s 16 hs (by decide) hh w).mono fun _ _ ⟨v, e1, e2, e3⟩ => ⟨v, e1, ⟨_, hxL_digs s 16 16 hs (Nat.le_refl _) hh, e2, hv, by rw [hxL_len]; exact Nat.le_refl _⟩, e3⟩
set_option maxRecDepth 100000 in
set_option maxHeartbeats 2000000 in
theorem rPrime_true : PrimeIs true PP := fun w => by
  go_enter Tryd.func18, Tryd.ntmps18
  go_wp2_with (first
    | (go_at_call 39; refine (rhex_num pText PP (by decide) (by decide) pText_val _).mono ?_; rintro e w1 ⟨v1, rfl, N1, hB1⟩; go_frame))
  go_ret
  exact ⟨_, rfl, N1, hB1⟩
set_option maxRecDepth 100000 in
set_option maxHeartbeats 2000000 in
theorem rPrime_false : PrimeIs false NN := fun w => by
  go_enter Tryd.func18, Tryd.ntmps18
  go_wp2_with (first
    | (go_at_call 39; refine (rhex_num nText NN (by decide) (by decide) nText_val _).mono ?_; rintro e w1 ⟨v1, rfl, N1, hB1⟩; go_frame))
  go_ret
  exact ⟨_, rfl, N1, hB1⟩
end Go.Proofs.YtajpdmcbdekpbaaDoor
