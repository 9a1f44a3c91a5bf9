/-
  The walk of the reference's Sum, joined of its loops.
-/
import Derived.Test.YtnaclalbeocpkaaDoorRefL6
import Derived.Test.YtnaclalbeocpkaaDoorRefL10
import Derived.Test.YtnaclalbeocpkaaDoorRefL12
namespace Go.Proofs.YtnaclalbeocpkaaDoor
open Go Go.RowKit
theorem info_arr8u64 : (Tryd.prog.info? 76).map (·.size) = some 8 := by kernel_rfl
theorem zero_arr8u64 : ((Tryd.prog.info? 76).bind (·.zero)).map Value.cells = some (tab 8 fun _ => V64 0) := by kernel_rfl
def st0Parts : Array (Nat × Value) := ((List.range 8).map fun j => (j, V64 (at32 st0.list j))).toArray
theorem build_st0 : ∀ w, (Instr.build 76 st0Parts).run Tryd.prog w = .ok (.agg (tab 8 fun j => V64 (at32 st0.list j))) w := fun _ => by kernel_rfl

theorem padded_len (L : List UInt8) : (padded L).length = 64 * ((padded L).length / 64) := by
  unfold padded tailOf be64
  simp
  omega

theorem padded_len' (L : List UInt8) : (padded L).length = L.length + 9 + (119 - L.length % 64) % 64 := by
  unfold padded tailOf be64
  simp
  omega
theorem sha_at (L : List UInt8) (p : Nat) (hp : p < 32) : at8 (sha L) p = hbyte (absorb (padded L) ((padded L).length / 64)).list p := by
  unfold sha St.bytes
  rw [at8_lt _ _ (by simpa using hp)]; simp
theorem build_zeroHash' : ∀ w, (Instr.build 59 #[]).run Tryd.prog w = .ok (.agg (tab 32 fun _ => VB 0)) w := fun _ => by kernel_rfl

set_option maxRecDepth 1000000 in
set_option maxHeartbeats 8000000 in
theorem rSum_any (L : List UInt8) (b : Value) (w : World) (hv : IsVals w b (L.map VB)) (hL : L.length ≤ 1000000) :
    Calls Tryd.prog 37 #[b] w fun e w' => e = .returned (.agg (tab 32 fun p => VB (at8 (sha L) p))) ∧ Below w.heap.size w w' := by
  obtain ⟨ii, hi, hz, hs1, hby⟩ := u64Info
  go_enter Tryd.func37, Tryd.ntmps37
  go_wp2_with (first
    | ((with_reducible change wpList _ _ _ (Oper.mk (some 2) _ _ _ _ _ :: _) _ _); refine kAlloc _ _ rfl rfl zero_Hash ?_; intro w1 hR1 hz1 hB1)
    | ((with_reducible change wpList _ _ _ (Oper.mk (some 26) _ _ _ _ _ :: _) _ _); refine kBuild _ _ st0Parts _ rfl rfl (by kernel_rfl) build_st0 ?_)
    | ((with_reducible change wpList _ _ _ (Oper.mk (some 3) _ _ _ _ _ :: _) _ _); refine kAlloc _ _ rfl rfl zero_arr8u64 ?_; intro w2 hR2 hz2 hB2)
    | ((with_reducible change wpList _ _ _ (Oper.mk none (Op.store _ (Operand.tmp 3) _) _ _ _ _ :: _) _ _); refine kStoreRow _ _ _ _ _ _ _ rfl rfl rfl rfl hR2 (by rw [tab_size]; exact info_arr8u64) (by simp only [tab_size]) (tab_one _ _ fun _ _ => rfl) ?_; intro w3 hR3 hW3; have hB3 : Below w.heap.size w w3 := (hB1.trans (hB2.mono (by omega))).trans (hW3.below (by omega)); have hs3 := hW3.size)
    | (go_at_call 43; refine (rPadded_any L _ _ (hv.below hB3) hL).mono ?_; rintro e w4 ⟨v4, rfl, hO4, hB4⟩; have hs4 := hB4.size)
    | (go_at_call 44; refine (rkeys_any _).mono ?_; rintro e w5 ⟨rfl, hB5⟩; have hs5 := hB5.size)
    | ((with_reducible change wpList _ _ _ (Oper.mk (some 5) _ _ _ _ _ :: _) _ _); refine kAlloc _ _ rfl rfl zero_arr64u64 ?_; intro w6 hR6 hz6 hB6)
    | ((with_reducible change wpList _ _ _ (Oper.mk none (Op.store _ (Operand.tmp 5) _) _ _ _ _ :: _) _ _); refine kStoreRow _ _ _ _ _ _ _ rfl rfl rfl rfl hR6 (by rw [tab_size]; exact info_arr64u64) (by simp only [tab_size]) (tab_one _ _ fun _ _ => rfl) ?_; intro w7 hR7 hW7; have hs7 := hW7.size))
  have hne : ∀ a, v4.ownBlock = some a → a ≠ w1.heap.size := fun a ha e => by have := (hO4.lt a ha).1; omega
  have hA : IsVals w7 v4 ((padded L).map VB) := hO4.vals.below ((hB5.trans (hB6.mono (by omega))).trans (hW7.below (by omega)))
  have hK : Row w7 w5.heap.size 77 (tab 64 fun j => V64 (at32 kTab j)) := hR7
  have hB7 : Below w3.heap.size w3 w7 := ((hB4.trans (hB5.mono (by omega))).trans (hB6.mono (by omega))).trans (hW7.below (by omega))
  have hB : Below w.heap.size w w7 := hB3.trans (hB7.mono (by omega))
  have hZ : Row w7 w.heap.size 59 (tab 32 fun _ => VB 0) := (hW3.row (hR1.below hB2 (by omega)) (by omega)).below hB7 (by omega)
  have hV : Row w7 w1.heap.size 76 (tab 8 fun j => V64 (at32 (absorb (padded L) 0).list j)) := hR3.below hB7 (by omega)
  have hg3 : w1.heap.size < w3.heap.size := by omega
  have hg5 : w3.heap.size ≤ w5.heap.size := by omega
  have Hlen := Lib.hid (padded_len L)
  rw [hz1] at hne hV hg3
  clear hR1 hR2 hR3 hW3 hB1 hB2 hB3 hO4 hB4 hB5 hR6 hB6 hR7 hW7 hB7 hz1 hz2 hs3 hz6 hs7 hs4 hs5
  go_loopw [6] (fun i wr => ∃ n : Nat, n ≤ (padded L).length / 64 ∧ i = .int .i64 (64 * (n : Int)) ∧ Row wr (w.heap.size + 1) 76 (tab 8 fun j => V64 (at32 (absorb (padded L) n).list j)) ∧ Row wr w.heap.size 59 (tab 32 fun _ => VB 0) ∧ Row wr w5.heap.size 77 (tab 64 fun j => V64 (at32 kTab j)) ∧ IsVals wr v4 ((padded L).map VB) ∧ Below w.heap.size w wr) (fun i _ => (padded L).length - (intOf i).toNat)
  case atStart => exact ⟨0, by omega, rfl, hV, hZ, hK, hA, hB⟩
  case round =>
    obtain ⟨n, hn, rfl, hVr, hZr, hKr, hAr, hBr⟩ := hrel
    have hszr := hBr.size
    have hgvr := hVr.lt
    have hgkr := hKr.lt
    have hDl : (padded L).length ≤ 2000000 := by rw [padded_len']; omega
    by_cases hlt : n < (padded L).length / 64
    · have hd : decide (64 * (n : Int) < ((padded L).length : Int)) = true := by have := Hlen.out; simp; omega
      go_wp2_with (first
        | ((with_reducible change wpList _ _ _ (Oper.mk (some 32) _ _ _ _ _ :: _) _ _); refine kLenN _ _ _ _ _ (padded L).length rfl rfl rfl hAr (by simp) Tryd.underlying22 ?_)
        | ((with_reducible change wpList _ _ _ (Oper.mk (some 36) _ _ _ _ _ :: _) _ _); refine kBuildSlice0 _ _ rfl rfl Tryd.underlying79 ii hi ?_; intro p1 hP1 hp1 hQ1))
      refine loop2 _ _ _ _ _ _ _ _ _ _ _ _ _ _ _ _ _ _ _ _ _ _ _ _ _ _ _ _ _ _ _ _ _ _ _ _ _ _ _ _ _ _ _ _ _ _ _ _ _ _ _ _ _ _ _ _ _ _ _ _ _ _ _ _ _ _ _ _ _ _ _ _ _ _ _ _ _ _ _ _ _ _ _ _ _ _ _ _ _ _ _ _ _ _ _ _ _ _ _ _ _ _ _ _ _ _ _ _ _ _ _ _ _ _ _ _ _ _ _ _ _ _ _ _ _ _ _ _ _ _ _ _ _ _ _ _ _ _ _ _ _ _ _ _ _ _ _ _ _ _ _ _ _ _ _ _ _ _ _ _ _ _ _ _ _ _ _ _ _ _ _ _ _ _ _ _ _ _ _ _ _ _ _ _ _ _ _ _ _ _ _ _ _ _ _ _ _ _ _ _ _ _ _ _ _ _ _ _ _ _ _ _ _ _ _ _ _ _ _ _ _ _ _ _ _ _ _ _ _ _ _ _ _ _ _ _ _ _ _ _ _ _ _ _ _ _ _ _ _ _ n (padded L) v4 _ wr p1 hAr hQ1 (own_empty (Nat.le_refl _) hP1) hDl (by have := Hlen.out; omega) _ ?_
      intro v7 u8 u9 u10 u11 u12 u37 u38 u39 u40 u41 u42 u43 u44 u45 u46 u47 u48 u49 u50 u51 u52 u53 u54 u55 u56 u57 u58 u59 u60 u61 u62 u63 u64 u65 u66 u67 u68 u69 u70 u71 u72 u73 u74 u75 u76 u77 u78 u79 u80 u81 u82 u83 u84 u85 u86 u87 u88 u89 u90 u91 u92 u93 u94 u95 u96 u97 u98 u99 u100 u101 u102 u103 u104 u105 u106 u107 u108 u109 u110 u111 u112 u113 u114 u115 u116 u117 u118 u119 u120 u121 u122 p2 hO2 hQ2
      have hs2 := hQ2.size
      rcases hO2.2 with ⟨_, hi0⟩ | ⟨gw, cap, cur, rfl, hbg, hgr, hnc, hcm, hcs, htake⟩
      · omega
      have hcells : ∀ j, j < 64 → p2.cell? ⟨gw, j, none⟩ = some (V64 (at32 (sched (blockOf (padded L) n)) j)) := fun j hj => by
        have := hO2.cells (g := gw) rfl j (V64 (at32 (sched (blockOf (padded L) n)) j)) (by have := sched_vals (blockOf (padded L) n) 64 j (by omega) hj; rwa [List.take_of_length_le (by rw [sched_len]; omega)] at this)
        rwa [add_none, Nat.zero_add] at this
      have hgw2 : gw < p2.heap.size := block_lt_of_cell (hcells 0 (by omega))
      clear hgr htake hcs hO2 hP1 hQ1
      go_wp2_with (first
        | ((with_reducible change wpList _ _ _ (Oper.mk (some 123) _ _ _ _ _ :: _) _ _); refine kLoadRow _ _ _ _ _ _ rfl rfl rfl (hVr.below hQ2 hgvr) Tryd.underlying76 rfl (by rw [tab_size]; exact info_arr8u64) ?_)
        | ((with_reducible change wpList _ _ _ (Oper.mk (some 13) _ _ _ _ _ :: _) _ _); refine kAlloc _ _ rfl rfl zero_arr8u64 ?_; intro p3 hP3 hp3 hQ3)
        | ((with_reducible change wpList _ _ _ (Oper.mk none _ _ _ _ _ :: _) _ _); refine kStoreRow _ _ _ _ _ _ _ rfl rfl rfl rfl hP3 (by rw [tab_size]; exact info_arr8u64) (by simp only [tab_size]) (tab_one _ _ fun _ _ => rfl) ?_; intro p4 hP4 hW4))
      have hQ4 : Below wr.heap.size wr p4 := (hQ2.trans (hQ3.mono hs2)).trans (hW4.below hs2)
      have hQ24 : Below p2.heap.size p2 p4 := hQ3.trans (hW4.below (Nat.le_refl _))
      refine loop6 _ _ _ _ _ _ _ _ _ _ _ _ _ _ _ _ _ _ _ _ _ _ _ _ _ _ _ _ _ _ _ _ _ _ _ _ _ _ _ _ _ _ _ _ _ _ _ _ _ _ _ _ _ _ _ _ _ _ _ _ _ _ _ _ _ _ _ _ _ _ _ _ _ _ _ _ _ _ _ _ _ _ _ _ _ _ _ _ _ _ _ _ _ _ _ _ _ _ _ _ _ _ _ _ _ _ _ _ _ _ _ _ _ _ _ _ _ _ _ _ _ _ _ _ _ _ _ _ _ _ _ _ _ _ _ _ _ _ _ _ _ _ _ _ _ _ _ _ _ _ _ _ _ _ _ _ _ _ _ _ _ _ _ _ _ _ _ _ _ _ _ _ _ _ _ _ _ _ _ _ _ _ _ _ _ _ _ _ _ _ _ _ _ _ _ _ _ _ _ _ _ _ _ _ _ _ _ _ _ _ _ _ _ _ _ _ _ _ _ _ _ _ _ _ _ _ _ _ _ _ _ _ _ _ _ _ _ _ _ _ _ _ _ _ _ _ _ _ _ _ p2.heap.size w5.heap.size gw cap (sched (blockOf (padded L) n)) (absorb (padded L) n) _ (by omega) (by omega) hP4 (hKr.below hQ4 hgkr) (fun j hj => by rw [hQ24.cell hgw2]; exact hcells j hj) _ ?_
      intro u14 u15 u16 u17 u18 u19 u20 u124 u125 u126 u127 u128 u129 u130 u131 u132 u133 u134 u135 u136 u137 u138 u139 u140 u141 u142 u143 u144 u145 u146 u147 u148 u149 u150 u151 u152 u153 u154 u155 u156 u157 u158 u159 u160 u161 u162 u163 u164 u165 u166 u167 u168 u169 u170 u171 u172 u173 u174 u175 u176 u177 u178 u179 u180 u181 u182 u183 u184 u185 u186 u187 u188 u189 u190 u191 u192 u193 u194 u195 u196 u197 u198 u199 u200 u201 u202 u203 u204 u205 u206 u207 u208 u209 u210 u211 u212 u213 u214 u215 u216 u217 p5 hP5 hW5
      have hQ5 : Below wr.heap.size wr p5 := hQ4.trans (hW5.below hs2)
      go_wp2_with fail
      refine loop10 _ _ _ _ _ _ _ _ _ _ _ _ _ _ _ _ _ _ _ _ _ _ _ _ _ _ _ _ _ _ _ _ _ _ _ _ _ _ _ _ _ _ _ _ _ _ _ _ _ _ _ _ _ _ _ _ _ _ _ _ _ _ _ _ _ _ _ _ _ _ _ _ _ _ _ _ _ _ _ _ _ _ _ _ _ _ _ _ _ _ _ _ _ _ _ _ _ _ _ _ _ _ _ _ _ _ _ _ _ _ _ _ _ _ _ _ _ _ _ _ _ _ _ _ _ _ _ _ _ _ _ _ _ _ _ _ _ _ _ _ _ _ _ _ _ _ _ _ _ _ _ _ _ _ _ _ _ _ _ _ _ _ _ _ _ _ _ _ _ _ _ _ _ _ _ _ _ _ _ _ _ _ _ _ _ _ _ _ _ _ _ _ _ _ _ _ _ _ _ _ _ _ _ _ _ _ _ _ _ _ _ _ _ _ _ _ _ _ _ _ _ _ _ _ _ _ _ _ _ _ _ _ _ _ _ _ _ _ _ _ _ _ _ _ _ _ _ _ _ _ _ (w.heap.size + 1) p2.heap.size (absorb (padded L) n).list (rnds (sched (blockOf (padded L) n)) (absorb (padded L) n) 64).list _ (by omega) (hVr.below hQ5 hgvr) hP5 _ ?_
      intro u21 u218 u219 u220 u221 u222 u223 u224 u225 u226 u227 u228 u229 u230 u231 p6 hP6 hW6
      go_wp2
      go_roundw
      case rel =>
        refine ⟨n + 1, by omega, by go_num, ?_, hW6.row (hZr.below hQ5 (by omega)) (by omega), hW6.row (hKr.below hQ5 hgkr) (by omega), (hAr.below hQ5).wrote hW6 (fun _ _ _ a ha => hne a ha), (hBr.trans (hQ5.mono hszr)).trans (hW6.below (by omega))⟩
        rw [tab_congr (g := fun j => V64 (at32 (absorb (padded L) (n + 1)).list j)) (fun p hp => ?_)] at hP6
        · exact hP6
        · show V64 _ = V64 (at32 (St.add (absorb (padded L) n) (rnds (sched (blockOf (padded L) n)) (absorb (padded L) n) 64)).list p)
          generalize absorb (padded L) n = s
          generalize rnds (sched (blockOf (padded L) n)) s 64 = t
          match p, hp with
          | 0, _ => rfl
          | 1, _ => rfl
          | 2, _ => rfl
          | 3, _ => rfl
          | 4, _ => rfl
          | 5, _ => rfl
          | 6, _ => rfl
          | 7, _ => rfl
      case measure => simp [intOf]; omega
    · have Hn := Lib.hid (show n = (padded L).length / 64 by omega)
      have hd : decide (64 * (n : Int) < ((padded L).length : Int)) = false := by have := Hlen.out; simp; omega
      go_wp2_with (first
        | ((with_reducible change wpList _ _ _ (Oper.mk (some 32) _ _ _ _ _ :: _) _ _); refine kLenN _ _ _ _ _ (padded L).length rfl rfl rfl hAr (by simp) Tryd.underlying22 ?_)
        | ((with_reducible change wpList _ _ _ (Oper.mk (some 232) _ _ _ _ _ :: _) _ _); refine kBuild _ _ _ _ rfl rfl (by simp) build_zeroHash' ?_)
        | ((with_reducible change wpList _ _ _ (Oper.mk (some 22) _ _ _ _ _ :: _) _ _); refine kAlloc _ _ rfl rfl zero_Hash ?_; intro q1 hP1 hq1 hQ1)
        | ((with_reducible change wpList _ _ _ (Oper.mk none (Op.store _ (Operand.tmp 22) _) _ _ _ _ :: _) _ _); refine kStoreRow _ _ _ _ _ _ _ rfl rfl rfl rfl hP1 (by rw [tab_size]; exact info_Hash) (by simp only [tab_size]) (tab_one _ _ fun _ _ => rfl) ?_; intro q2 hP2 hW2; have hQ2 : Below wr.heap.size wr q2 := hQ1.trans (hW2.below (Nat.le_refl _)))
        | ((with_reducible change wpList _ _ _ (Oper.mk (some 233) _ _ _ _ _ :: _) _ _); refine kLoadRow _ _ _ _ _ _ rfl rfl rfl (hVr.below hQ2 hgvr) Tryd.underlying76 rfl (by rw [tab_size]; exact info_arr8u64) ?_))
      refine loop12 _ _ _ _ _ _ _ _ _ _ _ _ _ _ _ _ _ _ _ _ _ _ _ _ _ _ _ _ _ _ _ _ _ _ _ _ _ _ _ _ _ _ _ _ _ _ _ _ _ _ _ _ _ _ _ _ _ _ _ _ _ _ _ _ _ _ _ _ _ _ _ _ _ _ _ _ _ _ _ _ _ _ _ _ _ _ _ _ _ _ _ _ _ _ _ _ _ _ _ _ _ _ _ _ _ _ _ _ _ _ _ _ _ _ _ _ _ _ _ _ _ _ _ _ _ _ _ _ _ _ _ _ _ _ _ _ _ _ _ _ _ _ _ _ _ _ _ _ _ _ _ _ _ _ _ _ _ _ _ _ _ _ _ _ _ _ _ _ _ _ _ _ _ _ _ _ _ _ _ _ _ _ _ _ _ _ _ _ _ _ _ _ _ _ _ _ _ _ _ _ _ _ _ _ _ _ _ _ _ _ _ _ _ _ _ _ _ _ _ _ _ _ _ _ _ _ _ _ _ _ _ _ _ _ _ _ _ _ _ _ _ _ _ _ _ _ _ _ _ _ _ wr.heap.size (absorb (padded L) n).list _ hP2 _ ?_
      intro u23 u24 u25 u234 u235 u236 u237 u238 u239 u240 u241 u242 u243 u244 u245 u246 u247 u248 u249 u250 u251 u252 q3 hP3 hW3
      have hQ3 : Below wr.heap.size wr q3 := hQ2.trans (hW3.below (Nat.le_refl _))
      have hZ3 := hZr.below hQ3 (by omega)
      rw [tab_congr (g := fun p => VB (at8 (sha L) p)) (fun p hp => by rw [Hn.out]; exact congrArg VB (sha_at L p hp).symm)] at hP3
      go_wp2_with (first
        | ((with_reducible change wpList _ _ _ (Oper.mk (some 253) _ _ _ _ _ :: _) _ _); refine kLoadRow _ _ _ _ _ _ rfl rfl rfl hP3 Tryd.underlying59 rfl (by rw [tab_size]; exact info_Hash) ?_)
        | ((with_reducible change wpList _ _ _ (Oper.mk none _ _ _ _ _ :: _) _ _); refine kStoreRow _ _ _ _ _ _ _ rfl rfl rfl rfl hZ3 (by rw [tab_size]; exact info_Hash) (by simp only [tab_size]) (tab_one _ _ fun _ _ => rfl) ?_; intro q4 hP4 hW4))
      exact result_row Tryd.results37 rfl hP4 Tryd.underlying59 rfl (by rw [tab_size]; exact info_Hash) rfl ⟨rfl, (hBr.trans (hQ3.mono hszr)).trans (hW4.below (Nat.le_refl _))⟩
end Go.Proofs.YtnaclalbeocpkaaDoor
