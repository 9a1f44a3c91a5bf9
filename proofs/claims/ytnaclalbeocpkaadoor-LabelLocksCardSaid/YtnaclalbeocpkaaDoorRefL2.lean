/-
  The reference's Sum: its second loop: the row of 64 numbers of a block.
-/
import Derived.Test.YtnaclalbeocpkaaDoorKitRef
import Derived.Test.YtnaclalbeocpkaaDoorRefL4
namespace Go.Proofs.YtnaclalbeocpkaaDoor
open Go Go.RowKit

set_option maxRecDepth 1000000 in
set_option maxHeartbeats 4000000 in
theorem loop2 (c0 c1 c2 c3 c5 c9 c10 c11 c12 c13 c14 c15 c16 c17 c18 c19 c20 c21 c22 c23 c24 c25 c26 c27 c28 c29 c30 c31 c32 c33 c34 c35 c36 c37 c38 c39 c40 c41 c42 c43 c44 c45 c46 c47 c48 c49 c50 c51 c52 c53 c54 c55 c56 c57 c58 c59 c60 c61 c62 c63 c64 c65 c66 c67 c68 c69 c70 c71 c72 c73 c74 c75 c76 c77 c78 c79 c80 c81 c82 c83 c84 c85 c86 c87 c88 c89 c90 c91 c92 c93 c94 c95 c96 c97 c98 c99 c100 c101 c102 c103 c104 c105 c106 c107 c108 c109 c110 c111 c112 c113 c114 c115 c116 c117 c118 c119 c120 c121 c122 c123 c124 c125 c126 c127 c128 c129 c130 c131 c132 c133 c134 c135 c136 c137 c138 c139 c140 c141 c142 c143 c144 c145 c146 c147 c148 c149 c150 c151 c152 c153 c154 c155 c156 c157 c158 c159 c160 c161 c162 c163 c164 c165 c166 c167 c168 c169 c170 c171 c172 c173 c174 c175 c176 c177 c178 c179 c180 c181 c182 c183 c184 c185 c186 c187 c188 c189 c190 c191 c192 c193 c194 c195 c196 c197 c198 c199 c200 c201 c202 c203 c204 c205 c206 c207 c208 c209 c210 c211 c212 c213 c214 c215 c216 c217 c218 c219 c220 c221 c222 c223 c224 c225 c226 c227 c228 c229 c230 c231 c232 c233 c234 c235 c236 c237 c238 c239 c240 c241 c242 c243 c244 c245 c246 c247 c248 c249 c250 c251 c252 c253 : Value) (n : Nat) (D : List UInt8) (v4 v7 : Value) (w0 w : World) (hA : IsVals w0 v4 (D.map VB)) (h0 : Below w0.heap.size w0 w) (hO : w.ownsRow w0.heap.size 75 1 v7 0 []) (hD : D.length ≤ 2000000) (hn : 64 * n + 64 ≤ D.length)
    (Q : Exit → Act → World → Prop) (hQ : ∀ (v7' u8 u9 u10 u11 u12 u37 u38 u39 u40 u41 u42 u43 u44 u45 u46 u47 u48 u49 u50 u51 u52 u53 u54 u55 u56 u57 u58 u59 u60 u61 u62 u63 u64 u65 u66 u67 u68 u69 u70 u71 u72 u73 u74 u75 u76 u77 u78 u79 u80 u81 u82 u83 u84 u85 u86 u87 u88 u89 u90 u91 u92 u93 u94 u95 u96 u97 u98 u99 u100 u101 u102 u103 u104 u105 u106 u107 u108 u109 u110 u111 u112 u113 u114 u115 u116 u117 u118 u119 u120 u121 u122 : Value) (w' : World), w'.ownsRow w0.heap.size 75 1 v7' 64 ((sched (blockOf D n)).map V64) → Below w0.heap.size w0 w' → Q (.exit 2) ⟨(c0 :: c1 :: c2 :: c3 :: v4 :: c5 :: Value.int .i64 (64 * (n : Int)) :: v7' :: u8 :: u9 :: u10 :: u11 :: u12 :: c13 :: c14 :: c15 :: c16 :: c17 :: c18 :: c19 :: c20 :: c21 :: c22 :: c23 :: c24 :: c25 :: c26 :: c27 :: c28 :: c29 :: c30 :: c31 :: c32 :: c33 :: c34 :: c35 :: c36 :: u37 :: u38 :: u39 :: u40 :: u41 :: u42 :: u43 :: u44 :: u45 :: u46 :: u47 :: u48 :: u49 :: u50 :: u51 :: u52 :: u53 :: u54 :: u55 :: u56 :: u57 :: u58 :: u59 :: u60 :: u61 :: u62 :: u63 :: u64 :: u65 :: u66 :: u67 :: u68 :: u69 :: u70 :: u71 :: u72 :: u73 :: u74 :: u75 :: u76 :: u77 :: u78 :: u79 :: u80 :: u81 :: u82 :: u83 :: u84 :: u85 :: u86 :: u87 :: u88 :: u89 :: u90 :: u91 :: u92 :: u93 :: u94 :: u95 :: u96 :: u97 :: u98 :: u99 :: u100 :: u101 :: u102 :: u103 :: u104 :: u105 :: u106 :: u107 :: u108 :: u109 :: u110 :: u111 :: u112 :: u113 :: u114 :: u115 :: u116 :: u117 :: u118 :: u119 :: u120 :: u121 :: u122 :: c123 :: c124 :: c125 :: c126 :: c127 :: c128 :: c129 :: c130 :: c131 :: c132 :: c133 :: c134 :: c135 :: c136 :: c137 :: c138 :: c139 :: c140 :: c141 :: c142 :: c143 :: c144 :: c145 :: c146 :: c147 :: c148 :: c149 :: c150 :: c151 :: c152 :: c153 :: c154 :: c155 :: c156 :: c157 :: c158 :: c159 :: c160 :: c161 :: c162 :: c163 :: c164 :: c165 :: c166 :: c167 :: c168 :: c169 :: c170 :: c171 :: c172 :: c173 :: c174 :: c175 :: c176 :: c177 :: c178 :: c179 :: c180 :: c181 :: c182 :: c183 :: c184 :: c185 :: c186 :: c187 :: c188 :: c189 :: c190 :: c191 :: c192 :: c193 :: c194 :: c195 :: c196 :: c197 :: c198 :: c199 :: c200 :: c201 :: c202 :: c203 :: c204 :: c205 :: c206 :: c207 :: c208 :: c209 :: c210 :: c211 :: c212 :: c213 :: c214 :: c215 :: c216 :: c217 :: c218 :: c219 :: c220 :: c221 :: c222 :: c223 :: c224 :: c225 :: c226 :: c227 :: c228 :: c229 :: c230 :: c231 :: c232 :: c233 :: c234 :: c235 :: c236 :: c237 :: c238 :: c239 :: c240 :: c241 :: c242 :: c243 :: c244 :: c245 :: c246 :: c247 :: c248 :: c249 :: c250 :: c251 :: c252 :: c253 :: ([] : List Value)).toArray, []⟩ w') :
    Code.wp Tryd.prog (.loop (sumLoop 2)) Q ⟨(c0 :: c1 :: c2 :: c3 :: v4 :: c5 :: Value.int .i64 (64 * (n : Int)) :: v7 :: Value.int .i64 0 :: c9 :: c10 :: c11 :: c12 :: c13 :: c14 :: c15 :: c16 :: c17 :: c18 :: c19 :: c20 :: c21 :: c22 :: c23 :: c24 :: c25 :: c26 :: c27 :: c28 :: c29 :: c30 :: c31 :: c32 :: c33 :: c34 :: c35 :: c36 :: c37 :: c38 :: c39 :: c40 :: c41 :: c42 :: c43 :: c44 :: c45 :: c46 :: c47 :: c48 :: c49 :: c50 :: c51 :: c52 :: c53 :: c54 :: c55 :: c56 :: c57 :: c58 :: c59 :: c60 :: c61 :: c62 :: c63 :: c64 :: c65 :: c66 :: c67 :: c68 :: c69 :: c70 :: c71 :: c72 :: c73 :: c74 :: c75 :: c76 :: c77 :: c78 :: c79 :: c80 :: c81 :: c82 :: c83 :: c84 :: c85 :: c86 :: c87 :: c88 :: c89 :: c90 :: c91 :: c92 :: c93 :: c94 :: c95 :: c96 :: c97 :: c98 :: c99 :: c100 :: c101 :: c102 :: c103 :: c104 :: c105 :: c106 :: c107 :: c108 :: c109 :: c110 :: c111 :: c112 :: c113 :: c114 :: c115 :: c116 :: c117 :: c118 :: c119 :: c120 :: c121 :: c122 :: c123 :: c124 :: c125 :: c126 :: c127 :: c128 :: c129 :: c130 :: c131 :: c132 :: c133 :: c134 :: c135 :: c136 :: c137 :: c138 :: c139 :: c140 :: c141 :: c142 :: c143 :: c144 :: c145 :: c146 :: c147 :: c148 :: c149 :: c150 :: c151 :: c152 :: c153 :: c154 :: c155 :: c156 :: c157 :: c158 :: c159 :: c160 :: c161 :: c162 :: c163 :: c164 :: c165 :: c166 :: c167 :: c168 :: c169 :: c170 :: c171 :: c172 :: c173 :: c174 :: c175 :: c176 :: c177 :: c178 :: c179 :: c180 :: c181 :: c182 :: c183 :: c184 :: c185 :: c186 :: c187 :: c188 :: c189 :: c190 :: c191 :: c192 :: c193 :: c194 :: c195 :: c196 :: c197 :: c198 :: c199 :: c200 :: c201 :: c202 :: c203 :: c204 :: c205 :: c206 :: c207 :: c208 :: c209 :: c210 :: c211 :: c212 :: c213 :: c214 :: c215 :: c216 :: c217 :: c218 :: c219 :: c220 :: c221 :: c222 :: c223 :: c224 :: c225 :: c226 :: c227 :: c228 :: c229 :: c230 :: c231 :: c232 :: c233 :: c234 :: c235 :: c236 :: c237 :: c238 :: c239 :: c240 :: c241 :: c242 :: c243 :: c244 :: c245 :: c246 :: c247 :: c248 :: c249 :: c250 :: c251 :: c252 :: c253 :: ([] : List Value)).toArray, []⟩ w := by
  conv => arg 2; arg 1; whnf
  obtain ⟨ii, hi, hz, hs1, hby⟩ := u64Info
  have hx64 := bxor64
  go_loopw [8, 7] (fun iv v wr => ∃ i : Nat, i ≤ 64 ∧ iv = .int .i64 (i : Int) ∧ wr.ownsRow w0.heap.size 75 1 v i (((sched (blockOf D n)).take i).map V64) ∧ Below w0.heap.size w0 wr) (fun iv _ _ => 64 - (intOf iv).toNat)
  case atStart => exact ⟨0, by omega, rfl, hO, h0⟩
  case round =>
    obtain ⟨i, hi64, rfl, hOr, hBr⟩ := hrel
    have hszr := hBr.size
    have hlenr : (((sched (blockOf D n)).take i).map V64).length = i := by rw [List.length_map, List.length_take, sched_len]; omega
    by_cases hlt : i < 64
    · have hd : decide ((i : Int) < 64) = true := by simp; omega
      by_cases h16 : i < 16
      · have hd2 : decide ((i : Int) < 16) = true := by simp; omega
        go_wp2_with fail
        refine loop4 _ _ _ _ _ _ _ _ _ _ _ _ _ _ _ _ _ _ _ _ _ _ _ _ _ _ _ _ _ _ _ _ _ _ _ _ _ _ _ _ _ _ _ _ _ _ _ _ _ _ _ _ _ _ _ _ _ _ _ _ _ _ _ _ _ _ _ _ _ _ _ _ _ _ _ _ _ _ _ _ _ _ _ _ _ _ _ _ _ _ _ _ _ _ _ _ _ _ _ _ _ _ _ _ _ _ _ _ _ _ _ _ _ _ _ _ _ _ _ _ _ _ _ _ _ _ _ _ _ _ _ _ _ _ _ _ _ _ _ _ _ _ _ _ _ _ _ _ _ _ _ _ _ _ _ _ _ _ _ _ _ _ _ _ _ _ _ _ _ _ _ _ _ _ _ _ _ _ _ _ _ _ _ _ _ _ _ _ _ _ _ _ _ _ _ _ _ _ _ _ _ _ _ _ _ _ _ _ _ _ _ _ _ _ _ _ _ _ _ _ _ _ _ _ _ _ _ _ _ _ _ _ _ _ _ _ _ _ _ _ _ _ _ _ _ _ _ _ _ n i D v4 _ (hA.below hBr) hD hn h16 _ ?_
        intro u10 u43 u44 u45 u46 u47 u48 u49 u50 u51 u52 u53 u54 u55 u56 u57 u58 u59
        go_wp2_with (first
          | ((with_reducible change wpList _ _ _ (Oper.mk (some 62) _ _ _ _ _ :: _) _ _); refine kBuildSlice1 _ _ _ (V64 (part (blockOf D n) 64 i)) rfl rfl Tryd.underlying79 ii _ hi hz hs1 rfl rfl ?_; intro w5 hR5 hz5 hB5)
          | ((with_reducible change wpList _ _ _ (Oper.mk (some 63) _ _ _ _ _ :: _) _ _); refine kAppend _ _ _ _ rfl rfl w0.heap.size ii _ Tryd.underlying79 hi hz hs1 rfl _ _ (((sched (blockOf D n)).take i).map V64) [V64 (part (blockOf D n) 64 i)] rfl (ownsRow_below (by rw [hlenr]; exact hOr) hB5) rfl (isVals_lit hR5) (v64_one [_]) (by unfold maxLen; rw [hlenr]; simp; omega) (by rw [hby, hlenr]; simp; omega) (by omega) ?_; intro v6 w6 hO6 hG6; have hB6 := (hBr.trans (hB5.mono hszr)).trans (below_grown (ownsRow_below hOr hB5) hG6 (by omega))))
        go_roundw
        case rel =>
          refine ⟨i + 1, by omega, by go_num, ?_, hB6⟩
          rw [sched_take _ _ hlt, List.map_append, sched_low _ _ h16]
          rw [List.length_append, hlenr] at hO6
          exact hO6
        case measure => simp [intOf]; omega
      · have hd2 : decide ((i : Int) < 16) = false := by simp; omega
        rcases hOr.2 with ⟨_, hi0⟩ | ⟨g, cap, cur, rfl, hbg, hgr, hnc, hcm, hcs, htake⟩
        · omega
        have hcells : ∀ j, j < i → wr.cell? ⟨g, j, none⟩ = some (V64 (at32 (sched (blockOf D n)) j)) := fun j hj => by
          have := hOr.cells (g := g) rfl j _ (sched_vals _ i j hi64 hj)
          rwa [add_none, Nat.zero_add] at this
        clear hgr htake hcs
        go_wp2_with fail
        refine region_drew_tail 20 (by kernel_rfl) (by kernel_rfl) ?_
        simp only [List.take_succ_cons, List.take_zero, List.drop_succ_cons, List.drop_zero]
        repeat (first
          | ((with_reducible change wpQuiet _ _ _ _ (Oper.mk _ (Op.indexAddr _ _ _) _ _ _ _ :: _) _); refine qIndexAddrG _ _ _ _ _ _ _ _ _ (i - 15) rfl rfl rfl rfl Tryd.underlying79 info_u64b (by omega) (by omega) ?_; go_frame)
          | ((with_reducible change wpQuiet _ _ _ _ (Oper.mk _ (Op.load _ _) _ _ _ _ :: _) _); refine qLoadCell _ _ _ _ (V64 (at32 (sched (blockOf D n)) (i - 15))) _ rfl rfl rfl (fun _ ⟨_, e⟩ => by rw [e]; exact hcells _ (by omega)) Tryd.underlying75 rfl ?_; go_frame)
          | go_big_quiet_step (first | (go_at_call 45; exact quiet_same (rright_int _ _ _ (by omega) (by omega))) | (go_at_call 46; exact quiet_same (rdown_int _ _ _ (by omega) (by omega)))))
        refine wpQuiet_nil ?_
        rintro _ ⟨nq, rfl⟩
        have hBq : Below wr.heap.size wr (wr.drewN nq) := ⟨rfl, rfl, rfl, Nat.le_refl _, fun _ _ => rfl⟩
        have hcq : ∀ j, j < i → (wr.drewN nq).cell? ⟨g, j, none⟩ = some (V64 (at32 (sched (blockOf D n)) j)) := hcells
        generalize wr.drewN nq = w2 at hBq hcq ⊢
        go_wp2_with fail
        generalize hp : (rotr (at32 (sched (blockOf D n)) (i - 15)) 7 ^^^ rotr (at32 (sched (blockOf D n)) (i - 15)) 18 ^^^ shr (at32 (sched (blockOf D n)) (i - 15)) 3) = p
        refine region_drew_tail 20 (by kernel_rfl) (by kernel_rfl) ?_
        simp only [List.take_succ_cons, List.take_zero, List.drop_succ_cons, List.drop_zero]
        repeat (first
          | ((with_reducible change wpQuiet _ _ _ _ (Oper.mk _ (Op.indexAddr _ _ _) _ _ _ _ :: _) _); refine qIndexAddrG _ _ _ _ _ _ _ _ _ (i - 2) rfl rfl rfl rfl Tryd.underlying79 info_u64b (by omega) (by omega) ?_; go_frame)
          | ((with_reducible change wpQuiet _ _ _ _ (Oper.mk _ (Op.load _ _) _ _ _ _ :: _) _); refine qLoadCell _ _ _ _ (V64 (at32 (sched (blockOf D n)) (i - 2))) _ rfl rfl rfl (fun _ ⟨_, e⟩ => by rw [e]; exact hcq _ (by omega)) Tryd.underlying75 rfl ?_; go_frame)
          | go_big_quiet_step (first | (go_at_call 45; exact quiet_same (rright_int _ _ _ (by omega) (by omega))) | (go_at_call 46; exact quiet_same (rdown_int _ _ _ (by omega) (by omega)))))
        refine wpQuiet_nil ?_
        rintro _ ⟨nq2, rfl⟩
        have hBq2 : Below wr.heap.size wr (w2.drewN nq2) := hBq.trans ⟨rfl, rfl, rfl, Nat.le_refl _, fun _ _ => rfl⟩
        have hsq2 := hBq2.size
        have hcq2 : ∀ j, j < i → (w2.drewN nq2).cell? ⟨g, j, none⟩ = some (V64 (at32 (sched (blockOf D n)) j)) := hcq
        generalize w2.drewN nq2 = w3 at hBq2 hcq2 hsq2 ⊢
        go_wp2_with fail
        generalize hq : (rotr (at32 (sched (blockOf D n)) (i - 2)) 17 ^^^ rotr (at32 (sched (blockOf D n)) (i - 2)) 19 ^^^ shr (at32 (sched (blockOf D n)) (i - 2)) 10) = q
        refine region_mix' [true, true, true, true, true, true, true, true, true, true, true, true, true, true, true, true, true, false, false] (fun w' => ∀ j, j < i → w'.cell? ⟨g, j, none⟩ = some (V64 (at32 (sched (blockOf D n)) j))) (by kernel_rfl) (by kernel_rfl) ?_
        intro wd hBd0 hsd
        have hBd : Below wr.heap.size wr wd := hBq2.trans (hBd0.mono hsq2)
        have hszd := hBd.size
        have hOd := ownsRow_below hOr hBd
        have hlt_g : g < wr.heap.size := block_lt_of_cell (hcells 0 (by omega))
        have hS : ∀ j, j < i → wd.cell? ⟨g, j, none⟩ = some (V64 (at32 (sched (blockOf D n)) j)) := fun j hj => by rw [hBd.cell hlt_g]; exact hcells j hj
        simp only [List.length_cons, List.length_nil, List.take_succ_cons, List.take_zero, List.drop_succ_cons, List.drop_zero]
        have i1 := I_lo (at32 (sched (blockOf D n)) (i - 16))
        have i2 := I_hi (at32 (sched (blockOf D n)) (i - 16))
        have i3 := I_lo (at32 (sched (blockOf D n)) (i - 7))
        have i4 := I_hi (at32 (sched (blockOf D n)) (i - 7))
        have i5 := I_lo p
        have i6 := I_hi p
        have i7 := I_lo q
        have i8 := I_hi q
        have Hsum : (I (at32 (sched (blockOf D n)) (i - 16)) + I p + I (at32 (sched (blockOf D n)) (i - 7)) + I q).tmod 4294967296 = I (at32 (sched (blockOf D n)) i) := by
          rw [tmod_sum4, ← hp, ← hq]
          exact congrArg I (sched_next (blockOf D n) i (by omega) hlt)
        refine mixMove _ (.slice (some ⟨g, 0, none⟩) i cap) hS rfl rfl rfl ?_; go_frame
        refine mixMove _ (.slice (some ⟨g, 0, none⟩) i cap) hS rfl rfl rfl ?_; go_frame
        refine mixMove _ (.int .i64 (i : Int)) hS rfl rfl rfl ?_; go_frame
        refine mixQuiet (.int .i64 ((i : Int) - 16)) hS rfl (fun w _ => by go_simp; exact IntWalk.i64_in _ ⟨by omega, by omega⟩) ?_; go_frame
        refine mixIndexAddrG _ _ _ _ _ _ _ _ _ (i - 16) hS rfl rfl rfl rfl Tryd.underlying79 info_u64b (by omega) (by omega) ?_; go_frame
        refine mixLoadCell _ _ _ _ (V64 (at32 (sched (blockOf D n)) (i - 16))) _ hS rfl rfl rfl (fun _ h => h _ (by omega)) Tryd.underlying75 rfl ?_; go_frame
        refine mixMove _ (V64 p) hS rfl rfl rfl ?_; go_frame
        refine mixQuiet (.int .u64 (I (at32 (sched (blockOf D n)) (i - 16)) + I p)) hS rfl (fun w _ => by go_simp; exact IntWalk.u64_in _ ⟨by omega, by omega⟩) ?_; go_frame
        refine mixMove _ (.slice (some ⟨g, 0, none⟩) i cap) hS rfl rfl rfl ?_; go_frame
        refine mixMove _ (.int .i64 (i : Int)) hS rfl rfl rfl ?_; go_frame
        refine mixQuiet (.int .i64 ((i : Int) - 7)) hS rfl (fun w _ => by go_simp; exact IntWalk.i64_in _ ⟨by omega, by omega⟩) ?_; go_frame
        refine mixIndexAddrG _ _ _ _ _ _ _ _ _ (i - 7) hS rfl rfl rfl rfl Tryd.underlying79 info_u64b (by omega) (by omega) ?_; go_frame
        refine mixLoadCell _ _ _ _ (V64 (at32 (sched (blockOf D n)) (i - 7))) _ hS rfl rfl rfl (fun _ h => h _ (by omega)) Tryd.underlying75 rfl ?_; go_frame
        refine mixQuiet (.int .u64 (I (at32 (sched (blockOf D n)) (i - 16)) + I p + I (at32 (sched (blockOf D n)) (i - 7)))) hS rfl (fun w _ => by go_simp; exact IntWalk.u64_in _ ⟨by omega, by omega⟩) ?_; go_frame
        refine mixMove _ (V64 q) hS rfl rfl rfl ?_; go_frame
        refine mixQuiet (.int .u64 (I (at32 (sched (blockOf D n)) (i - 16)) + I p + I (at32 (sched (blockOf D n)) (i - 7)) + I q)) hS rfl (fun w _ => by go_simp; exact IntWalk.u64_in _ ⟨by omega, by omega⟩) ?_; go_frame
        refine mixQuiet (V64 (at32 (sched (blockOf D n)) i)) hS rfl (fun w _ => by go_simp) ?_; go_frame
        refine mixLoud ?_
        refine kBuildSlice1 _ _ _ (V64 (at32 (sched (blockOf D n)) i)) rfl rfl Tryd.underlying79 ii _ hi hz hs1 rfl rfl ?_
        intro w5 hR5 hz5 hB5
        refine mixOn ⟨fun j hj => by rw [hB5.cell (Nat.lt_of_lt_of_le hlt_g hszd)]; exact hS j hj, ?_⟩
        go_frame
        refine mixLoud ?_
        refine kAppendKeep _ _ _ _ rfl rfl w0.heap.size ii _ Tryd.underlying79 hi hz hs1 rfl g i cap _ (((sched (blockOf D n)).take i).map V64) [V64 (at32 (sched (blockOf D n)) i)] rfl (ownsRow_below hOd hB5) rfl (isVals_lit hR5) (by simp) (v64_one [_]) (by unfold maxLen; simp; omega) (by rw [hby]; simp; omega) (by omega) ?_
        intro v6 w6 hO6 hG6 hkeep
        refine mixOn ⟨fun j hj => hkeep j _ (sched_vals _ i j hi64 hj), ?_⟩
        go_frame
        have hB6 := ((hBr.trans (hBd.mono hszr)).trans (hB5.mono (by omega))).trans (below_grown (ownsRow_below hOd hB5) hG6 (by omega))
        refine mixEnd ?_
        go_wp2
        go_roundw
        case rel =>
          refine ⟨i + 1, by omega, by go_num, ?_, hB6⟩
          rw [sched_take _ _ hlt, List.map_append]
          exact hO6
        case measure => simp [intOf]; omega
    · have Hi := Lib.hid (show i = 64 by omega)
      have hd : decide ((i : Int) < 64) = false := by simp; omega
      rw [Hi.out, List.take_of_length_le (by rw [sched_len]; omega)] at hOr
      go_wp2
      all_goals first | done | exact hQ _ _ _ _ _ _ _ _ _ _ _ _ _ _ _ _ _ _ _ _ _ _ _ _ _ _ _ _ _ _ _ _ _ _ _ _ _ _ _ _ _ _ _ _ _ _ _ _ _ _ _ _ _ _ _ _ _ _ _ _ _ _ _ _ _ _ _ _ _ _ _ _ _ _ _ _ _ _ _ _ _ _ _ _ _ _ _ _ _ _ _ _ _ hOr hBr
end Go.Proofs.YtnaclalbeocpkaaDoor
