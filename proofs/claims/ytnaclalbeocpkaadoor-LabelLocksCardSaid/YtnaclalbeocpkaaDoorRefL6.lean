/-
  The reference's Sum: its rounds.
-/
import Derived.Test.YtnaclalbeocpkaaDoorRefL8
namespace Go.Proofs.YtnaclalbeocpkaaDoor
open Go Go.RowKit

set_option maxRecDepth 1000000 in
set_option maxHeartbeats 4000000 in
theorem loop6 (c0 c1 c2 c3 c4 c6 c8 c9 c10 c11 c12 c15 c16 c17 c18 c19 c20 c21 c22 c23 c24 c25 c26 c27 c28 c29 c30 c31 c32 c33 c34 c35 c36 c37 c38 c39 c40 c41 c42 c43 c44 c45 c46 c47 c48 c49 c50 c51 c52 c53 c54 c55 c56 c57 c58 c59 c60 c61 c62 c63 c64 c65 c66 c67 c68 c69 c70 c71 c72 c73 c74 c75 c76 c77 c78 c79 c80 c81 c82 c83 c84 c85 c86 c87 c88 c89 c90 c91 c92 c93 c94 c95 c96 c97 c98 c99 c100 c101 c102 c103 c104 c105 c106 c107 c108 c109 c110 c111 c112 c113 c114 c115 c116 c117 c118 c119 c120 c121 c122 c123 c124 c125 c126 c127 c128 c129 c130 c131 c132 c133 c134 c135 c136 c137 c138 c139 c140 c141 c142 c143 c144 c145 c146 c147 c148 c149 c150 c151 c152 c153 c154 c155 c156 c157 c158 c159 c160 c161 c162 c163 c164 c165 c166 c167 c168 c169 c170 c171 c172 c173 c174 c175 c176 c177 c178 c179 c180 c181 c182 c183 c184 c185 c186 c187 c188 c189 c190 c191 c192 c193 c194 c195 c196 c197 c198 c199 c200 c201 c202 c203 c204 c205 c206 c207 c208 c209 c210 c211 c212 c213 c214 c215 c216 c217 c218 c219 c220 c221 c222 c223 c224 c225 c226 c227 c228 c229 c230 c231 c232 c233 c234 c235 c236 c237 c238 c239 c240 c241 c242 c243 c244 c245 c246 c247 c248 c249 c250 c251 c252 c253 : Value) (g gk gw cap : Nat) (ws : List UInt32) (st : St) (w : World) (hgk : gk ≠ g) (hgw : gw ≠ g) (hR : Row w g 76 (tab 8 fun p => V64 (at32 st.list p)))
    (hK : Row w gk 77 (tab 64 fun j => V64 (at32 kTab j))) (hW : ∀ j, j < 64 → w.cell? ⟨gw, j, none⟩ = some (V64 (at32 ws j)))
    (Q : Exit → Act → World → Prop) (hQ : ∀ (u14 u15 u16 u17 u18 u19 u20 u124 u125 u126 u127 u128 u129 u130 u131 u132 u133 u134 u135 u136 u137 u138 u139 u140 u141 u142 u143 u144 u145 u146 u147 u148 u149 u150 u151 u152 u153 u154 u155 u156 u157 u158 u159 u160 u161 u162 u163 u164 u165 u166 u167 u168 u169 u170 u171 u172 u173 u174 u175 u176 u177 u178 u179 u180 u181 u182 u183 u184 u185 u186 u187 u188 u189 u190 u191 u192 u193 u194 u195 u196 u197 u198 u199 u200 u201 u202 u203 u204 u205 u206 u207 u208 u209 u210 u211 u212 u213 u214 u215 u216 u217 : Value) (w' : World), Row w' g 76 (tab 8 fun p => V64 (at32 (rnds ws st 64).list p)) → Wrote g w w' → Q (.exit 6) ⟨(c0 :: c1 :: c2 :: c3 :: c4 :: Value.pointer (some ⟨gk, 0, none⟩) :: c6 :: Value.slice (some ⟨gw, 0, none⟩) 64 cap :: c8 :: c9 :: c10 :: c11 :: c12 :: Value.pointer (some ⟨g, 0, none⟩) :: u14 :: u15 :: u16 :: u17 :: u18 :: u19 :: u20 :: c21 :: c22 :: c23 :: c24 :: c25 :: c26 :: c27 :: c28 :: c29 :: c30 :: c31 :: c32 :: c33 :: c34 :: c35 :: c36 :: c37 :: c38 :: c39 :: c40 :: c41 :: c42 :: c43 :: c44 :: c45 :: c46 :: c47 :: c48 :: c49 :: c50 :: c51 :: c52 :: c53 :: c54 :: c55 :: c56 :: c57 :: c58 :: c59 :: c60 :: c61 :: c62 :: c63 :: c64 :: c65 :: c66 :: c67 :: c68 :: c69 :: c70 :: c71 :: c72 :: c73 :: c74 :: c75 :: c76 :: c77 :: c78 :: c79 :: c80 :: c81 :: c82 :: c83 :: c84 :: c85 :: c86 :: c87 :: c88 :: c89 :: c90 :: c91 :: c92 :: c93 :: c94 :: c95 :: c96 :: c97 :: c98 :: c99 :: c100 :: c101 :: c102 :: c103 :: c104 :: c105 :: c106 :: c107 :: c108 :: c109 :: c110 :: c111 :: c112 :: c113 :: c114 :: c115 :: c116 :: c117 :: c118 :: c119 :: c120 :: c121 :: c122 :: c123 :: u124 :: u125 :: u126 :: u127 :: u128 :: u129 :: u130 :: u131 :: u132 :: u133 :: u134 :: u135 :: u136 :: u137 :: u138 :: u139 :: u140 :: u141 :: u142 :: u143 :: u144 :: u145 :: u146 :: u147 :: u148 :: u149 :: u150 :: u151 :: u152 :: u153 :: u154 :: u155 :: u156 :: u157 :: u158 :: u159 :: u160 :: u161 :: u162 :: u163 :: u164 :: u165 :: u166 :: u167 :: u168 :: u169 :: u170 :: u171 :: u172 :: u173 :: u174 :: u175 :: u176 :: u177 :: u178 :: u179 :: u180 :: u181 :: u182 :: u183 :: u184 :: u185 :: u186 :: u187 :: u188 :: u189 :: u190 :: u191 :: u192 :: u193 :: u194 :: u195 :: u196 :: u197 :: u198 :: u199 :: u200 :: u201 :: u202 :: u203 :: u204 :: u205 :: u206 :: u207 :: u208 :: u209 :: u210 :: u211 :: u212 :: u213 :: u214 :: u215 :: u216 :: u217 :: c218 :: c219 :: c220 :: c221 :: c222 :: c223 :: c224 :: c225 :: c226 :: c227 :: c228 :: c229 :: c230 :: c231 :: c232 :: c233 :: c234 :: c235 :: c236 :: c237 :: c238 :: c239 :: c240 :: c241 :: c242 :: c243 :: c244 :: c245 :: c246 :: c247 :: c248 :: c249 :: c250 :: c251 :: c252 :: c253 :: ([] : List Value)).toArray, []⟩ w') :
    Code.wp Tryd.prog (.loop (sumLoop 6)) Q ⟨(c0 :: c1 :: c2 :: c3 :: c4 :: Value.pointer (some ⟨gk, 0, none⟩) :: c6 :: Value.slice (some ⟨gw, 0, none⟩) 64 cap :: c8 :: c9 :: c10 :: c11 :: c12 :: Value.pointer (some ⟨g, 0, none⟩) :: Value.int .i64 0 :: c15 :: c16 :: c17 :: c18 :: c19 :: c20 :: c21 :: c22 :: c23 :: c24 :: c25 :: c26 :: c27 :: c28 :: c29 :: c30 :: c31 :: c32 :: c33 :: c34 :: c35 :: c36 :: c37 :: c38 :: c39 :: c40 :: c41 :: c42 :: c43 :: c44 :: c45 :: c46 :: c47 :: c48 :: c49 :: c50 :: c51 :: c52 :: c53 :: c54 :: c55 :: c56 :: c57 :: c58 :: c59 :: c60 :: c61 :: c62 :: c63 :: c64 :: c65 :: c66 :: c67 :: c68 :: c69 :: c70 :: c71 :: c72 :: c73 :: c74 :: c75 :: c76 :: c77 :: c78 :: c79 :: c80 :: c81 :: c82 :: c83 :: c84 :: c85 :: c86 :: c87 :: c88 :: c89 :: c90 :: c91 :: c92 :: c93 :: c94 :: c95 :: c96 :: c97 :: c98 :: c99 :: c100 :: c101 :: c102 :: c103 :: c104 :: c105 :: c106 :: c107 :: c108 :: c109 :: c110 :: c111 :: c112 :: c113 :: c114 :: c115 :: c116 :: c117 :: c118 :: c119 :: c120 :: c121 :: c122 :: c123 :: c124 :: c125 :: c126 :: c127 :: c128 :: c129 :: c130 :: c131 :: c132 :: c133 :: c134 :: c135 :: c136 :: c137 :: c138 :: c139 :: c140 :: c141 :: c142 :: c143 :: c144 :: c145 :: c146 :: c147 :: c148 :: c149 :: c150 :: c151 :: c152 :: c153 :: c154 :: c155 :: c156 :: c157 :: c158 :: c159 :: c160 :: c161 :: c162 :: c163 :: c164 :: c165 :: c166 :: c167 :: c168 :: c169 :: c170 :: c171 :: c172 :: c173 :: c174 :: c175 :: c176 :: c177 :: c178 :: c179 :: c180 :: c181 :: c182 :: c183 :: c184 :: c185 :: c186 :: c187 :: c188 :: c189 :: c190 :: c191 :: c192 :: c193 :: c194 :: c195 :: c196 :: c197 :: c198 :: c199 :: c200 :: c201 :: c202 :: c203 :: c204 :: c205 :: c206 :: c207 :: c208 :: c209 :: c210 :: c211 :: c212 :: c213 :: c214 :: c215 :: c216 :: c217 :: c218 :: c219 :: c220 :: c221 :: c222 :: c223 :: c224 :: c225 :: c226 :: c227 :: c228 :: c229 :: c230 :: c231 :: c232 :: c233 :: c234 :: c235 :: c236 :: c237 :: c238 :: c239 :: c240 :: c241 :: c242 :: c243 :: c244 :: c245 :: c246 :: c247 :: c248 :: c249 :: c250 :: c251 :: c252 :: c253 :: ([] : List Value)).toArray, []⟩ w := by
  conv => arg 2; arg 1; whnf
  have hx64 := bxor64
  have ha64 := band64
  go_loopw [14] (fun iv wr => ∃ i : Nat, i ≤ 64 ∧ iv = .int .i64 (i : Int) ∧ Row wr g 76 (tab 8 fun p => V64 (at32 (rnds ws st i).list p)) ∧ Wrote g w wr) (fun iv _ => 64 - (intOf iv).toNat)
  case atStart => exact ⟨0, by omega, rfl, hR, Wrote.refl _ _⟩
  case round =>
    obtain ⟨i, hi64, rfl, hRr, hWr⟩ := hrel
    by_cases hlt : i < 64
    · have hd : decide ((i : Int) < 64) = true := by simp; omega
      have Hnext : rnds ws st (i + 1) = rnd (rnds ws st i) (at32 kTab i) (at32 ws i) := rfl
      generalize rnds ws st i = s at hRr Hnext
      have hnot := bnot64 s.e
      have hwrap : IntKind.u64.wrap (I (~~~s.e)) = I (~~~s.e) := IntWalk.u64_in _ ⟨I_lo _, by have := I_hi (~~~s.e); omega⟩
      have hKr := hWr.row hK hgk
      have hWc : ∀ j, j < 64 → wr.cell? ⟨gw, j, none⟩ = some (V64 (at32 ws j)) := fun j hj => by rw [hWr.cell hgw]; exact hW j hj
      go_wp2_with fail
      refine region_drew_tail 11 (by kernel_rfl) (by kernel_rfl) ?_
      simp only [List.take_succ_cons, List.take_zero, List.drop_succ_cons, List.drop_zero]
      repeat (first
        | ((with_reducible change wpQuiet _ _ _ _ (Oper.mk _ (Op.indexAddr _ _ _) _ _ _ _ :: _) _); refine qIndexAddr1 _ _ _ _ _ _ _ 4 _ rfl rfl rfl rfl Tryd.underlying76 info_u64b rfl (by decide) ?_; go_frame)
        | ((with_reducible change wpQuiet _ _ _ _ (Oper.mk _ (Op.load _ _) _ _ _ _ :: _) _); refine qLoad1 _ _ _ _ _ _ (V64 s.e) _ rfl rfl rfl (fun _ ⟨_, e⟩ => by rw [e]; exact hRr) Tryd.underlying75 rfl (tab_get 8 _ 4 (by decide)) ?_; go_frame)
        | go_big_quiet_step (first | (go_at_call 45; exact quiet_same (rright_int _ _ _ (by omega) (by omega)))))
      refine wpQuiet_nil ?_
      rintro _ ⟨nq, rfl⟩
      have hW1 : Wrote g wr (wr.drewN nq) := Wrote.drewN _ _ _
      have hR1 : Row (wr.drewN nq) g 76 (tab 8 fun p => V64 (at32 s.list p)) := hRr
      have hK1 : Row (wr.drewN nq) gk 77 (tab 64 fun j => V64 (at32 kTab j)) := hKr
      have hC1 : ∀ j, j < 64 → (wr.drewN nq).cell? ⟨gw, j, none⟩ = some (V64 (at32 ws j)) := hWc
      generalize wr.drewN nq = w1 at hW1 hR1 hK1 hC1 ⊢
      go_wp2_with (first
        | ((with_reducible change wpList _ _ _ (Oper.mk _ (Op.indexAddr _ _ _) _ _ _ _ :: _) _ _); refine kIndexAddr1 _ _ _ _ _ _ _ _ _ rfl rfl rfl rfl Tryd.underlying76 info_u64b (Int.toNat_of_nonneg (by decide)).symm (by decide) ?_)
        | ((with_reducible change wpList _ _ _ (Oper.mk (some 140) _ _ _ _ _ :: _) _ _); refine kLoad1 _ _ _ _ _ _ (V64 s.e) _ rfl rfl rfl hR1 Tryd.underlying75 rfl (tab_get 8 _ 4 (by decide)) ?_)
        | ((with_reducible change wpList _ _ _ (Oper.mk (some 142) _ _ _ _ _ :: _) _ _); refine kLoad1 _ _ _ _ _ _ (V64 s.f) _ rfl rfl rfl hR1 Tryd.underlying75 rfl (tab_get 8 _ 5 (by decide)) ?_)
        | ((with_reducible change wpList _ _ _ (Oper.mk (some 145) _ _ _ _ _ :: _) _ _); refine kLoad1 _ _ _ _ _ _ (V64 s.e) _ rfl rfl rfl hR1 Tryd.underlying75 rfl (tab_get 8 _ 4 (by decide)) ?_)
        | ((with_reducible change wpList _ _ _ (Oper.mk (some 148) _ _ _ _ _ :: _) _ _); refine kLoad1 _ _ _ _ _ _ (V64 s.g) _ rfl rfl rfl hR1 Tryd.underlying75 rfl (tab_get 8 _ 6 (by decide)) ?_))
      generalize hbig : (rotr s.e 6 ^^^ rotr s.e 11 ^^^ rotr s.e 25) = big
      generalize hpick : ((s.e &&& s.f) ^^^ (~~~s.e &&& s.g)) = pick
      have i1 := I_lo s.h
      have i2 := I_hi s.h
      have i3 := I_lo big
      have i4 := I_hi big
      have i5 := I_lo pick
      have i6 := I_hi pick
      have i7 := I_lo (at32 kTab i)
      have i8 := I_hi (at32 kTab i)
      have i9 := I_lo (at32 ws i)
      have i10 := I_hi (at32 ws i)
      have Ht := tmod_sum5 s.h big pick (at32 kTab i) (at32 ws i)
      generalize ht : s.h + big + pick + at32 kTab i + at32 ws i = t at Ht
      refine region_drew_tail 16 (by kernel_rfl) (by kernel_rfl) ?_
      simp only [List.take_succ_cons, List.take_zero, List.drop_succ_cons, List.drop_zero]
      repeat (first
        | ((with_reducible change wpQuiet _ _ _ _ (Oper.mk (some 151) _ _ _ _ _ :: _) _); refine qIndexAddr1 _ _ _ _ _ _ _ 7 _ rfl rfl rfl rfl Tryd.underlying76 info_u64b rfl (by decide) ?_; go_frame)
        | ((with_reducible change wpQuiet _ _ _ _ (Oper.mk (some 152) _ _ _ _ _ :: _) _); refine qLoad1 _ _ _ _ _ _ (V64 s.h) _ rfl rfl rfl (fun _ ⟨_, e⟩ => by rw [e]; exact hR1) Tryd.underlying75 rfl (tab_get 8 _ 7 (by decide)) ?_; go_frame)
        | ((with_reducible change wpQuiet _ _ _ _ (Oper.mk (some 158) _ _ _ _ _ :: _) _); refine qIndexAddr1 _ _ _ _ _ _ _ i _ rfl rfl rfl rfl Tryd.underlying77 info_u64b rfl hlt ?_; go_frame)
        | ((with_reducible change wpQuiet _ _ _ _ (Oper.mk (some 159) _ _ _ _ _ :: _) _); refine qLoad1 _ _ _ _ _ _ (V64 (at32 kTab i)) _ rfl rfl rfl (fun _ ⟨_, e⟩ => by rw [e]; exact hK1) Tryd.underlying75 rfl (tab_get 64 _ i hlt) ?_; go_frame)
        | ((with_reducible change wpQuiet _ _ _ _ (Oper.mk (some 163) _ _ _ _ _ :: _) _); refine qIndexAddrG _ _ _ _ _ _ _ _ _ i rfl rfl rfl rfl Tryd.underlying79 info_u64b rfl hlt ?_; go_frame)
        | ((with_reducible change wpQuiet _ _ _ _ (Oper.mk (some 164) _ _ _ _ _ :: _) _); refine qLoadCell _ _ _ _ (V64 (at32 ws i)) _ rfl rfl rfl (fun _ ⟨_, e⟩ => by rw [e]; exact hC1 _ hlt) Tryd.underlying75 rfl ?_; go_frame)
        | go_big_quiet_step (fail))
      refine wpQuiet_nil ?_
      rintro _ ⟨nq2, rfl⟩
      have hW2 : Wrote g wr (w1.drewN nq2) := hW1.trans (Wrote.drewN _ _ _)
      have hR2 : Row (w1.drewN nq2) g 76 (tab 8 fun p => V64 (at32 s.list p)) := hR1
      generalize w1.drewN nq2 = w2 at hW2 hR2 ⊢
      clear i1 i2 i3 i4 i5 i6 i7 i8 i9 i10 hK1 hC1 hWc hKr hR1 hW1
      go_wp2_with fail
      refine region_drew_tail 11 (by kernel_rfl) (by kernel_rfl) ?_
      simp only [List.take_succ_cons, List.take_zero, List.drop_succ_cons, List.drop_zero]
      repeat (first
        | ((with_reducible change wpQuiet _ _ _ _ (Oper.mk _ (Op.indexAddr _ _ _) _ _ _ _ :: _) _); refine qIndexAddr1 _ _ _ _ _ _ _ 0 _ rfl rfl rfl rfl Tryd.underlying76 info_u64b rfl (by decide) ?_; go_frame)
        | ((with_reducible change wpQuiet _ _ _ _ (Oper.mk _ (Op.load _ _) _ _ _ _ :: _) _); refine qLoad1 _ _ _ _ _ _ (V64 s.a) _ rfl rfl rfl (fun _ ⟨_, e⟩ => by rw [e]; exact hR2) Tryd.underlying75 rfl (tab_get 8 _ 0 (by decide)) ?_; go_frame)
        | go_big_quiet_step (first | (go_at_call 45; exact quiet_same (rright_int _ _ _ (by omega) (by omega)))))
      refine wpQuiet_nil ?_
      rintro _ ⟨nq3, rfl⟩
      have hW3 : Wrote g wr (w2.drewN nq3) := hW2.trans (Wrote.drewN _ _ _)
      have hR3 : Row (w2.drewN nq3) g 76 (tab 8 fun p => V64 (at32 s.list p)) := hR2
      generalize w2.drewN nq3 = w3 at hW3 hR3 ⊢
      clear hW2 hR2
      go_wp2_with (first
        | ((with_reducible change wpList _ _ _ (Oper.mk _ (Op.indexAddr _ _ _) _ _ _ _ :: _) _ _); refine kIndexAddr1 _ _ _ _ _ _ _ _ _ rfl rfl rfl rfl Tryd.underlying76 info_u64b (Int.toNat_of_nonneg (by decide)).symm (by decide) ?_)
        | ((with_reducible change wpList _ _ _ (Oper.mk (some 179) _ _ _ _ _ :: _) _ _); refine kLoad1 _ _ _ _ _ _ (V64 s.a) _ rfl rfl rfl hR3 Tryd.underlying75 rfl (tab_get 8 _ 0 (by decide)) ?_)
        | ((with_reducible change wpList _ _ _ (Oper.mk (some 181) _ _ _ _ _ :: _) _ _); refine kLoad1 _ _ _ _ _ _ (V64 s.b) _ rfl rfl rfl hR3 Tryd.underlying75 rfl (tab_get 8 _ 1 (by decide)) ?_)
        | ((with_reducible change wpList _ _ _ (Oper.mk (some 184) _ _ _ _ _ :: _) _ _); refine kLoad1 _ _ _ _ _ _ (V64 s.a) _ rfl rfl rfl hR3 Tryd.underlying75 rfl (tab_get 8 _ 0 (by decide)) ?_)
        | ((with_reducible change wpList _ _ _ (Oper.mk (some 186) _ _ _ _ _ :: _) _ _); refine kLoad1 _ _ _ _ _ _ (V64 s.c) _ rfl rfl rfl hR3 Tryd.underlying75 rfl (tab_get 8 _ 2 (by decide)) ?_)
        | ((with_reducible change wpList _ _ _ (Oper.mk (some 190) _ _ _ _ _ :: _) _ _); refine kLoad1 _ _ _ _ _ _ (V64 s.b) _ rfl rfl rfl hR3 Tryd.underlying75 rfl (tab_get 8 _ 1 (by decide)) ?_)
        | ((with_reducible change wpList _ _ _ (Oper.mk (some 192) _ _ _ _ _ :: _) _ _); refine kLoad1 _ _ _ _ _ _ (V64 s.c) _ rfl rfl rfl hR3 Tryd.underlying75 rfl (tab_get 8 _ 2 (by decide)) ?_))
      generalize hsmall : (rotr s.a 2 ^^^ rotr s.a 13 ^^^ rotr s.a 22) = small
      generalize hmost : ((s.a &&& s.b) ^^^ (s.a &&& s.c) ^^^ (s.b &&& s.c)) = most
      refine loop8 _ _ _ _ _ _ _ _ _ _ _ _ _ _ _ _ _ _ _ _ _ _ _ _ _ _ _ _ _ _ _ _ _ _ _ _ _ _ _ _ _ _ _ _ _ _ _ _ _ _ _ _ _ _ _ _ _ _ _ _ _ _ _ _ _ _ _ _ _ _ _ _ _ _ _ _ _ _ _ _ _ _ _ _ _ _ _ _ _ _ _ _ _ _ _ _ _ _ _ _ _ _ _ _ _ _ _ _ _ _ _ _ _ _ _ _ _ _ _ _ _ _ _ _ _ _ _ _ _ _ _ _ _ _ _ _ _ _ _ _ _ _ _ _ _ _ _ _ _ _ _ _ _ _ _ _ _ _ _ _ _ _ _ _ _ _ _ _ _ _ _ _ _ _ _ _ _ _ _ _ _ _ _ _ _ _ _ _ _ _ _ _ _ _ _ _ _ _ _ _ _ _ _ _ _ _ _ _ _ _ _ _ _ _ _ _ _ _ _ _ _ _ _ _ _ _ _ _ _ _ _ _ _ _ _ _ _ _ _ _ _ _ _ _ _ _ _ _ _ _ _ _ g s.list _ hR3 _ ?_
      intro u20 u195 u196 u197 u198 u199 u200 u201 u202 u203 u204 w4 hR4 hW4
      have i1 := I_lo s.d
      have i2 := I_hi s.d
      have i3 := I_lo t
      have i4 := I_hi t
      have i5 := I_lo small
      have i6 := I_hi small
      have i7 := I_lo most
      have i8 := I_hi most
      go_wp2_with (first
        | ((with_reducible change wpList _ _ _ (Oper.mk _ (Op.indexAddr _ _ _) _ _ _ _ :: _) _ _); refine kIndexAddr1 _ _ _ _ _ _ _ _ _ rfl rfl rfl rfl Tryd.underlying76 info_u64b (Int.toNat_of_nonneg (by decide)).symm (by decide) ?_)
        | ((with_reducible change wpList _ _ _ (Oper.mk (some 206) _ _ _ _ _ :: _) _ _); refine kLoad1 _ _ _ _ _ _ (V64 s.d) _ rfl rfl rfl hR4 Tryd.underlying75 rfl (tab_get 8 _ 4 (by decide)) ?_)
        | ((with_reducible change wpList _ _ _ (Oper.mk none (Op.store _ (Operand.tmp 210) _) _ _ _ _ :: _) _ _); refine kStore1 _ _ _ _ _ _ _ (V64 (s.d + t)) rfl rfl rfl (congrArg (Value.int IntKind.u64) (tmod_sum2 s.d t)) hR4 info_u64b (by rw [tab_size]; decide) rfl ?_; intro w5 hR5 hW5)
        | ((with_reducible change wpList _ _ _ (Oper.mk none (Op.store _ (Operand.tmp 217) _) _ _ _ _ :: _) _ _); refine kStore1 _ _ _ _ _ _ _ (V64 (t + (small + most))) rfl rfl rfl (congrArg (Value.int IntKind.u64) (tmod_sum3 t small most)) hR5 info_u64b (by rw [Array.size_setIfInBounds, tab_size]; decide) rfl ?_; intro w6 hR6 hW6))
      go_roundw
      case rel =>
        refine ⟨i + 1, by omega, by go_num, ?_, (((hWr.trans hW3).trans hW4).trans hW5).trans hW6⟩
        rw [Hnext]
        rw [tab_set (g := fun p => V64 (if p = 4 then s.d + t else at32 s.list (p - 1))) (fun p hp => by by_cases h4 : p = 4 <;> simp [h4]),
          tab_set (g := fun p => V64 (at32 (rnd s (at32 kTab i) (at32 ws i)).list p)) (fun p hp => ?_)] at hR6
        · exact hR6
        · subst hbig; subst hpick; subst hsmall; subst hmost; subst ht
          match p, hp with
          | 0, _ => rfl
          | 1, _ => rfl
          | 2, _ => rfl
          | 3, _ => rfl
          | 4, _ => rfl
          | 5, _ => rfl
          | 6, _ => rfl
          | 7, _ => rfl
      case measure => simp [intOf]; omega
    · have Hi := Lib.hid (show i = 64 by omega)
      have hd : decide ((i : Int) < 64) = false := by simp; omega
      rw [Hi.out] at hRr
      go_wp2
      all_goals first | done | exact hQ _ _ _ _ _ _ _ _ _ _ _ _ _ _ _ _ _ _ _ _ _ _ _ _ _ _ _ _ _ _ _ _ _ _ _ _ _ _ _ _ _ _ _ _ _ _ _ _ _ _ _ _ _ _ _ _ _ _ _ _ _ _ _ _ _ _ _ _ _ _ _ _ _ _ _ _ _ _ _ _ _ _ _ _ _ _ _ _ _ _ _ _ _ _ _ _ _ _ _ _ _ _ hRr hWr
end Go.Proofs.YtnaclalbeocpkaaDoor
