/-
  The reference's Sum: what the rounds made comes to what was before.
-/
import Derived.Test.YtnaclalbeocpkaaDoorRefL8
namespace Go.Proofs.YtnaclalbeocpkaaDoor
open Go Go.RowKit

set_option maxRecDepth 1000000 in
set_option maxHeartbeats 4000000 in
theorem loop10 (c0 c1 c2 c4 c5 c6 c7 c8 c9 c10 c11 c12 c14 c15 c16 c17 c18 c19 c20 c21 c22 c23 c24 c25 c26 c27 c28 c29 c30 c31 c32 c33 c34 c35 c36 c37 c38 c39 c40 c41 c42 c43 c44 c45 c46 c47 c48 c49 c50 c51 c52 c53 c54 c55 c56 c57 c58 c59 c60 c61 c62 c63 c64 c65 c66 c67 c68 c69 c70 c71 c72 c73 c74 c75 c76 c77 c78 c79 c80 c81 c82 c83 c84 c85 c86 c87 c88 c89 c90 c91 c92 c93 c94 c95 c96 c97 c98 c99 c100 c101 c102 c103 c104 c105 c106 c107 c108 c109 c110 c111 c112 c113 c114 c115 c116 c117 c118 c119 c120 c121 c122 c123 c124 c125 c126 c127 c128 c129 c130 c131 c132 c133 c134 c135 c136 c137 c138 c139 c140 c141 c142 c143 c144 c145 c146 c147 c148 c149 c150 c151 c152 c153 c154 c155 c156 c157 c158 c159 c160 c161 c162 c163 c164 c165 c166 c167 c168 c169 c170 c171 c172 c173 c174 c175 c176 c177 c178 c179 c180 c181 c182 c183 c184 c185 c186 c187 c188 c189 c190 c191 c192 c193 c194 c195 c196 c197 c198 c199 c200 c201 c202 c203 c204 c205 c206 c207 c208 c209 c210 c211 c212 c213 c214 c215 c216 c217 c219 c220 c221 c222 c223 c224 c225 c226 c227 c228 c229 c230 c231 c232 c233 c234 c235 c236 c237 c238 c239 c240 c241 c242 c243 c244 c245 c246 c247 c248 c249 c250 c251 c252 c253 : Value) (gv g : Nat) (l m : List UInt32) (w : World) (hgv : g ≠ gv) (hR : Row w gv 76 (tab 8 fun p => V64 (at32 l p))) (hX : Row w g 76 (tab 8 fun p => V64 (at32 m p)))
    (Q : Exit → Act → World → Prop) (hQ : ∀ (u21 u218 u219 u220 u221 u222 u223 u224 u225 u226 u227 u228 u229 u230 u231 : Value) (w' : World), Row w' gv 76 (tab 8 fun p => V64 (at32 l p + at32 m p)) → Wrote gv w w' → Q (.exit 10) ⟨(c0 :: c1 :: c2 :: Value.pointer (some ⟨gv, 0, none⟩) :: c4 :: c5 :: c6 :: c7 :: c8 :: c9 :: c10 :: c11 :: c12 :: Value.pointer (some ⟨g, 0, none⟩) :: c14 :: c15 :: c16 :: c17 :: c18 :: c19 :: c20 :: u21 :: c22 :: c23 :: c24 :: c25 :: c26 :: c27 :: c28 :: c29 :: c30 :: c31 :: c32 :: c33 :: c34 :: c35 :: c36 :: c37 :: c38 :: c39 :: c40 :: c41 :: c42 :: c43 :: c44 :: c45 :: c46 :: c47 :: c48 :: c49 :: c50 :: c51 :: c52 :: c53 :: c54 :: c55 :: c56 :: c57 :: c58 :: c59 :: c60 :: c61 :: c62 :: c63 :: c64 :: c65 :: c66 :: c67 :: c68 :: c69 :: c70 :: c71 :: c72 :: c73 :: c74 :: c75 :: c76 :: c77 :: c78 :: c79 :: c80 :: c81 :: c82 :: c83 :: c84 :: c85 :: c86 :: c87 :: c88 :: c89 :: c90 :: c91 :: c92 :: c93 :: c94 :: c95 :: c96 :: c97 :: c98 :: c99 :: c100 :: c101 :: c102 :: c103 :: c104 :: c105 :: c106 :: c107 :: c108 :: c109 :: c110 :: c111 :: c112 :: c113 :: c114 :: c115 :: c116 :: c117 :: c118 :: c119 :: c120 :: c121 :: c122 :: c123 :: c124 :: c125 :: c126 :: c127 :: c128 :: c129 :: c130 :: c131 :: c132 :: c133 :: c134 :: c135 :: c136 :: c137 :: c138 :: c139 :: c140 :: c141 :: c142 :: c143 :: c144 :: c145 :: c146 :: c147 :: c148 :: c149 :: c150 :: c151 :: c152 :: c153 :: c154 :: c155 :: c156 :: c157 :: c158 :: c159 :: c160 :: c161 :: c162 :: c163 :: c164 :: c165 :: c166 :: c167 :: c168 :: c169 :: c170 :: c171 :: c172 :: c173 :: c174 :: c175 :: c176 :: c177 :: c178 :: c179 :: c180 :: c181 :: c182 :: c183 :: c184 :: c185 :: c186 :: c187 :: c188 :: c189 :: c190 :: c191 :: c192 :: c193 :: c194 :: c195 :: c196 :: c197 :: c198 :: c199 :: c200 :: c201 :: c202 :: c203 :: c204 :: c205 :: c206 :: c207 :: c208 :: c209 :: c210 :: c211 :: c212 :: c213 :: c214 :: c215 :: c216 :: c217 :: u218 :: u219 :: u220 :: u221 :: u222 :: u223 :: u224 :: u225 :: u226 :: u227 :: u228 :: u229 :: u230 :: u231 :: c232 :: c233 :: c234 :: c235 :: c236 :: c237 :: c238 :: c239 :: c240 :: c241 :: c242 :: c243 :: c244 :: c245 :: c246 :: c247 :: c248 :: c249 :: c250 :: c251 :: c252 :: c253 :: ([] : List Value)).toArray, []⟩ w') :
    Code.wp Tryd.prog (.loop (sumLoop 10)) Q ⟨(c0 :: c1 :: c2 :: Value.pointer (some ⟨gv, 0, none⟩) :: c4 :: c5 :: c6 :: c7 :: c8 :: c9 :: c10 :: c11 :: c12 :: Value.pointer (some ⟨g, 0, none⟩) :: c14 :: c15 :: c16 :: c17 :: c18 :: c19 :: c20 :: c21 :: c22 :: c23 :: c24 :: c25 :: c26 :: c27 :: c28 :: c29 :: c30 :: c31 :: c32 :: c33 :: c34 :: c35 :: c36 :: c37 :: c38 :: c39 :: c40 :: c41 :: c42 :: c43 :: c44 :: c45 :: c46 :: c47 :: c48 :: c49 :: c50 :: c51 :: c52 :: c53 :: c54 :: c55 :: c56 :: c57 :: c58 :: c59 :: c60 :: c61 :: c62 :: c63 :: c64 :: c65 :: c66 :: c67 :: c68 :: c69 :: c70 :: c71 :: c72 :: c73 :: c74 :: c75 :: c76 :: c77 :: c78 :: c79 :: c80 :: c81 :: c82 :: c83 :: c84 :: c85 :: c86 :: c87 :: c88 :: c89 :: c90 :: c91 :: c92 :: c93 :: c94 :: c95 :: c96 :: c97 :: c98 :: c99 :: c100 :: c101 :: c102 :: c103 :: c104 :: c105 :: c106 :: c107 :: c108 :: c109 :: c110 :: c111 :: c112 :: c113 :: c114 :: c115 :: c116 :: c117 :: c118 :: c119 :: c120 :: c121 :: c122 :: c123 :: c124 :: c125 :: c126 :: c127 :: c128 :: c129 :: c130 :: c131 :: c132 :: c133 :: c134 :: c135 :: c136 :: c137 :: c138 :: c139 :: c140 :: c141 :: c142 :: c143 :: c144 :: c145 :: c146 :: c147 :: c148 :: c149 :: c150 :: c151 :: c152 :: c153 :: c154 :: c155 :: c156 :: c157 :: c158 :: c159 :: c160 :: c161 :: c162 :: c163 :: c164 :: c165 :: c166 :: c167 :: c168 :: c169 :: c170 :: c171 :: c172 :: c173 :: c174 :: c175 :: c176 :: c177 :: c178 :: c179 :: c180 :: c181 :: c182 :: c183 :: c184 :: c185 :: c186 :: c187 :: c188 :: c189 :: c190 :: c191 :: c192 :: c193 :: c194 :: c195 :: c196 :: c197 :: c198 :: c199 :: c200 :: c201 :: c202 :: c203 :: c204 :: c205 :: c206 :: c207 :: c208 :: c209 :: c210 :: c211 :: c212 :: c213 :: c214 :: c215 :: c216 :: c217 :: Value.int .i64 0 :: c219 :: c220 :: c221 :: c222 :: c223 :: c224 :: c225 :: c226 :: c227 :: c228 :: c229 :: c230 :: c231 :: c232 :: c233 :: c234 :: c235 :: c236 :: c237 :: c238 :: c239 :: c240 :: c241 :: c242 :: c243 :: c244 :: c245 :: c246 :: c247 :: c248 :: c249 :: c250 :: c251 :: c252 :: c253 :: ([] : List Value)).toArray, []⟩ w := by
  conv => arg 2; arg 1; whnf
  go_loopw [218] (fun jv wr => ∃ k : Nat, k ≤ 8 ∧ jv = .int .i64 (k : Int) ∧ Row wr gv 76 (tab 8 fun p => V64 (if p < k then at32 l p + at32 m p else at32 l p)) ∧ Wrote gv w wr) (fun jv _ => 8 - (intOf jv).toNat)
  case atStart => exact ⟨0, by omega, rfl, by rw [tab_congr (g := fun p => V64 (at32 l p)) (fun p hp => by rw [if_neg (by omega)])]; exact hR, Wrote.refl _ _⟩
  case round =>
    obtain ⟨k, hk, rfl, hRr, hWr⟩ := hrel
    by_cases hlt : k < 8
    · have hd : decide ((k : Int) < 8) = true := by simp; omega
      have hXr := hWr.row hX hgv
      have i1 := I_lo (at32 l k)
      have i2 := I_hi (at32 l k)
      have i3 := I_lo (at32 m k)
      have i4 := I_hi (at32 m k)
      have hsum := tmod_sum2 (at32 l k) (at32 m k)
      go_wp2_with fail
      refine region_drew_tail 10 (by kernel_rfl) (by kernel_rfl) ?_
      simp only [List.take_succ_cons, List.take_zero, List.drop_succ_cons, List.drop_zero]
      repeat (first
        | ((with_reducible change wpQuiet _ _ _ _ (Oper.mk _ (Op.indexAddr _ _ _) _ _ _ _ :: _) _); refine qIndexAddr1 _ _ _ _ _ _ _ k _ rfl rfl rfl rfl Tryd.underlying76 info_u64b rfl hlt ?_; go_frame)
        | ((with_reducible change wpQuiet _ _ _ _ (Oper.mk (some 224) _ _ _ _ _ :: _) _); refine qLoad1 _ _ _ _ _ _ (V64 (at32 l k)) _ rfl rfl rfl (fun _ ⟨_, e⟩ => by rw [e]; exact hRr) Tryd.underlying75 rfl (by rw [tab_get 8 _ k hlt, if_neg (by omega)]) ?_; go_frame)
        | ((with_reducible change wpQuiet _ _ _ _ (Oper.mk (some 227) _ _ _ _ _ :: _) _); refine qLoad1 _ _ _ _ _ _ (V64 (at32 m k)) _ rfl rfl rfl (fun _ ⟨_, e⟩ => by rw [e]; exact hXr) Tryd.underlying75 rfl (tab_get 8 _ k hlt) ?_; go_frame)
        | go_big_quiet_step (fail))
      refine wpQuiet_nil ?_
      rintro _ ⟨nq, rfl⟩
      refine kStore1 _ _ _ _ _ k _ (V64 (at32 l k + at32 m k)) rfl rfl rfl rfl (hRr.drewN nq) info_u64b (by rw [tab_size]; omega) rfl ?_
      intro w5 hR5 hW5
      go_frame
      go_wp2
      go_roundw
      case rel =>
        refine ⟨k + 1, by omega, by go_num, ?_, (hWr.trans (Wrote.drewN _ _ _)).trans hW5⟩
        rw [tab_set (g := fun p => V64 (if p < k + 1 then at32 l p + at32 m p else at32 l p))] at hR5
        · exact hR5
        · intro p hp
          by_cases hpk : p = k
          · rw [if_pos hpk, if_pos (by omega), hpk]
          · rw [if_neg hpk]
            by_cases hpl : p < k
            · rw [if_pos hpl, if_pos (by omega)]
            · rw [if_neg hpl, if_neg (by omega)]
      case measure => simp [intOf]; omega
    · have Hk := Lib.hid (show k = 8 by omega)
      have hd : decide ((k : Int) < 8) = false := by simp; omega
      rw [tab_congr (g := fun p => V64 (at32 l p + at32 m p)) (fun p hp => by rw [if_pos (by have := Hk.out; omega)])] at hRr
      go_wp2
      all_goals first | done | exact hQ _ _ _ _ _ _ _ _ _ _ _ _ _ _ _ _ hRr hWr
end Go.Proofs.YtnaclalbeocpkaaDoor
