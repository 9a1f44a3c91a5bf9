/-
  The reference's Sum: a number's four bytes, the last first.
-/
import Derived.Test.YtnaclalbeocpkaaDoorRefL8
namespace Go.Proofs.YtnaclalbeocpkaaDoor
open Go Go.RowKit

/-- the k-th byte of a number, the highest first -/
def byteOf (x : UInt32) (k : Nat) : UInt8 := UInt8.ofNat (x.toNat / 2 ^ (24 - 8 * k))
theorem I_div256 (x : UInt32) (k : Nat) : (I x / 2 ^ (8 * k)).tdiv 256 = I x / 2 ^ (8 * (k + 1)) := by
  have h0 : 0 ≤ I x / 2 ^ (8 * k) := Int.ediv_nonneg (I_lo x) (Int.pow_nonneg (by decide))
  rw [Int.tdiv_eq_ediv_of_nonneg h0, Int.ediv_ediv_of_nonneg (Int.pow_nonneg (by decide)), show 8 * (k + 1) = 8 * k + 8 by omega, Int.pow_add]
  rfl
theorem I_byte (x : UInt32) (k : Nat) (hk : k ≤ 3) : (I x / 2 ^ (8 * k)).tmod 256 % 256 = B (byteOf x (3 - k)) := by
  have h0 : 0 ≤ I x / 2 ^ (8 * k) := Int.ediv_nonneg (I_lo x) (Int.pow_nonneg (by decide))
  rw [Int.tmod_eq_emod_of_nonneg h0]
  unfold B byteOf I
  rw [UInt8.toNat_ofNat', show 24 - 8 * (3 - k) = 8 * k by omega, Int.natCast_emod, Int.natCast_ediv, Int.natCast_pow]
  exact Int.emod_emod_of_dvd _ (Int.dvd_refl _)

set_option maxRecDepth 1000000 in
set_option maxHeartbeats 4000000 in
theorem loop14 (c0 c1 c2 c3 c4 c5 c6 c7 c8 c9 c10 c11 c12 c13 c14 c15 c16 c17 c18 c19 c20 c21 c26 c27 c28 c29 c30 c31 c32 c33 c34 c35 c36 c37 c38 c39 c40 c41 c42 c43 c44 c45 c46 c47 c48 c49 c50 c51 c52 c53 c54 c55 c56 c57 c58 c59 c60 c61 c62 c63 c64 c65 c66 c67 c68 c69 c70 c71 c72 c73 c74 c75 c76 c77 c78 c79 c80 c81 c82 c83 c84 c85 c86 c87 c88 c89 c90 c91 c92 c93 c94 c95 c96 c97 c98 c99 c100 c101 c102 c103 c104 c105 c106 c107 c108 c109 c110 c111 c112 c113 c114 c115 c116 c117 c118 c119 c120 c121 c122 c123 c124 c125 c126 c127 c128 c129 c130 c131 c132 c133 c134 c135 c136 c137 c138 c139 c140 c141 c142 c143 c144 c145 c146 c147 c148 c149 c150 c151 c152 c153 c154 c155 c156 c157 c158 c159 c160 c161 c162 c163 c164 c165 c166 c167 c168 c169 c170 c171 c172 c173 c174 c175 c176 c177 c178 c179 c180 c181 c182 c183 c184 c185 c186 c187 c188 c189 c190 c191 c192 c193 c194 c195 c196 c197 c198 c199 c200 c201 c202 c203 c204 c205 c206 c207 c208 c209 c210 c211 c212 c213 c214 c215 c216 c217 c218 c219 c220 c221 c222 c223 c224 c225 c226 c227 c228 c229 c230 c231 c232 c233 c234 c235 c236 c237 c238 c239 c240 c241 c242 c243 c244 c245 c246 c247 c248 c249 c250 c251 c252 c253 : Value) (g j : Nat) (hj : j < 8) (x : UInt32) (f : Nat → UInt8) (w : World) (hR : Row w g 59 (tab 32 fun p => VB (f p)))
    (Q : Exit → Act → World → Prop) (hQ : ∀ (u24 u25 u238 u239 u240 u241 u242 u243 u244 u245 u246 u247 u248 u249 u250 u251 : Value) (w' : World), Row w' g 59 (tab 32 fun p => VB (if p / 4 = j then byteOf x (p % 4) else f p)) → Wrote g w w' → Q (.exit 14) ⟨(c0 :: c1 :: c2 :: c3 :: c4 :: c5 :: c6 :: c7 :: c8 :: c9 :: c10 :: c11 :: c12 :: c13 :: c14 :: c15 :: c16 :: c17 :: c18 :: c19 :: c20 :: c21 :: Value.pointer (some ⟨g, 0, none⟩) :: Value.int .i64 (j : Int) :: u24 :: u25 :: c26 :: c27 :: c28 :: c29 :: c30 :: c31 :: c32 :: c33 :: c34 :: c35 :: c36 :: c37 :: c38 :: c39 :: c40 :: c41 :: c42 :: c43 :: c44 :: c45 :: c46 :: c47 :: c48 :: c49 :: c50 :: c51 :: c52 :: c53 :: c54 :: c55 :: c56 :: c57 :: c58 :: c59 :: c60 :: c61 :: c62 :: c63 :: c64 :: c65 :: c66 :: c67 :: c68 :: c69 :: c70 :: c71 :: c72 :: c73 :: c74 :: c75 :: c76 :: c77 :: c78 :: c79 :: c80 :: c81 :: c82 :: c83 :: c84 :: c85 :: c86 :: c87 :: c88 :: c89 :: c90 :: c91 :: c92 :: c93 :: c94 :: c95 :: c96 :: c97 :: c98 :: c99 :: c100 :: c101 :: c102 :: c103 :: c104 :: c105 :: c106 :: c107 :: c108 :: c109 :: c110 :: c111 :: c112 :: c113 :: c114 :: c115 :: c116 :: c117 :: c118 :: c119 :: c120 :: c121 :: c122 :: c123 :: c124 :: c125 :: c126 :: c127 :: c128 :: c129 :: c130 :: c131 :: c132 :: c133 :: c134 :: c135 :: c136 :: c137 :: c138 :: c139 :: c140 :: c141 :: c142 :: c143 :: c144 :: c145 :: c146 :: c147 :: c148 :: c149 :: c150 :: c151 :: c152 :: c153 :: c154 :: c155 :: c156 :: c157 :: c158 :: c159 :: c160 :: c161 :: c162 :: c163 :: c164 :: c165 :: c166 :: c167 :: c168 :: c169 :: c170 :: c171 :: c172 :: c173 :: c174 :: c175 :: c176 :: c177 :: c178 :: c179 :: c180 :: c181 :: c182 :: c183 :: c184 :: c185 :: c186 :: c187 :: c188 :: c189 :: c190 :: c191 :: c192 :: c193 :: c194 :: c195 :: c196 :: c197 :: c198 :: c199 :: c200 :: c201 :: c202 :: c203 :: c204 :: c205 :: c206 :: c207 :: c208 :: c209 :: c210 :: c211 :: c212 :: c213 :: c214 :: c215 :: c216 :: c217 :: c218 :: c219 :: c220 :: c221 :: c222 :: c223 :: c224 :: c225 :: c226 :: c227 :: c228 :: c229 :: c230 :: c231 :: c232 :: c233 :: c234 :: c235 :: c236 :: c237 :: u238 :: u239 :: u240 :: u241 :: u242 :: u243 :: u244 :: u245 :: u246 :: u247 :: u248 :: u249 :: u250 :: u251 :: c252 :: c253 :: ([] : List Value)).toArray, []⟩ w') :
    Code.wp Tryd.prog (.loop (sumLoop 14)) Q ⟨(c0 :: c1 :: c2 :: c3 :: c4 :: c5 :: c6 :: c7 :: c8 :: c9 :: c10 :: c11 :: c12 :: c13 :: c14 :: c15 :: c16 :: c17 :: c18 :: c19 :: c20 :: c21 :: Value.pointer (some ⟨g, 0, none⟩) :: Value.int .i64 (j : Int) :: V64 x :: Value.int .i64 3 :: c26 :: c27 :: c28 :: c29 :: c30 :: c31 :: c32 :: c33 :: c34 :: c35 :: c36 :: c37 :: c38 :: c39 :: c40 :: c41 :: c42 :: c43 :: c44 :: c45 :: c46 :: c47 :: c48 :: c49 :: c50 :: c51 :: c52 :: c53 :: c54 :: c55 :: c56 :: c57 :: c58 :: c59 :: c60 :: c61 :: c62 :: c63 :: c64 :: c65 :: c66 :: c67 :: c68 :: c69 :: c70 :: c71 :: c72 :: c73 :: c74 :: c75 :: c76 :: c77 :: c78 :: c79 :: c80 :: c81 :: c82 :: c83 :: c84 :: c85 :: c86 :: c87 :: c88 :: c89 :: c90 :: c91 :: c92 :: c93 :: c94 :: c95 :: c96 :: c97 :: c98 :: c99 :: c100 :: c101 :: c102 :: c103 :: c104 :: c105 :: c106 :: c107 :: c108 :: c109 :: c110 :: c111 :: c112 :: c113 :: c114 :: c115 :: c116 :: c117 :: c118 :: c119 :: c120 :: c121 :: c122 :: c123 :: c124 :: c125 :: c126 :: c127 :: c128 :: c129 :: c130 :: c131 :: c132 :: c133 :: c134 :: c135 :: c136 :: c137 :: c138 :: c139 :: c140 :: c141 :: c142 :: c143 :: c144 :: c145 :: c146 :: c147 :: c148 :: c149 :: c150 :: c151 :: c152 :: c153 :: c154 :: c155 :: c156 :: c157 :: c158 :: c159 :: c160 :: c161 :: c162 :: c163 :: c164 :: c165 :: c166 :: c167 :: c168 :: c169 :: c170 :: c171 :: c172 :: c173 :: c174 :: c175 :: c176 :: c177 :: c178 :: c179 :: c180 :: c181 :: c182 :: c183 :: c184 :: c185 :: c186 :: c187 :: c188 :: c189 :: c190 :: c191 :: c192 :: c193 :: c194 :: c195 :: c196 :: c197 :: c198 :: c199 :: c200 :: c201 :: c202 :: c203 :: c204 :: c205 :: c206 :: c207 :: c208 :: c209 :: c210 :: c211 :: c212 :: c213 :: c214 :: c215 :: c216 :: c217 :: c218 :: c219 :: c220 :: c221 :: c222 :: c223 :: c224 :: c225 :: c226 :: c227 :: c228 :: c229 :: c230 :: c231 :: c232 :: c233 :: c234 :: c235 :: c236 :: c237 :: c238 :: c239 :: c240 :: c241 :: c242 :: c243 :: c244 :: c245 :: c246 :: c247 :: c248 :: c249 :: c250 :: c251 :: c252 :: c253 :: ([] : List Value)).toArray, []⟩ w := by
  conv => arg 2; arg 1; whnf
  go_loopw [25, 24] (fun iv nv wr => ∃ k : Nat, k ≤ 4 ∧ iv = .int .i64 (3 - (k : Int)) ∧ nv = .int .u64 (I x / 2 ^ (8 * k)) ∧ Row wr g 59 (tab 32 fun p => VB (if p / 4 = j ∧ 4 ≤ p % 4 + k then byteOf x (p % 4) else f p)) ∧ Wrote g w wr) (fun iv _ _ => (intOf iv + 1).toNat)
  case atStart => exact ⟨0, by omega, rfl, by simp, by rw [tab_congr (g := fun p => VB (f p)) (fun p hp => by rw [if_neg (by omega)])]; exact hR, Wrote.refl _ _⟩
  case round =>
    obtain ⟨k, hk, rfl, rfl, hRr, hWr⟩ := hrel
    by_cases hlt : k < 4
    · have hd : decide ((3 : Int) - (k : Int) ≥ 0) = true := by simp; omega
      have i1 : 0 ≤ I x / 2 ^ (8 * k) := Int.ediv_nonneg (I_lo x) (Int.pow_nonneg (by decide))
      have i2 : I x / 2 ^ (8 * k) < 4294967296 := Int.lt_of_le_of_lt (Int.ediv_le_self _ (I_lo x)) (I_hi x)
      have Hdiv := Lib.hid (I_div256 x k)
      have Hbyte := Lib.hid (I_byte x k (by omega))
      generalize I x / 2 ^ (8 * k) = y at i1 i2 Hdiv Hbyte ⊢
      have Hb2 := Lib.hid (show y % 256 % 256 = B (byteOf x (3 - k)) by rw [← Hbyte.out, Int.tmod_eq_emod_of_nonneg i1])
      have Hb3 := Lib.hid (show y % 256 = B (byteOf x (3 - k)) by rw [← Hbyte.out, Int.tmod_eq_emod_of_nonneg i1]; omega)
      have Hd2 := Lib.hid (show y / 256 = I x / 2 ^ (8 * (k + 1)) by rw [← Hdiv.out, Int.tdiv_eq_ediv_of_nonneg i1])
      go_wp2_with (first
        | ((with_reducible change wpList _ _ _ (Oper.mk (some 249) _ _ _ _ _ :: _) _ _); refine kIndexAddr1 _ _ _ _ _ _ _ (4 * j + (3 - k)) _ rfl rfl rfl rfl Tryd.underlying59 info_byte (by omega) (by omega) ?_)
        | ((with_reducible change wpList _ _ _ (Oper.mk none _ _ _ _ _ :: _) _ _); refine kStore1 _ _ _ _ _ _ _ (VB (byteOf x (3 - k))) rfl rfl rfl (by first | exact congrArg (Value.int IntKind.u8) Hbyte.out | exact congrArg (Value.int IntKind.u8) Hb2.out | exact congrArg (Value.int IntKind.u8) Hb3.out) hRr info_byte (by rw [tab_size]; omega) rfl ?_; intro w5 hR5 hW5))
      go_roundw
      case rel =>
        refine ⟨k + 1, by omega, by go_num, congrArg (Value.int IntKind.u64) Hd2.out, ?_, hWr.trans hW5⟩
        rw [tab_set (g := fun p => VB (if p / 4 = j ∧ 4 ≤ p % 4 + (k + 1) then byteOf x (p % 4) else f p))] at hR5
        · exact hR5
        · intro p hp
          by_cases hpk : p = 4 * j + (3 - k)
          · rw [if_pos hpk, if_pos (by omega), show p % 4 = 3 - k by omega]
          · rw [if_neg hpk]
            by_cases hpl : p / 4 = j ∧ 4 ≤ p % 4 + k
            · rw [if_pos hpl, if_pos (by omega)]
            · rw [if_neg hpl, if_neg (by omega)]
      case measure => simp [intOf]; omega
    · have Hk := Lib.hid (show k = 4 by omega)
      have hd : decide ((3 : Int) - (k : Int) ≥ 0) = false := by simp; omega
      rw [tab_congr (g := fun p => VB (if p / 4 = j then byteOf x (p % 4) else f p)) (fun p hp => by
        by_cases h4 : p / 4 = j
        · rw [if_pos ⟨h4, by have := Hk.out; omega⟩, if_pos h4]
        · rw [if_neg (fun h => h4 h.1), if_neg h4])] at hRr
      go_wp2
      all_goals first | done | exact hQ _ _ _ _ _ _ _ _ _ _ _ _ _ _ _ _ _ hRr hWr
end Go.Proofs.YtnaclalbeocpkaaDoor
