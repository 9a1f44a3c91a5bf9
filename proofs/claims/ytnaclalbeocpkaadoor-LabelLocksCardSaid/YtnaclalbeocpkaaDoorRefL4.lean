/-
  The reference's Sum: its inmost loop: four bytes make a number.
-/
import Derived.Test.YtnaclalbeocpkaaDoorRefPad
namespace Go.Proofs.YtnaclalbeocpkaaDoor
open Go Go.RowKit

/-- the body of the loop in the block of this number -/
def loopIn (k : Nat) : Code → Option Code
  | .block id c => if id = k then (match c with | .loop b => some b | _ => none) else loopIn k c
  | .loop c => loopIn k c
  | .scope c => loopIn k c
  | .seq a b => match loopIn k a with
    | some c => some c
    | none => loopIn k b
  | .cond _ a b => match loopIn k a with
    | some c => some c
    | none => loopIn k b
  | _ => none
noncomputable def sumLoop (k : Nat) : Code := ((Tryd.f37.body.bind (loopIn k)).getD .skip)

def blockOf (D : List UInt8) (n : Nat) : List UInt8 := (D.drop (64 * n)).take 64
theorem blockOf_len (D : List UInt8) (n : Nat) (h : 64 * n + 64 ≤ D.length) : (blockOf D n).length = 64 := by unfold blockOf; simp; omega
theorem blockOf_at (D : List UInt8) (n j : Nat) (hj : j < 64) (h : 64 * n + 64 ≤ D.length) : at8 (blockOf D n) j = at8 D (64 * n + j) := by
  rw [at8_lt _ _ (by rw [blockOf_len D n h]; exact hj), at8_lt _ _ (by omega)]; unfold blockOf; simp
theorem vals_at (D : List UInt8) (j : Nat) (h : j < D.length) : (D.map VB)[j]? = some (VB (at8 D j)) := by simp [at8, h]
def quad (bs : List UInt8) (i j : Nat) : UInt32 := (((bs.drop (4 * i)).take 4).take j).foldl push8 0
theorem quad_succ (bs : List UInt8) (i j : Nat) (hj : j < 4) (h : 4 * i + 4 ≤ bs.length) : quad bs i (j + 1) = push8 (quad bs i j) (at8 bs (4 * i + j)) := by
  unfold quad
  rw [List.take_succ_eq_append_getElem (by simp; omega), List.foldl_append, at8_lt _ _ (by omega)]
  simp
theorem push8_small (x : UInt32) (b : UInt8) (h : x.toNat * 256 + 256 ≤ 4294967296) : (push8 x b).toNat = x.toNat * 256 + b.toNat := by
  have hb := b.toNat_lt
  unfold push8
  rw [UInt32.toNat_add, UInt32.toNat_mul]
  have : (UInt8.toUInt32 b).toNat = b.toNat := by simp
  rw [this, show (256 : UInt32).toNat = 256 from rfl]
  omega
theorem quad_lt (bs : List UInt8) (i : Nat) (h : 4 * i + 4 ≤ bs.length) (j : Nat) (hj : j < 4) : (quad bs i j).toNat < 16777216 := by
  have h0 : (quad bs i 0).toNat = 0 := rfl
  have hb0 := (at8 bs (4 * i + 0)).toNat_lt
  have hb1 := (at8 bs (4 * i + 1)).toNat_lt
  have hb2 := (at8 bs (4 * i + 2)).toNat_lt
  have h1 : (quad bs i 1).toNat < 256 := by rw [quad_succ bs i 0 (by omega) h, push8_small _ _ (by omega), h0]; omega
  have h2 : (quad bs i 2).toNat < 65536 := by rw [quad_succ bs i 1 (by omega) h, push8_small _ _ (by omega)]; omega
  have h3 : (quad bs i 3).toNat < 16777216 := by rw [quad_succ bs i 2 (by omega) h, push8_small _ _ (by omega)]; omega
  match j, hj with
  | 0, _ => omega
  | 1, _ => omega
  | 2, _ => omega
  | 3, _ => omega
theorem quad_num (bs : List UInt8) (i j : Nat) (hj : j < 4) (h : 4 * i + 4 ≤ bs.length) : 256 * I (quad bs i j) + B (at8 bs (4 * i + j)) = I (quad bs i (j + 1)) := by
  have h1 := quad_lt bs i h j hj
  rw [quad_succ bs i j hj h]
  unfold I B
  rw [push8_small _ _ (by omega)]
  omega
theorem quad_four (bs : List UInt8) (i : Nat) (h : bs.length = 64) : quad bs i 4 = part bs 64 i := by
  unfold quad part
  rw [List.take_take, List.take_of_length_le (l := bs) (by omega)]; rfl

set_option maxRecDepth 1000000 in
set_option maxHeartbeats 4000000 in
theorem loop4 (c0 c1 c2 c3 c5 c7 c11 c12 c13 c14 c15 c16 c17 c18 c19 c20 c21 c22 c23 c24 c25 c26 c27 c28 c29 c30 c31 c32 c33 c34 c35 c36 c37 c38 c39 c40 c41 c42 c43 c44 c45 c46 c47 c48 c49 c50 c51 c52 c53 c54 c55 c56 c57 c58 c59 c60 c61 c62 c63 c64 c65 c66 c67 c68 c69 c70 c71 c72 c73 c74 c75 c76 c77 c78 c79 c80 c81 c82 c83 c84 c85 c86 c87 c88 c89 c90 c91 c92 c93 c94 c95 c96 c97 c98 c99 c100 c101 c102 c103 c104 c105 c106 c107 c108 c109 c110 c111 c112 c113 c114 c115 c116 c117 c118 c119 c120 c121 c122 c123 c124 c125 c126 c127 c128 c129 c130 c131 c132 c133 c134 c135 c136 c137 c138 c139 c140 c141 c142 c143 c144 c145 c146 c147 c148 c149 c150 c151 c152 c153 c154 c155 c156 c157 c158 c159 c160 c161 c162 c163 c164 c165 c166 c167 c168 c169 c170 c171 c172 c173 c174 c175 c176 c177 c178 c179 c180 c181 c182 c183 c184 c185 c186 c187 c188 c189 c190 c191 c192 c193 c194 c195 c196 c197 c198 c199 c200 c201 c202 c203 c204 c205 c206 c207 c208 c209 c210 c211 c212 c213 c214 c215 c216 c217 c218 c219 c220 c221 c222 c223 c224 c225 c226 c227 c228 c229 c230 c231 c232 c233 c234 c235 c236 c237 c238 c239 c240 c241 c242 c243 c244 c245 c246 c247 c248 c249 c250 c251 c252 c253 : Value) (n i : Nat) (D : List UInt8) (v4 : Value) (w : World) (hA : IsVals w v4 (D.map VB)) (hD : D.length ≤ 2000000) (hn : 64 * n + 64 ≤ D.length) (hi : i < 16)
    (Q : Exit → Act → World → Prop) (hQ : ∀ u10 u43 u44 u45 u46 u47 u48 u49 u50 u51 u52 u53 u54 u55 u56 u57 u58 u59 : Value, Q (.exit 4) ⟨(c0 :: c1 :: c2 :: c3 :: v4 :: c5 :: Value.int .i64 (64 * (n : Int)) :: c7 :: Value.int .i64 (i : Int) :: V64 (part (blockOf D n) 64 i) :: u10 :: c11 :: c12 :: c13 :: c14 :: c15 :: c16 :: c17 :: c18 :: c19 :: c20 :: c21 :: c22 :: c23 :: c24 :: c25 :: c26 :: c27 :: c28 :: c29 :: c30 :: c31 :: c32 :: c33 :: c34 :: c35 :: c36 :: c37 :: c38 :: c39 :: c40 :: c41 :: c42 :: u43 :: u44 :: u45 :: u46 :: u47 :: u48 :: u49 :: u50 :: u51 :: u52 :: u53 :: u54 :: u55 :: u56 :: u57 :: u58 :: u59 :: c60 :: c61 :: c62 :: c63 :: c64 :: c65 :: c66 :: c67 :: c68 :: c69 :: c70 :: c71 :: c72 :: c73 :: c74 :: c75 :: c76 :: c77 :: c78 :: c79 :: c80 :: c81 :: c82 :: c83 :: c84 :: c85 :: c86 :: c87 :: c88 :: c89 :: c90 :: c91 :: c92 :: c93 :: c94 :: c95 :: c96 :: c97 :: c98 :: c99 :: c100 :: c101 :: c102 :: c103 :: c104 :: c105 :: c106 :: c107 :: c108 :: c109 :: c110 :: c111 :: c112 :: c113 :: c114 :: c115 :: c116 :: c117 :: c118 :: c119 :: c120 :: c121 :: c122 :: c123 :: c124 :: c125 :: c126 :: c127 :: c128 :: c129 :: c130 :: c131 :: c132 :: c133 :: c134 :: c135 :: c136 :: c137 :: c138 :: c139 :: c140 :: c141 :: c142 :: c143 :: c144 :: c145 :: c146 :: c147 :: c148 :: c149 :: c150 :: c151 :: c152 :: c153 :: c154 :: c155 :: c156 :: c157 :: c158 :: c159 :: c160 :: c161 :: c162 :: c163 :: c164 :: c165 :: c166 :: c167 :: c168 :: c169 :: c170 :: c171 :: c172 :: c173 :: c174 :: c175 :: c176 :: c177 :: c178 :: c179 :: c180 :: c181 :: c182 :: c183 :: c184 :: c185 :: c186 :: c187 :: c188 :: c189 :: c190 :: c191 :: c192 :: c193 :: c194 :: c195 :: c196 :: c197 :: c198 :: c199 :: c200 :: c201 :: c202 :: c203 :: c204 :: c205 :: c206 :: c207 :: c208 :: c209 :: c210 :: c211 :: c212 :: c213 :: c214 :: c215 :: c216 :: c217 :: c218 :: c219 :: c220 :: c221 :: c222 :: c223 :: c224 :: c225 :: c226 :: c227 :: c228 :: c229 :: c230 :: c231 :: c232 :: c233 :: c234 :: c235 :: c236 :: c237 :: c238 :: c239 :: c240 :: c241 :: c242 :: c243 :: c244 :: c245 :: c246 :: c247 :: c248 :: c249 :: c250 :: c251 :: c252 :: c253 :: ([] : List Value)).toArray, []⟩ w) :
    Code.wp Tryd.prog (.loop (sumLoop 4)) Q ⟨(c0 :: c1 :: c2 :: c3 :: v4 :: c5 :: Value.int .i64 (64 * (n : Int)) :: c7 :: Value.int .i64 (i : Int) :: V64 0 :: Value.int .i64 0 :: c11 :: c12 :: c13 :: c14 :: c15 :: c16 :: c17 :: c18 :: c19 :: c20 :: c21 :: c22 :: c23 :: c24 :: c25 :: c26 :: c27 :: c28 :: c29 :: c30 :: c31 :: c32 :: c33 :: c34 :: c35 :: c36 :: c37 :: c38 :: c39 :: c40 :: c41 :: c42 :: c43 :: c44 :: c45 :: c46 :: c47 :: c48 :: c49 :: c50 :: c51 :: c52 :: c53 :: c54 :: c55 :: c56 :: c57 :: c58 :: c59 :: c60 :: c61 :: c62 :: c63 :: c64 :: c65 :: c66 :: c67 :: c68 :: c69 :: c70 :: c71 :: c72 :: c73 :: c74 :: c75 :: c76 :: c77 :: c78 :: c79 :: c80 :: c81 :: c82 :: c83 :: c84 :: c85 :: c86 :: c87 :: c88 :: c89 :: c90 :: c91 :: c92 :: c93 :: c94 :: c95 :: c96 :: c97 :: c98 :: c99 :: c100 :: c101 :: c102 :: c103 :: c104 :: c105 :: c106 :: c107 :: c108 :: c109 :: c110 :: c111 :: c112 :: c113 :: c114 :: c115 :: c116 :: c117 :: c118 :: c119 :: c120 :: c121 :: c122 :: c123 :: c124 :: c125 :: c126 :: c127 :: c128 :: c129 :: c130 :: c131 :: c132 :: c133 :: c134 :: c135 :: c136 :: c137 :: c138 :: c139 :: c140 :: c141 :: c142 :: c143 :: c144 :: c145 :: c146 :: c147 :: c148 :: c149 :: c150 :: c151 :: c152 :: c153 :: c154 :: c155 :: c156 :: c157 :: c158 :: c159 :: c160 :: c161 :: c162 :: c163 :: c164 :: c165 :: c166 :: c167 :: c168 :: c169 :: c170 :: c171 :: c172 :: c173 :: c174 :: c175 :: c176 :: c177 :: c178 :: c179 :: c180 :: c181 :: c182 :: c183 :: c184 :: c185 :: c186 :: c187 :: c188 :: c189 :: c190 :: c191 :: c192 :: c193 :: c194 :: c195 :: c196 :: c197 :: c198 :: c199 :: c200 :: c201 :: c202 :: c203 :: c204 :: c205 :: c206 :: c207 :: c208 :: c209 :: c210 :: c211 :: c212 :: c213 :: c214 :: c215 :: c216 :: c217 :: c218 :: c219 :: c220 :: c221 :: c222 :: c223 :: c224 :: c225 :: c226 :: c227 :: c228 :: c229 :: c230 :: c231 :: c232 :: c233 :: c234 :: c235 :: c236 :: c237 :: c238 :: c239 :: c240 :: c241 :: c242 :: c243 :: c244 :: c245 :: c246 :: c247 :: c248 :: c249 :: c250 :: c251 :: c252 :: c253 :: ([] : List Value)).toArray, []⟩ w := by
  conv => arg 2; arg 1; whnf
  have hbl := blockOf_len D n hn
  go_loopw [10, 9] (fun jv v wr => ∃ j : Nat, j ≤ 4 ∧ jv = .int .i64 (j : Int) ∧ v = V64 (quad (blockOf D n) i j) ∧ wr = w) (fun jv _ _ => 4 - (intOf jv).toNat)
  case atStart => exact ⟨0, by omega, rfl, rfl, rfl⟩
  case round =>
    obtain ⟨j, hj, rfl, rfl, rfl⟩ := hrel
    by_cases hlt : j < 4
    · have hd : decide ((j : Int) < 4) = true := by simp; omega
      have hq1 := I_lo (quad (blockOf D n) i j)
      have hq2 := I_hi (quad (blockOf D n) i j)
      have hb1 := B_lo (at8 D (64 * n + (4 * i + j)))
      have hb2 := B_hi (at8 D (64 * n + (4 * i + j)))
      have Hnum := Lib.hid (quad_num (blockOf D n) i j hlt (by omega))
      go_wp2_with (first
        | ((with_reducible change wpList _ _ _ (Oper.mk (some 56) _ _ _ _ _ :: _) _ _); refine kIndexAddrV _ _ _ _ _ _ _ _ (64 * n + (4 * i + j)) (VB (at8 D (64 * n + (4 * i + j)))) rfl rfl rfl hA rfl Tryd.underlying22 info_byte (by omega) (vals_at D _ (by omega)) ?_; intro ad had)
        | ((with_reducible change wpList _ _ _ (Oper.mk (some 57) _ _ _ _ _ :: _) _ _); refine kLoadCell _ _ _ _ _ rfl rfl rfl had Tryd.underlying5 rfl ?_))
      go_roundw
      case rel =>
        refine ⟨j + 1, by omega, by go_num, ?_, by trivial⟩
        rw [← blockOf_at D n (4 * i + j) (by omega) hn]
        exact congrArg (Value.int IntKind.u64) Hnum.out
      case measure => simp [intOf]; omega
    · have Hj := Lib.hid (show j = 4 by omega)
      have hd : decide ((j : Int) < 4) = false := by simp; omega
      rw [show quad (blockOf D n) i j = part (blockOf D n) 64 i by rw [Hj.out, quad_four _ _ hbl]]
      go_wp2
      all_goals first | done | exact hQ _ _ _ _ _ _ _ _ _ _ _ _ _ _ _ _ _ _
end Go.Proofs.YtnaclalbeocpkaaDoor
