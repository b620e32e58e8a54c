/-
  ArenaCalls: the arena and the references, cut to a few.
-/
import Derived.Test.YtmfpgbiicncpcaaCallsBase
set_option linter.unusedVariables false
set_option linter.unusedSimpArgs false
namespace Go.Proofs.Ytmfpgbiicncpcaa
open Go.RowKit

set_option maxHeartbeats 6400000 in
set_option maxRecDepth 100000 in
theorem calls_few (w1 : World) (b5 b8 n m q c d r q' n' m' : Nat) (A B C : Option Addr) (x : Nd) (c0 c1 c2 c3 c6 c7 c8 c9 c10 c11 c12 c13 c14 c15 c16 c17 c18 c19 c20 c21 c22 c23 c24 c25 c26 c27 c28 c29 c30 c31 c32 c33 c34 c35 c36 c37 c38 c39 c40 c41 c42 c43 c44 c45 c46 c47 c48 c49 c50 c51 c52 c53 c54 c55 c56 c57 c58 c59 c60 c61 c62 c63 c64 c65 c66 c67 c68 c69 c70 c71 c72 c73 c74 c75 c76 c77 c78 c79 c80 c81 c82 c83 c84 c85 c86 c87 c88 c89 c90 c91 c92 c93 c94 c95 c96 c97 c98 c99 c100 c101 c102 c103 c104 c105 c106 c107 c108 c109 c110 c111 c112 c113 c114 c115 c116 c117 c118 c119 c120 c121 c122 c123 c124 c125 c126 c127 c128 c129 c130 c131 c132 c133 c134 c135 c136 c137 c138 c139 c140 c141 c142 c143 c144 c145 c146 c147 c148 c149 c150 c151 c152 c153 c154 c155 c156 c157 c158 c159 c160 c161 c162 c163 c164 c165 c166 c167 c168 c169 c170 c171 c172 c173 c174 c175 c176 c177 c178 c179 c180 c181 c182 c183 c184 c185 c186 c187 c188 c189 c190 c191 c192 c193 c194 c195 c196 c197 c198 c199 c200 c201 c202 c203 c204 c205 c206 c207 c208 c209 c210 c211 c212 c213 c214 c215 c216 c217 c218 c219 c220 c221 c222 c223 c224 c225 c226 c227 c228 c229 c230 c231 c232 c233 c234 c235 c236 c237 c238 c239 c240 c241 c242 c243 c244 c245 c246 c247 c248 c249 c250 c251 c252 c253 c254 c255 c256 c257 c258 c259 c260 c261 c262 c263 c264 c265 c266 c267 c268 c269 c270 c271 c272 c273 c274 c275 c276 c277 c278 c279 : Value) (Q0 : Exit → Act → World → Prop) (hr : r ≤ maxLen) (hqr : q ≤ r) (hqm : (q ≤ 10 ∧ q' = q) ∨ (10 < q ∧ q' = 10))
    (HF : Hid (∀ W, Calls Try.prog 9 #[.agg #[.slice A n c, .slice B m d]] W fun e w' => e = .returned (.agg #[.slice A n' c, .slice B m' d]) ∧ Ext W w'))
    (HB1 : Hid (Bx w1 b5 #[.slice A n c, .slice B m d])) (HB2 : Hid (Bx w1 b8 x.arr)) (h58 : b5 < b8)
    (HNN : Hid (∀ (v4 v28 v29 v30 v31 v32 v33 v34 : Value) (wx : World), v4 = .slice C q' r → (∀ w, Ext w w1 → w.heap.size ≤ b5 → Ext w wx) → Bx wx b5 #[.slice A n' c, .slice B m' d] → Bx wx b8 x.arr → Q0 .normal ⟨List.toArray (c0 :: c1 :: c2 :: c3 :: v4 :: .pointer (some ⟨b5, 0, none⟩) :: c6 :: c7 :: c8 :: c9 :: c10 :: c11 :: c12 :: c13 :: c14 :: c15 :: c16 :: c17 :: c18 :: c19 :: c20 :: c21 :: c22 :: c23 :: c24 :: c25 :: c26 :: c27 :: v28 :: v29 :: v30 :: v31 :: v32 :: v33 :: v34 :: c35 :: c36 :: c37 :: c38 :: c39 :: c40 :: c41 :: c42 :: c43 :: c44 :: c45 :: c46 :: c47 :: c48 :: c49 :: c50 :: c51 :: c52 :: c53 :: c54 :: c55 :: c56 :: c57 :: c58 :: c59 :: c60 :: c61 :: c62 :: c63 :: c64 :: c65 :: c66 :: c67 :: c68 :: c69 :: c70 :: c71 :: c72 :: c73 :: c74 :: c75 :: c76 :: c77 :: c78 :: c79 :: c80 :: c81 :: c82 :: c83 :: c84 :: c85 :: c86 :: c87 :: c88 :: c89 :: c90 :: c91 :: c92 :: c93 :: c94 :: c95 :: c96 :: c97 :: c98 :: c99 :: c100 :: c101 :: c102 :: c103 :: c104 :: c105 :: c106 :: c107 :: c108 :: c109 :: c110 :: c111 :: c112 :: c113 :: c114 :: c115 :: c116 :: c117 :: c118 :: c119 :: c120 :: c121 :: c122 :: c123 :: c124 :: c125 :: c126 :: c127 :: c128 :: c129 :: c130 :: c131 :: c132 :: c133 :: c134 :: c135 :: c136 :: c137 :: c138 :: c139 :: c140 :: c141 :: c142 :: c143 :: c144 :: c145 :: c146 :: c147 :: c148 :: c149 :: c150 :: c151 :: c152 :: c153 :: c154 :: c155 :: c156 :: c157 :: c158 :: c159 :: c160 :: c161 :: c162 :: c163 :: c164 :: c165 :: c166 :: c167 :: c168 :: c169 :: c170 :: c171 :: c172 :: c173 :: c174 :: c175 :: c176 :: c177 :: c178 :: c179 :: c180 :: c181 :: c182 :: c183 :: c184 :: c185 :: c186 :: c187 :: c188 :: c189 :: c190 :: c191 :: c192 :: c193 :: c194 :: c195 :: c196 :: c197 :: c198 :: c199 :: c200 :: c201 :: c202 :: c203 :: c204 :: c205 :: c206 :: c207 :: c208 :: c209 :: c210 :: c211 :: c212 :: c213 :: c214 :: c215 :: c216 :: c217 :: c218 :: c219 :: c220 :: c221 :: c222 :: c223 :: c224 :: c225 :: c226 :: c227 :: c228 :: c229 :: c230 :: c231 :: c232 :: c233 :: c234 :: c235 :: c236 :: c237 :: c238 :: c239 :: c240 :: c241 :: c242 :: c243 :: c244 :: c245 :: c246 :: c247 :: c248 :: c249 :: c250 :: c251 :: c252 :: c253 :: c254 :: c255 :: c256 :: c257 :: c258 :: c259 :: c260 :: c261 :: c262 :: c263 :: c264 :: c265 :: c266 :: c267 :: c268 :: c269 :: c270 :: c271 :: c272 :: c273 :: c274 :: c275 :: c276 :: c277 :: c278 :: c279 :: []), []⟩ wx)) :
    Code.wp Try.prog (callsR 1) Q0 ⟨List.toArray (c0 :: c1 :: c2 :: c3 :: .slice C q r :: .pointer (some ⟨b5, 0, none⟩) :: c6 :: c7 :: c8 :: c9 :: c10 :: c11 :: c12 :: c13 :: c14 :: c15 :: c16 :: c17 :: c18 :: c19 :: c20 :: c21 :: c22 :: c23 :: c24 :: c25 :: c26 :: c27 :: c28 :: c29 :: c30 :: c31 :: c32 :: c33 :: c34 :: c35 :: c36 :: c37 :: c38 :: c39 :: c40 :: c41 :: c42 :: c43 :: c44 :: c45 :: c46 :: c47 :: c48 :: c49 :: c50 :: c51 :: c52 :: c53 :: c54 :: c55 :: c56 :: c57 :: c58 :: c59 :: c60 :: c61 :: c62 :: c63 :: c64 :: c65 :: c66 :: c67 :: c68 :: c69 :: c70 :: c71 :: c72 :: c73 :: c74 :: c75 :: c76 :: c77 :: c78 :: c79 :: c80 :: c81 :: c82 :: c83 :: c84 :: c85 :: c86 :: c87 :: c88 :: c89 :: c90 :: c91 :: c92 :: c93 :: c94 :: c95 :: c96 :: c97 :: c98 :: c99 :: c100 :: c101 :: c102 :: c103 :: c104 :: c105 :: c106 :: c107 :: c108 :: c109 :: c110 :: c111 :: c112 :: c113 :: c114 :: c115 :: c116 :: c117 :: c118 :: c119 :: c120 :: c121 :: c122 :: c123 :: c124 :: c125 :: c126 :: c127 :: c128 :: c129 :: c130 :: c131 :: c132 :: c133 :: c134 :: c135 :: c136 :: c137 :: c138 :: c139 :: c140 :: c141 :: c142 :: c143 :: c144 :: c145 :: c146 :: c147 :: c148 :: c149 :: c150 :: c151 :: c152 :: c153 :: c154 :: c155 :: c156 :: c157 :: c158 :: c159 :: c160 :: c161 :: c162 :: c163 :: c164 :: c165 :: c166 :: c167 :: c168 :: c169 :: c170 :: c171 :: c172 :: c173 :: c174 :: c175 :: c176 :: c177 :: c178 :: c179 :: c180 :: c181 :: c182 :: c183 :: c184 :: c185 :: c186 :: c187 :: c188 :: c189 :: c190 :: c191 :: c192 :: c193 :: c194 :: c195 :: c196 :: c197 :: c198 :: c199 :: c200 :: c201 :: c202 :: c203 :: c204 :: c205 :: c206 :: c207 :: c208 :: c209 :: c210 :: c211 :: c212 :: c213 :: c214 :: c215 :: c216 :: c217 :: c218 :: c219 :: c220 :: c221 :: c222 :: c223 :: c224 :: c225 :: c226 :: c227 :: c228 :: c229 :: c230 :: c231 :: c232 :: c233 :: c234 :: c235 :: c236 :: c237 :: c238 :: c239 :: c240 :: c241 :: c242 :: c243 :: c244 :: c245 :: c246 :: c247 :: c248 :: c249 :: c250 :: c251 :: c252 :: c253 :: c254 :: c255 :: c256 :: c257 :: c258 :: c259 :: c260 :: c261 :: c262 :: c263 :: c264 :: c265 :: c266 :: c267 :: c268 :: c269 :: c270 :: c271 :: c272 :: c273 :: c274 :: c275 :: c276 :: c277 :: c278 :: c279 :: []), []⟩ w1 := by
  conv => arg 2; whnf
  have k0 : w1.cell? ⟨b5, 0, none⟩ = some (.slice A n c) := HB1.out.cell 0
  have k1 : w1.cell? ⟨b5, 1, none⟩ = some (.slice B m d) := HB1.out.cell 1
  simp only [maxLen] at hr
  refine wp_region_noPanic ?_
  rcases hqm with ⟨hq, rfl⟩ | ⟨hq, rfl⟩
  · have e3 : min (q' : Int) 10 = q' := by omega
    go_region_with (first
      | (go_at_call 9
         refine (HF.out _).mono ?_
         rintro e w3 ⟨rfl, hx3⟩
         have B3 := HB1.out.to hx3.undrew
         have E3 := Lib.hid hx3.undrew
         have HB3 := Lib.hid B3
         have k0 : w3.cell? ⟨b5, 0, none⟩ = some (.slice A n c) := B3.cell 0
         have k1 : w3.cell? ⟨b5, 1, none⟩ = some (.slice B m d) := B3.cell 1
         have k2 : w3.frozen? ⟨b5, 0, none⟩ = false := B3.free 0
         have k3 : w3.frozen? ⟨b5, 1, none⟩ = false := B3.free 1
         clear B3 hx3))
    all_goals go_wp2_with fail
    all_goals refine NoPanic.normal ?_
    all_goals exact HNN.out _ _ _ _ _ _ _ _ _ rfl (fun w hw hb => (Only.two _ _ _ _).new (hw.step E3.out) hb) (HB3.out.two _ _) ((Only.two _ _ _ _).bx (HB2.out.to E3.out) (by omega))
  · have e3 : min (q : Int) 10 = 10 := by omega
    go_region_with (first
      | (go_at_call 9
         refine (HF.out _).mono ?_
         rintro e w3 ⟨rfl, hx3⟩
         have B3 := HB1.out.to hx3.undrew
         have E3 := Lib.hid hx3.undrew
         have HB3 := Lib.hid B3
         have k0 : w3.cell? ⟨b5, 0, none⟩ = some (.slice A n c) := B3.cell 0
         have k1 : w3.cell? ⟨b5, 1, none⟩ = some (.slice B m d) := B3.cell 1
         have k2 : w3.frozen? ⟨b5, 0, none⟩ = false := B3.free 0
         have k3 : w3.frozen? ⟨b5, 1, none⟩ = false := B3.free 1
         clear B3 hx3))
    all_goals go_wp2_with fail
    all_goals refine NoPanic.normal ?_
    all_goals exact HNN.out _ _ _ _ _ _ _ _ _ rfl (fun w hw hb => (Only.two _ _ _ _).new (hw.step E3.out) hb) (HB3.out.two _ _) ((Only.two _ _ _ _).bx (HB2.out.to E3.out) (by omega))

end Go.Proofs.Ytmfpgbiicncpcaa
