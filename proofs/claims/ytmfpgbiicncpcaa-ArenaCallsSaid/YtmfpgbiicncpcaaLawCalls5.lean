/-
  The walk of ArenaCalls: what Get answers.
-/
import Derived.Test.YtmfpgbiicncpcaaCallsC
import Derived.Test.YtmfpgbiicncpcaaLawCalls4
set_option linter.unusedVariables false
set_option linter.unusedSimpArgs false
namespace Go.Proofs.Ytmfpgbiicncpcaa
open Go.RowKit

set_option maxHeartbeats 6400000 in
set_option maxRecDepth 100000 in
theorem calls_part2c (w w8 : World) (b5 b8 b13 b15 n' m' c d q' r : Nat) (A B C : Option Addr) (ns' : List Nd) (fs' rs : List Int) (rr : Int) (x : Nd) (f14 s16 k17 h19 : Int) (v18 : Value) (c0 c1 c3 c6 c7 c9 c10 c11 c12 c20 c21 c22 c23 c24 c25 c26 c27 c28 c29 c30 c31 c32 c33 c34 c35 c36 c37 c38 c39 c40 c41 c42 c43 c44 c45 c46 c47 c48 c49 c50 c51 c52 c53 c54 c55 c56 c57 c58 c59 c60 c61 c62 c63 c64 c65 c66 c67 c68 c69 c70 c71 c72 c73 c74 c75 c76 c77 c78 c79 c80 c81 c82 c83 c84 c85 c86 c87 c88 c89 c90 c91 c92 c93 c94 c95 c96 c97 c98 c99 c100 c101 c102 c103 c104 c105 c106 c107 c108 c109 c110 c111 c112 c113 c114 c115 c116 c117 c118 c119 c120 c121 c122 c123 c124 c125 c126 c127 c128 c129 c130 c131 c132 c133 c134 c135 c136 c137 c138 c139 c140 c141 c142 c143 c144 c145 c146 c147 c148 c149 c150 c151 c152 c153 c154 c155 c156 c157 c158 c159 c160 c161 c162 c163 c164 c165 c166 c167 c168 c169 c170 c171 c172 c173 c174 c175 c176 c177 c178 c179 c180 c181 c182 c183 c184 c185 c186 c187 c188 c189 c190 c191 c192 c193 c194 c195 c196 c197 c198 c199 c200 c201 c202 c203 c204 c205 c206 c207 c208 c209 c210 c211 c212 c213 c214 c215 c216 c217 c218 c219 c220 c221 c222 c223 c224 c225 c226 c227 c228 c229 c230 c231 c232 c233 c234 c235 c236 c237 c238 c239 c240 c241 c242 c243 c244 c245 c246 c247 c248 c249 c250 c251 c252 c253 c254 c255 c256 c257 c258 c259 c260 c261 c262 c263 c264 c265 c266 c267 c268 c269 c270 c271 c272 c273 c274 c275 c276 c277 c278 c279 : Value)
    (hn40 : n' ≤ 40) (hm42 : m' ≤ 42) (hq10 : q' ≤ 10) (hr0 : 0 ≤ rr) (hr1 : rr ≤ 18446744073709551615) (h5 : w.heap.size ≤ b5) (h8 : b5 < b8) (h9 : b8 < b5 + 2) (HD : Hid (m' ≤ d ∧ d ≤ maxLen)) (HLN : Hid (ns'.length = n')) (HLF : Hid (fs'.length = m')) (HPL : Hid (rs.length = q')) (HU : Hid (∀ z ∈ rs, 0 ≤ z ∧ z ≤ 18446744073709551615)) (HX : Hid x.Ok)
    (HAw : Hid (Ar w A n' B m' ns' fs')) (HPw : Hid (Rd w 1 C q' (Us rs))) (E7 : Hid (Ext w w8)) (HB5 : Hid (Bx w8 b5 #[.slice A n' c, .slice B m' d])) (HB8 : Hid (Bx w8 b8 x.arr)) (HG : Hid (GetO w8 b13 ns' rr f14)) (HMk8 : Hid (MakeO (b5 + 2) w8 b15 s16 k17 n' m' ns' fs' x)) (HRe8 : Hid (ReachO w8 v18 h19 ns' fs' rs)) :
    Code.wp Try.prog (callsT 11) (bodyPost Try.prog Try.f3 fun e w' => e = .returned (.bool true) ∧ Ext w w') ⟨List.toArray (c0 :: c1 :: .int .u64 rr :: c3 :: .slice C q' r :: .pointer (some ⟨b5, 0, none⟩) :: c6 :: c7 :: .pointer (some ⟨b8, 0, none⟩) :: c9 :: c10 :: c11 :: c12 :: .pointer (some ⟨b13, 0, none⟩) :: .int .i64 f14 :: .pointer (some ⟨b15, 0, none⟩) :: .int .u64 s16 :: .int .i64 k17 :: v18 :: .int .i64 h19 :: c20 :: c21 :: c22 :: c23 :: c24 :: c25 :: c26 :: c27 :: c28 :: c29 :: c30 :: c31 :: c32 :: c33 :: c34 :: c35 :: c36 :: c37 :: c38 :: c39 :: c40 :: c41 :: c42 :: c43 :: c44 :: c45 :: c46 :: c47 :: c48 :: c49 :: c50 :: c51 :: c52 :: c53 :: c54 :: c55 :: c56 :: c57 :: c58 :: c59 :: c60 :: c61 :: c62 :: c63 :: c64 :: c65 :: c66 :: c67 :: c68 :: c69 :: c70 :: c71 :: c72 :: c73 :: c74 :: c75 :: c76 :: c77 :: c78 :: c79 :: c80 :: c81 :: c82 :: c83 :: c84 :: c85 :: c86 :: c87 :: c88 :: c89 :: c90 :: c91 :: c92 :: c93 :: c94 :: c95 :: c96 :: c97 :: c98 :: c99 :: c100 :: c101 :: c102 :: c103 :: c104 :: c105 :: c106 :: c107 :: c108 :: c109 :: c110 :: c111 :: c112 :: c113 :: c114 :: c115 :: c116 :: c117 :: c118 :: c119 :: c120 :: c121 :: c122 :: c123 :: c124 :: c125 :: c126 :: c127 :: c128 :: c129 :: c130 :: c131 :: c132 :: c133 :: c134 :: c135 :: c136 :: c137 :: c138 :: c139 :: c140 :: c141 :: c142 :: c143 :: c144 :: c145 :: c146 :: c147 :: c148 :: c149 :: c150 :: c151 :: c152 :: c153 :: c154 :: c155 :: c156 :: c157 :: c158 :: c159 :: c160 :: c161 :: c162 :: c163 :: c164 :: c165 :: c166 :: c167 :: c168 :: c169 :: c170 :: c171 :: c172 :: c173 :: c174 :: c175 :: c176 :: c177 :: c178 :: c179 :: c180 :: c181 :: c182 :: c183 :: c184 :: c185 :: c186 :: c187 :: c188 :: c189 :: c190 :: c191 :: c192 :: c193 :: c194 :: c195 :: c196 :: c197 :: c198 :: c199 :: c200 :: c201 :: c202 :: c203 :: c204 :: c205 :: c206 :: c207 :: c208 :: c209 :: c210 :: c211 :: c212 :: c213 :: c214 :: c215 :: c216 :: c217 :: c218 :: c219 :: c220 :: c221 :: c222 :: c223 :: c224 :: c225 :: c226 :: c227 :: c228 :: c229 :: c230 :: c231 :: c232 :: c233 :: c234 :: c235 :: c236 :: c237 :: c238 :: c239 :: c240 :: c241 :: c242 :: c243 :: c244 :: c245 :: c246 :: c247 :: c248 :: c249 :: c250 :: c251 :: c252 :: c253 :: c254 :: c255 :: c256 :: c257 :: c258 :: c259 :: c260 :: c261 :: c262 :: c263 :: c264 :: c265 :: c266 :: c267 :: c268 :: c269 :: c270 :: c271 :: c272 :: c273 :: c274 :: c275 :: c276 :: c277 :: c278 :: c279 :: []), []⟩ w8 := by
  let Q9 : Exit → Act → World → Prop := bodyPost Try.prog Try.f3 (fun e w' => e = .returned (.bool true) ∧ Ext w w')
  have HA := Lib.hid (HAw.out.to E7.out)
  conv => arg 2; whnf
  go_upto_region 11 with fail
  go_cut [20] (fun s20 wx => Ext w8 wx ∧ ∃ a, s20 = .int .i64 a ∧ Hid (AtO ns' rr a))
  case first =>
    have k0 : w8.cell? ⟨b5, 0, none⟩ = some (.slice A n' c) := HB5.out.cell 0
    have k1 : w8.cell? ⟨b5, 1, none⟩ = some (.slice B m' d) := HB5.out.cell 1
    have HM := Lib.hid (at_all A n' c m' d B ns' rr w8 hr0 hr1 HA.out.nodes)
    go_wp2_with fail
    refine HM.out.mono ?_; rintro e w9 ⟨⟨a, rfl, ha⟩, hx9⟩
    have HAa := Lib.hid ha
    clear ha
    go_wp2_with fail
    go_meet
    case rel => exact ⟨hx9, a, rfl, HAa⟩
  case rest =>
    obtain ⟨hx9, a20, rfl, hAt⟩ := hcut
    rename World => w9
    have X59 := Lib.hid hx9
    have HMk9 := Lib.hid (HMk8.out.to hx9)
    have HRe9 := Lib.hid (HRe8.out.to hx9)
    clear hx9 HMk8 HRe8
    go_upto_region 12 with fail
    refine calls_get w9 b5 b13 n' m' c d A B ns' rr f14 a20 _ _ _ _ _ _ _ _ _ _ _ _ _ _ _ _ _ _ _ _ _ _ _ _ _ _ _ _ _ _ _ _ _ _ _ _ _ _ _ _ _ _ _ _ _ _ _ _ _ _ _ _ _ _ _ _ _ _ _ _ _ _ _ _ _ _ _ _ _ _ _ _ _ _ _ _ _ _ _ _ _ _ _ _ _ _ _ _ _ _ _ _ _ _ _ _ _ _ _ _ _ _ _ _ _ _ _ _ _ _ _ _ _ _ _ _ _ _ _ _ _ _ _ _ _ _ _ _ _ _ _ _ _ _ _ _ _ _ _ _ _ _ _ _ _ _ _ _ _ _ _ _ _ _ _ _ _ _ _ _ _ _ _ _ _ _ _ _ _ _ _ _ _ _ _ _ _ _ _ _ _ _ _ _ _ _ _ _ _ _ _ _ _ _ _ _ _ _ _ _ _ _ _ _ _ _ _ _ _ _ _ _ _ _ _ _ _ _ _ _ _ _ _ _ _ _ _ _ _ _ _ _ _ _ _ _ _ _ _ _ _ _ _ _ _ _ _ _ _ _ _ _ _ _ _ _ _ _ _ _ _ _ _ _ _ _ _ _ _ _ _ _ _ _ _ _ _ (Lib.hid (HG.out.to X59.out)) hAt (Lib.hid (HB5.out.to X59.out)) (Lib.hid (HA.out.nodes.to X59.out)) (Lib.hid ?_)
    intro v115 v116 v117 v118 v119 v120 v121 v122 v123 v124 v125 v126 v127 v128 v129 v130 v131 v132 v133 v134 v135 v136 v137 v138 v139 v140 v141 v142 v143 v144 v145 v146 w10 h146 hx10
    subst h146
    have X10 := Lib.hid (X59.out.step hx10)
    have HMk10 := Lib.hid (HMk9.out.to hx10)
    have HRe10 := Lib.hid (HRe9.out.to hx10)
    clear hx10 HMk9 HRe9 hAt HG
    go_upto_if 146 with fail
    go_cut [] (fun wx => w10 = wx)
    case first =>
      go_wp2_with fail
      go_meet
      case rel => rfl
    case rest =>
      have hc : w10 = _ := hcut
      subst hc
      rename ∀ (a : Act) (w : World), Code.wp _ _ _ a w → _ => hK
      refine hK _ _ ?_
      exact calls_part2b w w10 b5 b8 b15 n' m' c d q' r A B C ns' fs' rs x s16 k17 h19 v18 _ _ _ _ _ _ _ _ _ _ _ _ _ _ _ _ _ _ _ _ _ _ _ _ _ _ _ _ _ _ _ _ _ _ _ _ _ _ _ _ _ _ _ _ _ _ _ _ _ _ _ _ _ _ _ _ _ _ _ _ _ _ _ _ _ _ _ _ _ _ _ _ _ _ _ _ _ _ _ _ _ _ _ _ _ _ _ _ _ _ _ _ _ _ _ _ _ _ _ _ _ _ _ _ _ _ _ _ _ _ _ _ _ _ _ _ _ _ _ _ _ _ _ _ _ _ _ _ _ _ _ _ _ _ _ _ _ _ _ _ _ _ _ _ _ _ _ _ _ _ _ _ _ _ _ _ _ _ _ _ _ _ _ _ _ _ _ _ _ _ _ _ _ _ _ _ _ _ _ _ _ _ _ _ _ _ _ _ _ _ _ _ _ _ _ _ _ _ _ _ _ _ _ _ _ _ _ _ _ _ _ _ _ _ _ _ _ _ _ _ _ _ _ _ _ _ _ _ _ _ _ _ _ _ _ _ _ _ _ _ _ _ _ _ _ _ _ _ _ _ _ _ _ _ _ _ _ _ _ _ _ _ _ _ _ _ _ _ _ _ _ _ hn40 hm42 hq10 h5 h8 h9 HD HLN HLF HPL HU HX HAw HPw (Lib.hid (E7.out.step X10.out)) (Lib.hid (HB5.out.to X10.out)) (Lib.hid (HB8.out.to X10.out)) HMk10 HRe10

end Go.Proofs.Ytmfpgbiicncpcaa
