/-
  The walk of ArenaCalls: an arena that may not be is refused.
-/
import Derived.Test.YtmfpgbiicncpcaaLawCalls3
set_option linter.unusedVariables false
set_option linter.unusedSimpArgs false
namespace Go.Proofs.Ytmfpgbiicncpcaa
open Go.RowKit

set_option maxHeartbeats 6400000 in
set_option maxRecDepth 100000 in
theorem calls_part2b (w w10 : World) (b5 b8 b15 n' m' c d q' r : Nat) (A B C : Option Addr) (ns' : List Nd) (fs' rs : List Int) (x : Nd) (s16 k17 h19 : Int) (v18 : Value) (c0 c1 c2 c3 c6 c7 c9 c10 c11 c12 c13 c14 c20 c21 c22 c23 c24 c25 c26 c27 c28 c29 c30 c31 c32 c33 c34 c35 c36 c37 c38 c39 c40 c41 c42 c43 c44 c45 c46 c47 c48 c49 c50 c51 c52 c53 c54 c55 c56 c57 c58 c59 c60 c61 c62 c63 c64 c65 c66 c67 c68 c69 c70 c71 c72 c73 c74 c75 c76 c77 c78 c79 c80 c81 c82 c83 c84 c85 c86 c87 c88 c89 c90 c91 c92 c93 c94 c95 c96 c97 c98 c99 c100 c101 c102 c103 c104 c105 c106 c107 c108 c109 c110 c111 c112 c113 c114 c115 c116 c117 c118 c119 c120 c121 c122 c123 c124 c125 c126 c127 c128 c129 c130 c131 c132 c133 c134 c135 c136 c137 c138 c139 c140 c141 c142 c143 c144 c145 c146 c147 c148 c149 c150 c151 c152 c153 c154 c155 c156 c157 c158 c159 c160 c161 c162 c163 c164 c165 c166 c167 c168 c169 c170 c171 c172 c173 c174 c175 c176 c177 c178 c179 c180 c181 c182 c183 c184 c185 c186 c187 c188 c189 c190 c191 c192 c193 c194 c195 c196 c197 c198 c199 c200 c201 c202 c203 c204 c205 c206 c207 c208 c209 c210 c211 c212 c213 c214 c215 c216 c217 c218 c219 c220 c221 c222 c223 c224 c225 c226 c227 c228 c229 c230 c231 c232 c233 c234 c235 c236 c237 c238 c239 c240 c241 c242 c243 c244 c245 c246 c247 c248 c249 c250 c251 c252 c253 c254 c255 c256 c257 c258 c259 c260 c261 c262 c263 c264 c265 c266 c267 c268 c269 c270 c271 c272 c273 c274 c275 c276 c277 c278 c279 : Value)
    (hn40 : n' ≤ 40) (hm42 : m' ≤ 42) (hq10 : q' ≤ 10) (h5 : w.heap.size ≤ b5) (h8 : b5 < b8) (h9 : b8 < b5 + 2) (HD : Hid (m' ≤ d ∧ d ≤ maxLen)) (HLN : Hid (ns'.length = n')) (HLF : Hid (fs'.length = m')) (HPL : Hid (rs.length = q')) (HU : Hid (∀ z ∈ rs, 0 ≤ z ∧ z ≤ 18446744073709551615)) (HX : Hid x.Ok)
    (HAw : Hid (Ar w A n' B m' ns' fs')) (HPw : Hid (Rd w 1 C q' (Us rs))) (E10 : Hid (Ext w w10)) (HB5 : Hid (Bx w10 b5 #[.slice A n' c, .slice B m' d])) (HB8 : Hid (Bx w10 b8 x.arr))
    (HMk : Hid (MakeO (b5 + 2) w10 b15 s16 k17 n' m' ns' fs' x)) (HRe : Hid (ReachO w10 v18 h19 ns' fs' rs)) :
    Code.wp Try.prog (callsT 14) (bodyPost Try.prog Try.f3 fun e w' => e = .returned (.bool true) ∧ Ext w w') ⟨List.toArray (c0 :: c1 :: c2 :: c3 :: .slice C q' r :: .pointer (some ⟨b5, 0, none⟩) :: c6 :: c7 :: .pointer (some ⟨b8, 0, none⟩) :: c9 :: c10 :: c11 :: c12 :: c13 :: c14 :: .pointer (some ⟨b15, 0, none⟩) :: .int .u64 s16 :: .int .i64 k17 :: v18 :: .int .i64 h19 :: c20 :: c21 :: c22 :: c23 :: c24 :: c25 :: c26 :: c27 :: c28 :: c29 :: c30 :: c31 :: c32 :: c33 :: c34 :: c35 :: c36 :: c37 :: c38 :: c39 :: c40 :: c41 :: c42 :: c43 :: c44 :: c45 :: c46 :: c47 :: c48 :: c49 :: c50 :: c51 :: c52 :: c53 :: c54 :: c55 :: c56 :: c57 :: c58 :: c59 :: c60 :: c61 :: c62 :: c63 :: c64 :: c65 :: c66 :: c67 :: c68 :: c69 :: c70 :: c71 :: c72 :: c73 :: c74 :: c75 :: c76 :: c77 :: c78 :: c79 :: c80 :: c81 :: c82 :: c83 :: c84 :: c85 :: c86 :: c87 :: c88 :: c89 :: c90 :: c91 :: c92 :: c93 :: c94 :: c95 :: c96 :: c97 :: c98 :: c99 :: c100 :: c101 :: c102 :: c103 :: c104 :: c105 :: c106 :: c107 :: c108 :: c109 :: c110 :: c111 :: c112 :: c113 :: c114 :: c115 :: c116 :: c117 :: c118 :: c119 :: c120 :: c121 :: c122 :: c123 :: c124 :: c125 :: c126 :: c127 :: c128 :: c129 :: c130 :: c131 :: c132 :: c133 :: c134 :: c135 :: c136 :: c137 :: c138 :: c139 :: c140 :: c141 :: c142 :: c143 :: c144 :: c145 :: c146 :: c147 :: c148 :: c149 :: c150 :: c151 :: c152 :: c153 :: c154 :: c155 :: c156 :: c157 :: c158 :: c159 :: c160 :: c161 :: c162 :: c163 :: c164 :: c165 :: c166 :: c167 :: c168 :: c169 :: c170 :: c171 :: c172 :: c173 :: c174 :: c175 :: c176 :: c177 :: c178 :: c179 :: c180 :: c181 :: c182 :: c183 :: c184 :: c185 :: c186 :: c187 :: c188 :: c189 :: c190 :: c191 :: c192 :: c193 :: c194 :: c195 :: c196 :: c197 :: c198 :: c199 :: c200 :: c201 :: c202 :: c203 :: c204 :: c205 :: c206 :: c207 :: c208 :: c209 :: c210 :: c211 :: c212 :: c213 :: c214 :: c215 :: c216 :: c217 :: c218 :: c219 :: c220 :: c221 :: c222 :: c223 :: c224 :: c225 :: c226 :: c227 :: c228 :: c229 :: c230 :: c231 :: c232 :: c233 :: c234 :: c235 :: c236 :: c237 :: c238 :: c239 :: c240 :: c241 :: c242 :: c243 :: c244 :: c245 :: c246 :: c247 :: c248 :: c249 :: c250 :: c251 :: c252 :: c253 :: c254 :: c255 :: c256 :: c257 :: c258 :: c259 :: c260 :: c261 :: c262 :: c263 :: c264 :: c265 :: c266 :: c267 :: c268 :: c269 :: c270 :: c271 :: c272 :: c273 :: c274 :: c275 :: c276 :: c277 :: c278 :: c279 :: []), []⟩ w10 := by
  let Q9 : Exit → Act → World → Prop := bodyPost Try.prog Try.f3 (fun e w' => e = .returned (.bool true) ∧ Ext w w')
  have HA10 := Lib.hid (HAw.out.to E10.out)
  conv => arg 2; whnf
  obtain ⟨may, hmay⟩ : ∃ may : Bool, may = true ↔ ArMay ns' fs' := (Classical.em (ArMay ns' fs')).elim (fun h => ⟨true, by simp [h]⟩) (fun h => ⟨false, by simp [h]⟩)
  have HMy := Lib.hid hmay
  have HR := Lib.hid (want_right A B n' m' c d ns' fs' w10 HA10.out (by omega) (by omega) may hmay)
  have k0 : w10.cell? ⟨b5, 0, none⟩ = some (.slice A n' c) := HB5.out.cell 0
  have k1 : w10.cell? ⟨b5, 1, none⟩ = some (.slice B m' d) := HB5.out.cell 1
  clear hmay
  go_wp2_with fail
  refine HR.out.mono ?_; rintro e w11 ⟨rfl, hx11⟩
  have X11 := Lib.hid hx11
  have HMk11 := Lib.hid (HMk.out.to hx11)
  have HRe11 := Lib.hid (HRe.out.to hx11)
  clear hx11 HMk HRe k0 k1 HR
  have HR := Lib.hid (arRight_is A B n' m' c d ns' fs' w11 (HA10.out.to X11.out) (by omega) (by omega) may HMy.out)
  have k0 : w11.cell? ⟨b5, 0, none⟩ = some (.slice A n' c) := (HB5.out.to X11.out).cell 0
  have k1 : w11.cell? ⟨b5, 1, none⟩ = some (.slice B m' d) := (HB5.out.to X11.out).cell 1
  go_wp2_with fail
  refine HR.out.mono ?_; rintro e w12 ⟨rfl, hx12⟩
  have X12 := Lib.hid (X11.out.step hx12)
  have HMk12 := Lib.hid (HMk11.out.to hx12)
  have HRe12 := Lib.hid (HRe11.out.to hx12)
  clear hx12 HMk11 HRe11 k0 k1 HR X11
  cases may with
  | false =>
    have hno : ¬ ArMay ns' fs' := fun hh => by have := HMy.out.2 hh; cases this
    obtain ⟨rfl, rfl⟩ : h19 = 1 ∧ v18 = .slice none 0 0 := by
      rcases HRe12.out with ⟨_, h1, h2⟩ | ⟨h1, _⟩
      · exact ⟨h1, h2⟩
      · exact absurd h1 hno
    obtain ⟨rfl, rfl, hB15⟩ : k17 = 1 ∧ s16 = 0 ∧ Hid (Bx w12 b15 #[.slice none 0 0, .slice none 0 0]) := by
      rcases HMk12.out.2 with ⟨_, _, h3, _, h5, h6⟩ | ⟨_, _, _, _, _, _, _, _, _, _, h, _⟩
      · exact ⟨h3.2 (fun hh => hno hh.1), h5, Lib.hid h6⟩
      · exact absurd h hno
    have z0 : w12.cell? ⟨b15, 0, none⟩ = some (.slice none 0 0) := hB15.out.cell 0
    clear hno
    go_wp2_with fail
    go_ret
    exact ⟨rfl, E10.out.step X12.out⟩
  | true =>
    have hmay : ArMay ns' fs' := HMy.out.1 rfl
    obtain ⟨rfl, P18, q18, rfl, hR18⟩ : h19 = 0 ∧ ∃ P q, v18 = .slice P (reached ns' rs).length q ∧ Hid (Rd w12 1 P (reached ns' rs).length (Ks .i64 (reached ns' rs))) := by
      rcases HRe12.out with ⟨h1, _⟩ | ⟨_, h1, P, q, h2, h3⟩
      · exact absurd hmay h1
      · exact ⟨h1, P, q, h2, Lib.hid h3⟩
    have HM18 := Lib.hid hmay
    clear hmay HRe12
    go_upto_if 154 with fail
    go_cut [] (fun wx => w12 = wx)
    case first =>
      go_wp2_with fail
      go_meet
      case rel => rfl
    case rest =>
      have hc : w12 = _ := hcut
      subst hc
      have E12 := Lib.hid (E10.out.step X12.out)
      rename ∀ (a : Act) (w : World), Code.wp _ _ _ a w → _ => hK
      refine hK _ _ ?_
      exact calls_part3 w w12 b5 b8 b15 n' m' c d q' r (reached ns' rs).length q18 A B C P18 ns' fs' rs x s16 k17 _ _ _ _ _ _ _ _ _ _ _ _ _ _ _ _ _ _ _ _ _ _ _ _ _ _ _ _ _ _ _ _ _ _ _ _ _ _ _ _ _ _ _ _ _ _ _ _ _ _ _ _ _ _ _ _ _ _ _ _ _ _ _ _ _ _ _ _ _ _ _ _ _ _ _ _ _ _ _ _ _ _ _ _ _ _ _ _ _ _ _ _ _ _ _ _ _ _ _ _ _ _ _ _ _ _ _ _ _ _ _ _ _ _ _ _ _ _ _ _ _ _ _ _ _ _ _ _ _ _ _ _ _ _ _ _ _ _ _ _ _ _ _ _ _ _ _ _ _ _ _ _ _ _ _ _ _ _ _ _ _ _ _ _ _ _ _ _ _ _ _ _ _ _ _ _ _ _ _ _ _ _ _ _ _ _ _ _ _ _ _ _ _ _ _ _ _ _ _ _ _ _ _ _ _ _ _ _ _ _ _ _ _ _ _ _ _ _ _ _ _ _ _ _ _ _ _ _ _ _ _ _ _ _ _ _ _ _ _ _ _ _ _ _ _ _ _ _ _ _ _ _ _ _ _ _ _ _ _ _ _ _ _ _ _ _ _ _ _ _ _ _ hn40 hm42 hq10 h5 h8 h9 HD HLN HLF HPL HU HX HAw HPw E12 (Lib.hid (HB5.out.to X12.out)) (Lib.hid (HB8.out.to X12.out)) HMk12 hR18 HM18

end Go.Proofs.Ytmfpgbiicncpcaa
