/-
  TreapMakes from Del's answer on.
-/
import Derived.Test.YtjiehlhnocgneaaMakesB19
set_option linter.unusedVariables false
set_option linter.unusedSimpArgs false
namespace Go.Proofs.Ytjiehlhnocgneaa
open Go.RowKit

set_option maxHeartbeats 12800000 in
set_option maxRecDepth 100000 in
theorem makes_B (w0 w : World) (ba bc bd n c m d ne ce me de nd cd md dd jl cL jj cc : Nat) (A B Ae Be Ad Bd L LL : Option Addr) (x y g t f key : Int) (fu : Bool) (ns : List Nd) (fs : List Int) (row : Row) (c0 c1 c3 c5 c6 c7 c8 c10 c11 c12 c23 c24 c25 c26 c27 c28 c29 c30 c31 c32 c33 c34 c35 c36 c37 c38 c39 c40 c41 c42 c43 c44 c45 c46 c47 c48 c49 c50 c51 c52 c53 c54 c55 c56 c57 c58 c59 c60 c61 c62 c63 c64 c65 c66 c67 c68 c69 c70 c71 c72 c73 c74 c75 c76 c77 c78 c79 c80 c81 c82 c83 c84 c85 c86 c87 c88 c89 c90 c91 c92 c93 c94 c95 c96 c97 c98 c99 c100 c101 c102 c103 c104 c105 c106 c107 c108 c109 c110 c111 c112 c113 c114 c115 c116 c117 c118 c119 c120 c121 c122 c123 c124 c125 c126 c127 c128 c129 c130 c131 c132 c133 c134 c135 c136 c137 c138 c139 c140 c141 c142 c143 c144 c145 c146 c147 c148 c149 c150 c151 c152 c153 c154 c155 c156 c157 c158 c159 c160 c161 c162 c163 c164 c165 c166 c167 c168 c169 c170 c171 c172 c173 c174 c175 c176 c177 c178 c179 c180 c181 c182 c183 c184 c185 c186 c187 c188 c189 c190 c191 c192 c193 c194 c195 c196 c197 c198 c199 c200 c201 c202 c203 c204 c205 c206 c207 c208 c209 c210 c211 c212 c213 c214 c215 c216 c217 c218 c219 c220 c221 c222 c223 c224 c225 c226 c227 c228 c229 c230 c231 c232 c233 c234 c235 c236 c237 c238 c239 c240 c241 c242 c243 c244 c245 c246 c247 c248 c249 c250 c251 c252 c253 c254 c255 c256 c257 c258 c259 c260 c261 c262 c263 c264 c265 c266 c267 c268 c269 : Value)
    (E0 : Hid (Ext w0 w)) (HBa : Hid (Bx w ba #[.slice A n c, .slice B m d])) (HAv : Hid (Av w A n B m ns fs)) (HFu : Hid (fu = true ↔ m < 2 * jl + 1)) (HBd : Hid (Bx w bd #[.slice Ad nd cd, .slice Bd md dd])) (HSp : Hid (SpV w Ad nd Bd md x y g ns fs row key))
    (HBc : Hid (Bx w bc #[.slice Ae ne ce, .slice Be me de])) (HDe : Hid (DeV w Ae ne Be me t f ns fs row key)) (HR : Hid (RdR w (.slice L jl cL) row)) (HRl : Hid (RdR w (.slice LL jj cc) (lo row key))) (HS : Hid (Srt row)) (hl : row.length ≤ 200) :
    Code.wp Try.prog (makesT 16) (bodyPost Try.prog Try.f3 fun e w' => e = .returned (.bool true) ∧ Ext w0 w') ⟨List.toArray (c0 :: c1 :: .int .i64 key :: c3 :: .pointer (some ⟨ba, 0, none⟩) :: c5 :: c6 :: c7 :: c8 :: .slice L jl cL :: c10 :: c11 :: c12 :: .pointer (some ⟨bc, 0, none⟩) :: .int .u64 t :: .int .i64 f :: .pointer (some ⟨bd, 0, none⟩) :: .int .u64 x :: .int .u64 y :: .int .i64 g :: .int .i64 jl :: .slice LL jj cc :: .bool fu :: c23 :: c24 :: c25 :: c26 :: c27 :: c28 :: c29 :: c30 :: c31 :: c32 :: c33 :: c34 :: c35 :: c36 :: c37 :: c38 :: c39 :: c40 :: c41 :: c42 :: c43 :: c44 :: c45 :: c46 :: c47 :: c48 :: c49 :: c50 :: c51 :: c52 :: c53 :: c54 :: c55 :: c56 :: c57 :: c58 :: c59 :: c60 :: c61 :: c62 :: c63 :: c64 :: c65 :: c66 :: c67 :: c68 :: c69 :: c70 :: c71 :: c72 :: c73 :: c74 :: c75 :: c76 :: c77 :: c78 :: c79 :: c80 :: c81 :: c82 :: c83 :: c84 :: c85 :: c86 :: c87 :: c88 :: c89 :: c90 :: c91 :: c92 :: c93 :: c94 :: c95 :: c96 :: c97 :: c98 :: c99 :: c100 :: c101 :: c102 :: c103 :: c104 :: c105 :: c106 :: c107 :: c108 :: c109 :: c110 :: c111 :: c112 :: c113 :: c114 :: c115 :: c116 :: c117 :: c118 :: c119 :: c120 :: c121 :: c122 :: c123 :: c124 :: c125 :: c126 :: c127 :: c128 :: c129 :: c130 :: c131 :: c132 :: c133 :: c134 :: c135 :: c136 :: c137 :: c138 :: c139 :: c140 :: c141 :: c142 :: c143 :: c144 :: c145 :: c146 :: c147 :: c148 :: c149 :: c150 :: c151 :: c152 :: c153 :: c154 :: c155 :: c156 :: c157 :: c158 :: c159 :: c160 :: c161 :: c162 :: c163 :: c164 :: c165 :: c166 :: c167 :: c168 :: c169 :: c170 :: c171 :: c172 :: c173 :: c174 :: c175 :: c176 :: c177 :: c178 :: c179 :: c180 :: c181 :: c182 :: c183 :: c184 :: c185 :: c186 :: c187 :: c188 :: c189 :: c190 :: c191 :: c192 :: c193 :: c194 :: c195 :: c196 :: c197 :: c198 :: c199 :: c200 :: c201 :: c202 :: c203 :: c204 :: c205 :: c206 :: c207 :: c208 :: c209 :: c210 :: c211 :: c212 :: c213 :: c214 :: c215 :: c216 :: c217 :: c218 :: c219 :: c220 :: c221 :: c222 :: c223 :: c224 :: c225 :: c226 :: c227 :: c228 :: c229 :: c230 :: c231 :: c232 :: c233 :: c234 :: c235 :: c236 :: c237 :: c238 :: c239 :: c240 :: c241 :: c242 :: c243 :: c244 :: c245 :: c246 :: c247 :: c248 :: c249 :: c250 :: c251 :: c252 :: c253 :: c254 :: c255 :: c256 :: c257 :: c258 :: c259 :: c260 :: c261 :: c262 :: c263 :: c264 :: c265 :: c266 :: c267 :: c268 :: c269 :: []), []⟩ w := by
  have HJl := Lib.hid HR.out.len
  have HF := Lib.hid HAv.out.ar.lenF
  have hjl : jl ≤ 200 := by have := HJl.out; omega
  have HAt := Lib.hid (rdr_at HR.out (by omega) key)
  conv => arg 2; whnf
  go_upto_region 16 with fail
  go_cut [140] (fun s wx => Ext w wx ∧ ∃ b : Bool, s = .bool b ∧ Hid (b = true ↔ ¬ HasK row key))
  case first =>
    go_wp2_with fail
    refine (HAt.out _ (Ext.refl _)).mono ?_
    rintro e w1 ⟨⟨hno, rfl⟩ | ⟨j, u, hj, rfl⟩, hx⟩
    · have HN := Lib.hid hno
      have HX := Lib.hid hx
      clear hno hx
      go_wp2_with fail
      go_meet
      case rel => exact ⟨HX.out, true, rfl, Lib.hid (iff_of_true rfl HN.out)⟩
    · have HN := Lib.hid (show HasK row key from ⟨u, List.mem_of_getElem? hj⟩)
      have HX := Lib.hid hx
      have e1 : ¬ ((j : Int) < 0) := by omega
      clear hj hx
      go_wp2_with fail
      go_meet
      case rel => exact ⟨HX.out, false, rfl, Lib.hid (iff_of_false (by decide) (fun h => h HN.out))⟩
  case rest =>
    obtain ⟨hx1, b, rfl, hb⟩ := hcut
    rename World => w1
    have X1 := Lib.hid hx1
    clear hx1
    go_upto_if 140 with fail
    go_cut [] (fun wx => Ext w1 wx)
    case first =>
      cases b with
      | true =>
        obtain ⟨rfl, rfl⟩ : f = 3 ∧ t = 0 := by
          rcases HDe.out with h | h
          · exact h.2
          · exact absurd h.1 (hb.out.1 rfl)
        go_wp2_with fail
        go_meet
        case rel => exact Ext.refl _
      | false =>
        have HMV : Hid (HasK row key ∧ MV w Ae ne Be me t f ns fs (row.length - 1) (delR row key)) := by
          rcases HDe.out with h | h
          · exact absurd (hb.out.2 h.1) (by decide)
          · exact Lib.hid h
        have HBa1 := Lib.hid (HBa.out.to X1.out)
        have HBc1 := Lib.hid (HBc.out.to X1.out)
        have HAv1 := Lib.hid (HAv.out.to X1.out)
        have HMV1 := Lib.hid (HMV.out.2.to X1.out)
        have HR1 := Lib.hid (HR.out.to X1.out)
        clear HMV HAt
        go_upto_region 19 with fail
        refine makes_B19 w1 ba bc n c m d ne ce me de jl cL A B Ae Be L t f key ns fs row _ _ _ _ _ _ _ _ _ _ _ _ _ _ _ _ _ _ _ _ _ _ _ _ _ _ _ _ _ _ _ _ _ _ _ _ _ _ _ _ _ _ _ _ _ _ _ _ _ _ _ _ _ _ _ _ _ _ _ _ _ _ _ _ _ _ _ _ _ _ _ _ _ _ _ _ _ _ _ _ _ _ _ _ _ _ _ _ _ _ _ _ _ _ _ _ _ _ _ _ _ _ _ _ _ _ _ _ _ _ _ _ _ _ _ _ _ _ _ _ _ _ _ _ _ _ _ _ _ _ _ _ _ _ _ _ _ _ _ _ _ _ _ _ _ _ _ _ _ _ _ _ _ _ _ _ _ _ _ _ _ _ _ _ _ _ _ _ _ _ _ _ _ _ _ _ _ _ _ _ _ _ _ _ _ _ _ _ _ _ _ _ _ _ _ _ _ _ _ _ _ _ _ _ _ _ _ _ _ _ _ _ _ _ _ _ _ _ _ _ _ _ _ _ _ _ _ _ _ _ _ _ _ _ _ _ _ _ _ _ _ _ _ _ _ _ _ _ _ _ _ _ _ _ _ _ _ _ _ _ _ _ _ _ HBa1 HAv1 HBc1 HMV1 HR1 hl (Lib.hid ?_)
        intro v147 v148 v149 v150 v151 v152 v153 v154 v155 v156 v157 v158 v159 v160 v161 v162 v163 v164 v165 v166 v167 v168 v169 v170 v171 v172 v173 v174 v175 v176 wx h176 hx
        subst h176
        have HX := Lib.hid hx
        clear hx
        go_wp2_with fail
        go_meet
        case rel => exact HX.out
    case rest =>
      have hc : Ext w1 _ := hcut
      rename World => w2
      have X2 := Lib.hid (X1.out.step hc)
      clear hc hcut
      rename ∀ (a : Act) (w : World), Code.wp _ _ _ a w → _ => hK
      refine hK _ _ ?_
      exact makes_C w0 w2 ba bd n c m d nd cd md dd jl cL jj cc A B Ad Bd L LL x y g key fu ns fs row _ _ _ _ _ _ _ _ _ _ _ _ _ _ _ _ _ _ _ _ _ _ _ _ _ _ _ _ _ _ _ _ _ _ _ _ _ _ _ _ _ _ _ _ _ _ _ _ _ _ _ _ _ _ _ _ _ _ _ _ _ _ _ _ _ _ _ _ _ _ _ _ _ _ _ _ _ _ _ _ _ _ _ _ _ _ _ _ _ _ _ _ _ _ _ _ _ _ _ _ _ _ _ _ _ _ _ _ _ _ _ _ _ _ _ _ _ _ _ _ _ _ _ _ _ _ _ _ _ _ _ _ _ _ _ _ _ _ _ _ _ _ _ _ _ _ _ _ _ _ _ _ _ _ _ _ _ _ _ _ _ _ _ _ _ _ _ _ _ _ _ _ _ _ _ _ _ _ _ _ _ _ _ _ _ _ _ _ _ _ _ _ _ _ _ _ _ _ _ _ _ _ _ _ _ _ _ _ _ _ _ _ _ _ _ _ _ _ _ _ _ _ _ _ _ _ _ _ _ _ _ _ _ _ _ _ _ _ _ _ _ _ _ _ _ _ _ _ _ _ _ _ _ _ _ _ _ _ _ _ _ (Lib.hid (E0.out.step X2.out)) (Lib.hid (HBa.out.to X2.out)) (Lib.hid (HAv.out.to X2.out)) HFu (Lib.hid (HBd.out.to X2.out)) (Lib.hid (HSp.out.to X2.out)) (Lib.hid (HR.out.to X2.out)) (Lib.hid (HRl.out.to X2.out)) HS hl

end Go.Proofs.Ytjiehlhnocgneaa
