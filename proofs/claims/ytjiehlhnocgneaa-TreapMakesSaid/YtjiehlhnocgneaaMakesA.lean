/-
  TreapMakes from Put's answer on.
-/
import Derived.Test.YtjiehlhnocgneaaMakesA14
set_option linter.unusedVariables false
set_option linter.unusedSimpArgs false
namespace Go.Proofs.Ytjiehlhnocgneaa
open Go.RowKit

theorem key_in {key : Int} (h1 : ¬ key < -1073741824) (h2 : ¬ 1073741824 < key) : KeyIn key := ⟨by omega, by omega⟩

set_option maxHeartbeats 12800000 in
set_option maxRecDepth 100000 in
theorem makes_A (w0 w : World) (ba bb bc bd n c m d nb cb mb db ne ce me de nd cd md dd jl cL jj cc : Nat) (A B Ab Bb Ae Be Ad Bd L LL : Option Addr) (x y g t f s e key v : Int) (fu : Bool) (ns : List Nd) (fs : List Int) (row : Row) (c0 c1 c5 c6 c7 c8 c23 c24 c25 c26 c27 c28 c29 c30 c31 c32 c33 c34 c35 c36 c37 c38 c39 c40 c41 c42 c43 c44 c45 c46 c47 c48 c49 c50 c51 c52 c53 c54 c55 c56 c57 c58 c59 c60 c61 c62 c63 c64 c65 c66 c67 c68 c69 c70 c71 c72 c73 c74 c75 c76 c77 c78 c79 c80 c81 c82 c83 c84 c85 c86 c87 c88 c89 c90 c91 c92 c93 c94 c95 c96 c97 c98 c99 c100 c101 c102 c103 c104 c105 c106 c107 c108 c109 c110 c111 c112 c113 c114 c115 c116 c117 c118 c119 c120 c121 c122 c123 c124 c125 c126 c127 c128 c129 c130 c131 c132 c133 c134 c135 c136 c137 c138 c139 c140 c141 c142 c143 c144 c145 c146 c147 c148 c149 c150 c151 c152 c153 c154 c155 c156 c157 c158 c159 c160 c161 c162 c163 c164 c165 c166 c167 c168 c169 c170 c171 c172 c173 c174 c175 c176 c177 c178 c179 c180 c181 c182 c183 c184 c185 c186 c187 c188 c189 c190 c191 c192 c193 c194 c195 c196 c197 c198 c199 c200 c201 c202 c203 c204 c205 c206 c207 c208 c209 c210 c211 c212 c213 c214 c215 c216 c217 c218 c219 c220 c221 c222 c223 c224 c225 c226 c227 c228 c229 c230 c231 c232 c233 c234 c235 c236 c237 c238 c239 c240 c241 c242 c243 c244 c245 c246 c247 c248 c249 c250 c251 c252 c253 c254 c255 c256 c257 c258 c259 c260 c261 c262 c263 c264 c265 c266 c267 c268 c269 : Value)
    (E0 : Hid (Ext w0 w)) (HBa : Hid (Bx w ba #[.slice A n c, .slice B m d])) (HAv : Hid (Av w A n B m ns fs)) (HFu : Hid (fu = true ↔ m < 2 * jl + 1)) (HBd : Hid (Bx w bd #[.slice Ad nd cd, .slice Bd md dd])) (HSp : Hid (SpV w Ad nd Bd md x y g ns fs row key))
    (HBc : Hid (Bx w bc #[.slice Ae ne ce, .slice Be me de])) (HDe : Hid (DeV w Ae ne Be me t f ns fs row key)) (HBb : Hid (Bx w bb #[.slice Ab nb cb, .slice Bb mb db])) (HPu : Hid (PuV w Ab nb Bb mb s e ns fs row key v)) (HR : Hid (RdR w (.slice L jl cL) row)) (HRl : Hid (RdR w (.slice LL jj cc) (lo row key))) (HS : Hid (Srt row)) (hl : row.length ≤ 200) :
    Code.wp Try.prog (makesT 10) (bodyPost Try.prog Try.f3 fun e w' => e = .returned (.bool true) ∧ Ext w0 w') ⟨List.toArray (c0 :: c1 :: .int .i64 key :: .int .i64 v :: .pointer (some ⟨ba, 0, none⟩) :: c5 :: c6 :: c7 :: c8 :: .slice L jl cL :: .pointer (some ⟨bb, 0, none⟩) :: .int .u64 s :: .int .i64 e :: .pointer (some ⟨bc, 0, none⟩) :: .int .u64 t :: .int .i64 f :: .pointer (some ⟨bd, 0, none⟩) :: .int .u64 x :: .int .u64 y :: .int .i64 g :: .int .i64 jl :: .slice LL jj cc :: .bool fu :: c23 :: c24 :: c25 :: c26 :: c27 :: c28 :: c29 :: c30 :: c31 :: c32 :: c33 :: c34 :: c35 :: c36 :: c37 :: c38 :: c39 :: c40 :: c41 :: c42 :: c43 :: c44 :: c45 :: c46 :: c47 :: c48 :: c49 :: c50 :: c51 :: c52 :: c53 :: c54 :: c55 :: c56 :: c57 :: c58 :: c59 :: c60 :: c61 :: c62 :: c63 :: c64 :: c65 :: c66 :: c67 :: c68 :: c69 :: c70 :: c71 :: c72 :: c73 :: c74 :: c75 :: c76 :: c77 :: c78 :: c79 :: c80 :: c81 :: c82 :: c83 :: c84 :: c85 :: c86 :: c87 :: c88 :: c89 :: c90 :: c91 :: c92 :: c93 :: c94 :: c95 :: c96 :: c97 :: c98 :: c99 :: c100 :: c101 :: c102 :: c103 :: c104 :: c105 :: c106 :: c107 :: c108 :: c109 :: c110 :: c111 :: c112 :: c113 :: c114 :: c115 :: c116 :: c117 :: c118 :: c119 :: c120 :: c121 :: c122 :: c123 :: c124 :: c125 :: c126 :: c127 :: c128 :: c129 :: c130 :: c131 :: c132 :: c133 :: c134 :: c135 :: c136 :: c137 :: c138 :: c139 :: c140 :: c141 :: c142 :: c143 :: c144 :: c145 :: c146 :: c147 :: c148 :: c149 :: c150 :: c151 :: c152 :: c153 :: c154 :: c155 :: c156 :: c157 :: c158 :: c159 :: c160 :: c161 :: c162 :: c163 :: c164 :: c165 :: c166 :: c167 :: c168 :: c169 :: c170 :: c171 :: c172 :: c173 :: c174 :: c175 :: c176 :: c177 :: c178 :: c179 :: c180 :: c181 :: c182 :: c183 :: c184 :: c185 :: c186 :: c187 :: c188 :: c189 :: c190 :: c191 :: c192 :: c193 :: c194 :: c195 :: c196 :: c197 :: c198 :: c199 :: c200 :: c201 :: c202 :: c203 :: c204 :: c205 :: c206 :: c207 :: c208 :: c209 :: c210 :: c211 :: c212 :: c213 :: c214 :: c215 :: c216 :: c217 :: c218 :: c219 :: c220 :: c221 :: c222 :: c223 :: c224 :: c225 :: c226 :: c227 :: c228 :: c229 :: c230 :: c231 :: c232 :: c233 :: c234 :: c235 :: c236 :: c237 :: c238 :: c239 :: c240 :: c241 :: c242 :: c243 :: c244 :: c245 :: c246 :: c247 :: c248 :: c249 :: c250 :: c251 :: c252 :: c253 :: c254 :: c255 :: c256 :: c257 :: c258 :: c259 :: c260 :: c261 :: c262 :: c263 :: c264 :: c265 :: c266 :: c267 :: c268 :: c269 :: []), []⟩ w := by
  have HJl := Lib.hid HR.out.len
  have HF := Lib.hid HAv.out.ar.lenF
  have hjl : jl ≤ 200 := by have := HJl.out; omega
  have HAt := Lib.hid (rdr_at HR.out (by omega) key)
  conv => arg 2; whnf
  go_upto_region 10 with fail
  go_cut [94] (fun s wx => Ext w wx ∧ ∃ b : Bool, s = .bool b ∧ Hid (b = true ↔ (¬ KeyIn key ∨ (row.length = 200 ∧ ¬ HasK row key))))
  case first =>
    by_cases g1 : key < -1073741824
    · have HN := Lib.hid (show ¬ KeyIn key from fun h => by have := h.1; omega)
      go_wp2_with fail
      go_meet
      case rel => exact ⟨Ext.refl _, true, rfl, Lib.hid (iff_of_true rfl (.inl HN.out))⟩
    · by_cases g2 : 1073741824 < key
      · have HN := Lib.hid (show ¬ KeyIn key from fun h => by have := h.2; omega)
        go_wp2_with fail
        go_meet
        case rel => exact ⟨Ext.refl _, true, rfl, Lib.hid (iff_of_true rfl (.inl HN.out))⟩
      · have HI := Lib.hid (key_in g1 g2)
        go_wp2_with fail
        refine (HAt.out _ (Ext.refl _)).mono ?_
        rintro e w1 ⟨⟨hno, rfl⟩ | ⟨j, u, hj, rfl⟩, hx⟩
        · have HN := Lib.hid hno
          have HX := Lib.hid hx
          clear hno hx
          by_cases h200 : jl = 200
          · have HL := Lib.hid (show row.length = 200 by have := HJl.out; omega)
            have e1 := Lib.hid (show (jl : Int) = 200 by omega)
            clear h200
            go_wp2_with fail
            go_meet
            case rel => exact ⟨HX.out, _, rfl, Lib.hid (iff_of_true (by simp [e1.out]) (.inr ⟨HL.out, HN.out⟩))⟩
          · have HL := Lib.hid (show ¬ row.length = 200 by have := HJl.out; omega)
            have e1 := Lib.hid (show ¬ (jl : Int) = 200 by omega)
            clear h200
            go_wp2_with fail
            go_meet
            case rel => exact ⟨HX.out, _, rfl, Lib.hid (iff_of_false (by simp [e1.out]) (fun h => h.elim (fun h => h HI.out) (fun h => HL.out h.1)))⟩
        · have HN := Lib.hid (show HasK row key from ⟨u, List.mem_of_getElem? hj⟩)
          have HX := Lib.hid hx
          have e1 : ¬ ((j : Int) < 0) := by omega
          clear hj hx
          go_wp2_with fail
          go_meet
          case rel => exact ⟨HX.out, false, rfl, Lib.hid (iff_of_false (by decide) (fun h => h.elim (fun h => h HI.out) (fun h => h.2 HN.out)))⟩
  case rest =>
    obtain ⟨hx1, b, rfl, hb⟩ := hcut
    rename World => w1
    have X1 := Lib.hid hx1
    clear hx1
    go_upto_if 94 with fail
    go_cut [23] (fun _ wx => Ext w1 wx)
    case first =>
      cases b with
      | true =>
        obtain ⟨rfl, rfl⟩ : e = 5 ∧ s = 0 := by
          rcases HPu.out with h | h
          · exact h.2
          · exfalso
            rcases hb.out.1 rfl with h' | h'
            · exact h' h.1.1
            · exact h'.2 (h.1.2 h'.1)
        go_wp2_with fail
        go_meet
        case rel => exact Ext.refl _
      | false =>
        have HMV : Hid (MV w Ab nb Bb mb s e ns fs (row.length + 1) (putR row key v)) := by
          rcases HPu.out with h | h
          · exact absurd (hb.out.2 h.1) (by decide)
          · exact Lib.hid h.2
        have HRow := Lib.hid (rdr_put (HR.out.to X1.out) (by omega) HS.out key v)
        unfold RowS at HRow
        go_wp2_with fail
        refine (HRow.out _ (Ext.refl _)).mono ?_
        rintro e w2 ⟨AQ, jp, cQ, rfl, hrq, hx⟩
        have X2 := Lib.hid hx
        have HJp := Lib.hid (show row.length ≤ jp ∧ jp ≤ row.length + 1 from by have h1 := hrq.len; have h2 := put_le HS.out (k := key) (v := v); omega)
        clear hx hrq
        have HBa1 := Lib.hid (HBa.out.to (X1.out.step X2.out))
        have hjp : jp ≤ 201 := by have := HJp.out; omega
        have HBb1 := Lib.hid (HBb.out.to (X1.out.step X2.out))
        have HAv1 := Lib.hid (HAv.out.to (X1.out.step X2.out))
        have HMV1 := Lib.hid (HMV.out.to (X1.out.step X2.out))
        have HR1 := Lib.hid (HR.out.to (X1.out.step X2.out))
        clear HMV HAt HRow
        go_upto_region 14 with fail
        refine makes_A14 w2 ba bb n c m d nb cb mb db jl cL jp A B Ab Bb L s e key v ns fs row _ _ _ _ _ _ _ _ _ _ _ _ _ _ _ _ _ _ _ _ _ _ _ _ _ _ _ _ _ _ _ _ _ _ _ _ _ _ _ _ _ _ _ _ _ _ _ _ _ _ _ _ _ _ _ _ _ _ _ _ _ _ _ _ _ _ _ _ _ _ _ _ _ _ _ _ _ _ _ _ _ _ _ _ _ _ _ _ _ _ _ _ _ _ _ _ _ _ _ _ _ _ _ _ _ _ _ _ _ _ _ _ _ _ _ _ _ _ _ _ _ _ _ _ _ _ _ _ _ _ _ _ _ _ _ _ _ _ _ _ _ _ _ _ _ _ _ _ _ _ _ _ _ _ _ _ _ _ _ _ _ _ _ _ _ _ _ _ _ _ _ _ _ _ _ _ _ _ _ _ _ _ _ _ _ _ _ _ _ _ _ _ _ _ _ _ _ _ _ _ _ _ _ _ _ _ _ _ _ _ _ _ _ _ _ _ _ _ _ _ _ _ _ _ _ _ _ _ _ _ _ _ _ _ _ _ _ _ _ _ _ _ _ _ _ _ _ _ _ _ _ _ _ _ _ _ _ _ _ _ _ _ HBa1 HAv1 HBb1 HMV1 HR1 hl HS HJp.out.1 hjp (Lib.hid ?_)
        intro v106 v107 v108 v109 v110 v111 v112 v113 v114 v115 v116 v117 v118 v119 v120 v121 v122 v123 v124 v125 v126 v127 v128 v129 v130 v131 v132 v133 v134 v135 v136 wx h136 hx
        subst h136
        have HX := Lib.hid (X2.out.step hx)
        clear hx
        go_wp2_with fail
        go_meet
        case rel => exact HX.out
    case rest =>
      have hc : Ext w1 _ := hcut
      rename World => w2
      have X2 := Lib.hid (X1.out.step hc)
      clear hc hcut
      rename ∀ (a : Act) (w : World), Code.wp _ _ _ a w → _ => hK
      refine hK _ _ ?_
      exact makes_B w0 w2 ba bc bd n c m d ne ce me de nd cd md dd jl cL jj cc A B Ae Be Ad Bd L LL x y g t f key fu ns fs row _ _ _ _ _ _ _ _ _ _ _ _ _ _ _ _ _ _ _ _ _ _ _ _ _ _ _ _ _ _ _ _ _ _ _ _ _ _ _ _ _ _ _ _ _ _ _ _ _ _ _ _ _ _ _ _ _ _ _ _ _ _ _ _ _ _ _ _ _ _ _ _ _ _ _ _ _ _ _ _ _ _ _ _ _ _ _ _ _ _ _ _ _ _ _ _ _ _ _ _ _ _ _ _ _ _ _ _ _ _ _ _ _ _ _ _ _ _ _ _ _ _ _ _ _ _ _ _ _ _ _ _ _ _ _ _ _ _ _ _ _ _ _ _ _ _ _ _ _ _ _ _ _ _ _ _ _ _ _ _ _ _ _ _ _ _ _ _ _ _ _ _ _ _ _ _ _ _ _ _ _ _ _ _ _ _ _ _ _ _ _ _ _ _ _ _ _ _ _ _ _ _ _ _ _ _ _ _ _ _ _ _ _ _ _ _ _ _ _ _ _ _ _ _ _ _ _ _ _ _ _ _ _ _ _ _ _ _ _ _ _ _ _ _ _ _ _ _ _ _ _ _ _ _ _ _ _ (Lib.hid (E0.out.step X2.out)) (Lib.hid (HBa.out.to X2.out)) (Lib.hid (HAv.out.to X2.out)) HFu (Lib.hid (HBd.out.to X2.out)) (Lib.hid (HSp.out.to X2.out)) (Lib.hid (HBc.out.to X2.out)) (Lib.hid (HDe.out.to X2.out)) (Lib.hid (HR.out.to X2.out)) (Lib.hid (HRl.out.to X2.out)) HS hl

end Go.Proofs.Ytjiehlhnocgneaa
