/-
  TreapMakes from Split's answer on.
-/
import Derived.Test.YtjiehlhnocgneaaMakesD
set_option linter.unusedVariables false
set_option linter.unusedSimpArgs false
namespace Go.Proofs.Ytjiehlhnocgneaa
open Go.RowKit

set_option maxHeartbeats 12800000 in
set_option maxRecDepth 100000 in
theorem makes_C (w0 w : World) (ba bd n c m d nd cd md dd jl cL jj cc : Nat) (A B Ad Bd L LL : Option Addr) (x y g key : Int) (fu : Bool) (ns : List Nd) (fs : List Int) (row : Row) (c0 c1 c2 c3 c5 c6 c7 c8 c10 c11 c12 c13 c14 c15 c23 c24 c25 c26 c27 c28 c29 c30 c31 c32 c33 c34 c35 c36 c37 c38 c39 c40 c41 c42 c43 c44 c45 c46 c47 c48 c49 c50 c51 c52 c53 c54 c55 c56 c57 c58 c59 c60 c61 c62 c63 c64 c65 c66 c67 c68 c69 c70 c71 c72 c73 c74 c75 c76 c77 c78 c79 c80 c81 c82 c83 c84 c85 c86 c87 c88 c89 c90 c91 c92 c93 c94 c95 c96 c97 c98 c99 c100 c101 c102 c103 c104 c105 c106 c107 c108 c109 c110 c111 c112 c113 c114 c115 c116 c117 c118 c119 c120 c121 c122 c123 c124 c125 c126 c127 c128 c129 c130 c131 c132 c133 c134 c135 c136 c137 c138 c139 c140 c141 c142 c143 c144 c145 c146 c147 c148 c149 c150 c151 c152 c153 c154 c155 c156 c157 c158 c159 c160 c161 c162 c163 c164 c165 c166 c167 c168 c169 c170 c171 c172 c173 c174 c175 c176 c177 c178 c179 c180 c181 c182 c183 c184 c185 c186 c187 c188 c189 c190 c191 c192 c193 c194 c195 c196 c197 c198 c199 c200 c201 c202 c203 c204 c205 c206 c207 c208 c209 c210 c211 c212 c213 c214 c215 c216 c217 c218 c219 c220 c221 c222 c223 c224 c225 c226 c227 c228 c229 c230 c231 c232 c233 c234 c235 c236 c237 c238 c239 c240 c241 c242 c243 c244 c245 c246 c247 c248 c249 c250 c251 c252 c253 c254 c255 c256 c257 c258 c259 c260 c261 c262 c263 c264 c265 c266 c267 c268 c269 : Value)
    (E0 : Hid (Ext w0 w)) (HBa : Hid (Bx w ba #[.slice A n c, .slice B m d])) (HAv : Hid (Av w A n B m ns fs)) (HFu : Hid (fu = true ↔ m < 2 * jl + 1)) (HBd : Hid (Bx w bd #[.slice Ad nd cd, .slice Bd md dd])) (HSp : Hid (SpV w Ad nd Bd md x y g ns fs row key)) (HR : Hid (RdR w (.slice L jl cL) row)) (HRl : Hid (RdR w (.slice LL jj cc) (lo row key))) (HS : Hid (Srt row)) (hl : row.length ≤ 200) :
    Code.wp Try.prog (makesT 21) (bodyPost Try.prog Try.f3 fun e w' => e = .returned (.bool true) ∧ Ext w0 w') ⟨List.toArray (c0 :: c1 :: c2 :: c3 :: .pointer (some ⟨ba, 0, none⟩) :: c5 :: c6 :: c7 :: c8 :: .slice L jl cL :: c10 :: c11 :: c12 :: c13 :: c14 :: c15 :: .pointer (some ⟨bd, 0, none⟩) :: .int .u64 x :: .int .u64 y :: .int .i64 g :: .int .i64 jl :: .slice LL jj cc :: .bool fu :: c23 :: c24 :: c25 :: c26 :: c27 :: c28 :: c29 :: c30 :: c31 :: c32 :: c33 :: c34 :: c35 :: c36 :: c37 :: c38 :: c39 :: c40 :: c41 :: c42 :: c43 :: c44 :: c45 :: c46 :: c47 :: c48 :: c49 :: c50 :: c51 :: c52 :: c53 :: c54 :: c55 :: c56 :: c57 :: c58 :: c59 :: c60 :: c61 :: c62 :: c63 :: c64 :: c65 :: c66 :: c67 :: c68 :: c69 :: c70 :: c71 :: c72 :: c73 :: c74 :: c75 :: c76 :: c77 :: c78 :: c79 :: c80 :: c81 :: c82 :: c83 :: c84 :: c85 :: c86 :: c87 :: c88 :: c89 :: c90 :: c91 :: c92 :: c93 :: c94 :: c95 :: c96 :: c97 :: c98 :: c99 :: c100 :: c101 :: c102 :: c103 :: c104 :: c105 :: c106 :: c107 :: c108 :: c109 :: c110 :: c111 :: c112 :: c113 :: c114 :: c115 :: c116 :: c117 :: c118 :: c119 :: c120 :: c121 :: c122 :: c123 :: c124 :: c125 :: c126 :: c127 :: c128 :: c129 :: c130 :: c131 :: c132 :: c133 :: c134 :: c135 :: c136 :: c137 :: c138 :: c139 :: c140 :: c141 :: c142 :: c143 :: c144 :: c145 :: c146 :: c147 :: c148 :: c149 :: c150 :: c151 :: c152 :: c153 :: c154 :: c155 :: c156 :: c157 :: c158 :: c159 :: c160 :: c161 :: c162 :: c163 :: c164 :: c165 :: c166 :: c167 :: c168 :: c169 :: c170 :: c171 :: c172 :: c173 :: c174 :: c175 :: c176 :: c177 :: c178 :: c179 :: c180 :: c181 :: c182 :: c183 :: c184 :: c185 :: c186 :: c187 :: c188 :: c189 :: c190 :: c191 :: c192 :: c193 :: c194 :: c195 :: c196 :: c197 :: c198 :: c199 :: c200 :: c201 :: c202 :: c203 :: c204 :: c205 :: c206 :: c207 :: c208 :: c209 :: c210 :: c211 :: c212 :: c213 :: c214 :: c215 :: c216 :: c217 :: c218 :: c219 :: c220 :: c221 :: c222 :: c223 :: c224 :: c225 :: c226 :: c227 :: c228 :: c229 :: c230 :: c231 :: c232 :: c233 :: c234 :: c235 :: c236 :: c237 :: c238 :: c239 :: c240 :: c241 :: c242 :: c243 :: c244 :: c245 :: c246 :: c247 :: c248 :: c249 :: c250 :: c251 :: c252 :: c253 :: c254 :: c255 :: c256 :: c257 :: c258 :: c259 :: c260 :: c261 :: c262 :: c263 :: c264 :: c265 :: c266 :: c267 :: c268 :: c269 :: []), []⟩ w := by
  have HAl := Lib.hid (fun W => alive6_is W)
  have HJl := Lib.hid HR.out.len
  have HJj := Lib.hid HRl.out.len
  have HF := Lib.hid HAv.out.ar.lenF
  have hjl : jl ≤ 200 := by have := HJl.out; omega
  have hjj : jj ≤ jl := by have := HJl.out; have := HJj.out; have := lo_len row key; omega
  have hjc := HR.out.cap.1
  have hcm := HR.out.cap.2
  simp only [maxLen] at hcm
  conv => arg 2; whnf
  rcases HSp.out with ⟨rfl, rfl, rfl, hlt⟩ | ⟨rfl, ns', fs', hav, hg, hmx, hmy⟩
  · obtain rfl : fu = true := HFu.out.2 (by have := HF.out; have := HJl.out; omega)
    clear HSp hlt hjj hjc hcm
    go_upto_region 21 with fail
    refine wp_region_later w (Ext.refl _) (by kernel_rfl) (by kernel_rfl) ?_
    repeat (go_big_quiet_step (first | (go_at_call 13; exact later_call (fun W _ => HAl.out W))))
    refine wpQuiet_nil ?_
    rintro _ ⟨q, rfl⟩
    go_wp2_with fail
    go_ret
    exact ⟨rfl, E0.out.step q.ext⟩
  · obtain ⟨LD, jd, cD, hD1, hD2⟩ : ∃ LD jd cD, (∀ W, Ext w W → RdR W (.slice LD jd cD) (ge row key)) ∧ ((∃ ad, L = some ad ∧ LD = (if cL = jj then some ad else some (ad.add (jj * 2))) ∧ jd = jl - jj ∧ cD = cL - jj) ∨ (L = none ∧ jl = 0 ∧ jj = 0 ∧ LD = none ∧ jd = 0 ∧ cD = cL)) := by
      have hSq := lo_ge HS.out key
      cases L with
      | some ad =>
        refine ⟨_, _, _, fun W hW => ?_, .inl ⟨ad, rfl, rfl, rfl, rfl⟩⟩
        have h2 := congrArg List.length hSq
        rw [List.length_append] at h2
        have h4 := HJl.out
        have h5 := HJj.out
        by_cases hcj : cL = jj
        · have h6 : ge row key = [] := List.eq_nil_of_length_eq_zero (by omega)
          rw [if_pos hcj, h6, show jl - jj = 0 by omega, show cL - jj = 0 by omega]
          exact RdR.nilq _ _
        · rw [if_neg hcj]
          have h1 := (HR.out.to hW).rdi
          rw [← hSq] at h1
          have h3 := RdI.drop h1 HJj.out.symm
          exact ⟨some (ad.add (jj * 2)), cL - jj, by rw [show (ge row key).length = jl - jj by omega], by rw [show (ge row key).length = jl - jj by omega]; exact h3, by omega, by simp only [maxLen]; omega⟩
      | none =>
        obtain rfl : jl = 0 := by
          rcases Nat.eq_zero_or_pos jl with h | h
          · exact h
          · obtain ⟨_, h'⟩ := HR.out.rdi.some_ h (by omega)
            cases h'
        obtain rfl : jj = 0 := by omega
        have hrow : row = [] := List.eq_nil_of_length_eq_zero HJl.out.symm
        subst hrow
        exact ⟨none, 0, cL, fun W hW => HR.out.to hW, .inr ⟨rfl, rfl, rfl, rfl, rfl, rfl⟩⟩
    have I1 := Lib.hid (fun W hW => av_is (c := cd) (d := dd) hav hmx HRl.out W hW)
    have I2 := Lib.hid (fun W (hW : Ext w W) => av_is (c := cd) (d := dd) (hav.to hW) hmy (hD1 W hW) W (Ext.refl _))
    have I3 := Lib.hid (fun W (hW : Ext w W) => kept_is A B Ad Bd n m c d nd md cd dd ns ns' fs fs' W (HAv.out.to hW).ar (hav.to hW) hg.len hg.stay)
    have HAd := Lib.hid hav
    have HMx := Lib.hid hmx
    have HMy := Lib.hid hmy
    have s0 : ∀ q : Later w, q.w.cell? ⟨ba, 0, none⟩ = some (.slice A n c) := fun q => (HBa.out.to q.ext).cell 0
    have s1 : ∀ q : Later w, q.w.cell? ⟨ba, 1, none⟩ = some (.slice B m d) := fun q => (HBa.out.to q.ext).cell 1
    have s2 : ∀ q : Later w, q.w.cell? ⟨bd, 0, none⟩ = some (.slice Ad nd cd) := fun q => (HBd.out.to q.ext).cell 0
    have s3 : ∀ q : Later w, q.w.cell? ⟨bd, 1, none⟩ = some (.slice Bd md dd) := fun q => (HBd.out.to q.ext).cell 1
    have hjn : ¬ jl < jj := by omega
    clear HSp hav hg hmx hmy hD1
    go_upto_region 21 with fail
    rcases hD2 with ⟨ad, rfl, rfl, rfl, rfl⟩ | ⟨rfl, rfl, rfl, rfl, rfl, rfl⟩
    · refine wp_region_later w (Ext.refl _) (by kernel_rfl) (by kernel_rfl) ?_
      repeat (go_big_quiet_step (first | (go_at_call 13; exact later_call (fun W _ => HAl.out W)) | (go_at_call 22; exact later_call I3.out) | (go_at_call 21; first | (with_reducible exact later_call I1.out) | (with_reducible exact later_call I2.out))))
      refine wpQuiet_nil ?_
      rintro _ ⟨q, rfl⟩
      have E1 := Lib.hid q.ext
      clear s0 s1 s2 s3 I1 I2 I3
      generalize (if cL = jj then some ad else some (ad.add (jj * 2))) = LX
      go_upto_if 213 with fail
      go_cut [] (fun wx => q.w = wx)
      case first =>
        go_wp2_with fail
        go_meet
        case rel => rfl
      case rest =>
        have hc : q.w = _ := hcut
        subst hc
        rename ∀ (a : Act) (w : World), Code.wp _ _ _ a w → _ => hK
        refine hK _ _ ?_
        exact makes_D w0 q.w bd nd cd md dd _ _ _ cc Ad Bd _ LL x y key ns' fs' row _ _ _ _ _ _ _ _ _ _ _ _ _ _ _ _ _ _ _ _ _ _ _ _ _ _ _ _ _ _ _ _ _ _ _ _ _ _ _ _ _ _ _ _ _ _ _ _ _ _ _ _ _ _ _ _ _ _ _ _ _ _ _ _ _ _ _ _ _ _ _ _ _ _ _ _ _ _ _ _ _ _ _ _ _ _ _ _ _ _ _ _ _ _ _ _ _ _ _ _ _ _ _ _ _ _ _ _ _ _ _ _ _ _ _ _ _ _ _ _ _ _ _ _ _ _ _ _ _ _ _ _ _ _ _ _ _ _ _ _ _ _ _ _ _ _ _ _ _ _ _ _ _ _ _ _ _ _ _ _ _ _ _ _ _ _ _ _ _ _ _ _ _ _ _ _ _ _ _ _ _ _ _ _ _ _ _ _ _ _ _ _ _ _ _ _ _ _ _ _ _ _ _ _ _ _ _ _ _ _ _ _ _ _ _ _ _ _ _ _ _ _ _ _ _ _ _ _ _ _ _ _ _ _ _ _ _ _ _ _ _ _ _ _ _ _ _ _ _ _ _ _ _ _ _ _ _ _ _ _ _ _ _ _ (Lib.hid (E0.out.step E1.out)) (Lib.hid (HBd.out.to E1.out)) (Lib.hid (HAd.out.to E1.out)) HMx HMy (Lib.hid (HR.out.to E1.out)) (Lib.hid (HRl.out.to E1.out)) HS hl
    · refine wp_region_later w (Ext.refl _) (by kernel_rfl) (by kernel_rfl) ?_
      repeat (go_big_quiet_step (first | (go_at_call 13; exact later_call (fun W _ => HAl.out W)) | (go_at_call 22; exact later_call I3.out) | (go_at_call 21; first | (with_reducible exact later_call I1.out) | (with_reducible exact later_call I2.out))))
      refine wpQuiet_nil ?_
      rintro _ ⟨q, rfl⟩
      have E1 := Lib.hid q.ext
      clear s0 s1 s2 s3 I1 I2 I3
      go_upto_if 213 with fail
      go_cut [] (fun wx => q.w = wx)
      case first =>
        go_wp2_with fail
        go_meet
        case rel => rfl
      case rest =>
        have hc : q.w = _ := hcut
        subst hc
        rename ∀ (a : Act) (w : World), Code.wp _ _ _ a w → _ => hK
        refine hK _ _ ?_
        exact makes_D w0 q.w bd nd cd md dd _ _ _ cc Ad Bd _ LL x y key ns' fs' row _ _ _ _ _ _ _ _ _ _ _ _ _ _ _ _ _ _ _ _ _ _ _ _ _ _ _ _ _ _ _ _ _ _ _ _ _ _ _ _ _ _ _ _ _ _ _ _ _ _ _ _ _ _ _ _ _ _ _ _ _ _ _ _ _ _ _ _ _ _ _ _ _ _ _ _ _ _ _ _ _ _ _ _ _ _ _ _ _ _ _ _ _ _ _ _ _ _ _ _ _ _ _ _ _ _ _ _ _ _ _ _ _ _ _ _ _ _ _ _ _ _ _ _ _ _ _ _ _ _ _ _ _ _ _ _ _ _ _ _ _ _ _ _ _ _ _ _ _ _ _ _ _ _ _ _ _ _ _ _ _ _ _ _ _ _ _ _ _ _ _ _ _ _ _ _ _ _ _ _ _ _ _ _ _ _ _ _ _ _ _ _ _ _ _ _ _ _ _ _ _ _ _ _ _ _ _ _ _ _ _ _ _ _ _ _ _ _ _ _ _ _ _ _ _ _ _ _ _ _ _ _ _ _ _ _ _ _ _ _ _ _ _ _ _ _ _ _ _ _ _ _ _ _ _ _ _ _ _ _ _ _ _ _ (Lib.hid (E0.out.step E1.out)) (Lib.hid (HBd.out.to E1.out)) (Lib.hid (HAd.out.to E1.out)) HMx HMy (Lib.hid (HR.out.to E1.out)) (Lib.hid (HRl.out.to E1.out)) HS hl

end Go.Proofs.Ytjiehlhnocgneaa
