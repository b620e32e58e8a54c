/-
  TreapMakes from the joins on.
-/
import Derived.Test.YtjiehlhnocgneaaMakes6
set_option linter.unusedVariables false
set_option linter.unusedSimpArgs false
namespace Go.Proofs.Ytjiehlhnocgneaa
open Go.RowKit

theorem ge_ne {l : Row} (hs : Srt l) {key : Int} (h : (lo l key).length < l.length) : ge l key ≠ [] := fun e => by
  have h1 := congrArg List.length (lo_ge hs key)
  rw [e, List.length_append] at h1
  simp only [List.length_nil] at h1
  omega
theorem lo_lt {l : Row} {key : Int} : ∀ x ∈ ge l key, ∀ y ∈ lo l key, y.1 < x.1 := fun x hx y hy => by
  have h1 := (List.mem_filter.1 hx).2
  have h2 := (List.mem_filter.1 hy).2
  simp only [decide_eq_true_eq] at h1 h2
  omega

set_option maxHeartbeats 12800000 in
set_option maxRecDepth 100000 in
theorem makes_D (w0 w : World) (bd nd cd md dd jl cL jj cc : Nat) (Ad Bd L LL : Option Addr) (x y key : Int) (ns : List Nd) (fs : List Int) (row : Row) (c0 c1 c2 c3 c4 c5 c6 c7 c8 c10 c11 c12 c13 c14 c15 c19 c22 c23 c24 c25 c26 c27 c28 c29 c30 c31 c32 c33 c34 c35 c36 c37 c38 c39 c40 c41 c42 c43 c44 c45 c46 c47 c48 c49 c50 c51 c52 c53 c54 c55 c56 c57 c58 c59 c60 c61 c62 c63 c64 c65 c66 c67 c68 c69 c70 c71 c72 c73 c74 c75 c76 c77 c78 c79 c80 c81 c82 c83 c84 c85 c86 c87 c88 c89 c90 c91 c92 c93 c94 c95 c96 c97 c98 c99 c100 c101 c102 c103 c104 c105 c106 c107 c108 c109 c110 c111 c112 c113 c114 c115 c116 c117 c118 c119 c120 c121 c122 c123 c124 c125 c126 c127 c128 c129 c130 c131 c132 c133 c134 c135 c136 c137 c138 c139 c140 c141 c142 c143 c144 c145 c146 c147 c148 c149 c150 c151 c152 c153 c154 c155 c156 c157 c158 c159 c160 c161 c162 c163 c164 c165 c166 c167 c168 c169 c170 c171 c172 c173 c174 c175 c176 c177 c178 c179 c180 c181 c182 c183 c184 c185 c186 c187 c188 c189 c190 c191 c192 c193 c194 c195 c196 c197 c198 c199 c200 c201 c202 c203 c204 c205 c206 c207 c208 c209 c210 c211 c212 c213 c214 c215 c216 c217 c218 c219 c220 c221 c222 c223 c224 c225 c226 c227 c228 c229 c230 c231 c232 c233 c234 c235 c236 c237 c238 c239 c240 c241 c242 c243 c244 c245 c246 c247 c248 c249 c250 c251 c252 c253 c254 c255 c256 c257 c258 c259 c260 c261 c262 c263 c264 c265 c266 c267 c268 c269 : Value)
    (E0 : Hid (Ext w0 w)) (HBd : Hid (Bx w bd #[.slice Ad nd cd, .slice Bd md dd])) (HAd : Hid (Av w Ad nd Bd md ns fs)) (HMx : Hid (MapV ns x (lo row key))) (HMy : Hid (MapV ns y (ge row key))) (HR : Hid (RdR w (.slice L jl cL) row)) (HRl : Hid (RdR w (.slice LL jj cc) (lo row key))) (HS : Hid (Srt row)) (hl : row.length ≤ 200) :
    Code.wp Try.prog (makesT 25) (bodyPost Try.prog Try.f3 fun e w' => e = .returned (.bool true) ∧ Ext w0 w') ⟨List.toArray (c0 :: c1 :: c2 :: c3 :: c4 :: c5 :: c6 :: c7 :: c8 :: .slice L jl cL :: c10 :: c11 :: c12 :: c13 :: c14 :: c15 :: .pointer (some ⟨bd, 0, none⟩) :: .int .u64 x :: .int .u64 y :: c19 :: .int .i64 jl :: .slice LL jj cc :: c22 :: c23 :: c24 :: c25 :: c26 :: c27 :: c28 :: c29 :: c30 :: c31 :: c32 :: c33 :: c34 :: c35 :: c36 :: c37 :: c38 :: c39 :: c40 :: c41 :: c42 :: c43 :: c44 :: c45 :: c46 :: c47 :: c48 :: c49 :: c50 :: c51 :: c52 :: c53 :: c54 :: c55 :: c56 :: c57 :: c58 :: c59 :: c60 :: c61 :: c62 :: c63 :: c64 :: c65 :: c66 :: c67 :: c68 :: c69 :: c70 :: c71 :: c72 :: c73 :: c74 :: c75 :: c76 :: c77 :: c78 :: c79 :: c80 :: c81 :: c82 :: c83 :: c84 :: c85 :: c86 :: c87 :: c88 :: c89 :: c90 :: c91 :: c92 :: c93 :: c94 :: c95 :: c96 :: c97 :: c98 :: c99 :: c100 :: c101 :: c102 :: c103 :: c104 :: c105 :: c106 :: c107 :: c108 :: c109 :: c110 :: c111 :: c112 :: c113 :: c114 :: c115 :: c116 :: c117 :: c118 :: c119 :: c120 :: c121 :: c122 :: c123 :: c124 :: c125 :: c126 :: c127 :: c128 :: c129 :: c130 :: c131 :: c132 :: c133 :: c134 :: c135 :: c136 :: c137 :: c138 :: c139 :: c140 :: c141 :: c142 :: c143 :: c144 :: c145 :: c146 :: c147 :: c148 :: c149 :: c150 :: c151 :: c152 :: c153 :: c154 :: c155 :: c156 :: c157 :: c158 :: c159 :: c160 :: c161 :: c162 :: c163 :: c164 :: c165 :: c166 :: c167 :: c168 :: c169 :: c170 :: c171 :: c172 :: c173 :: c174 :: c175 :: c176 :: c177 :: c178 :: c179 :: c180 :: c181 :: c182 :: c183 :: c184 :: c185 :: c186 :: c187 :: c188 :: c189 :: c190 :: c191 :: c192 :: c193 :: c194 :: c195 :: c196 :: c197 :: c198 :: c199 :: c200 :: c201 :: c202 :: c203 :: c204 :: c205 :: c206 :: c207 :: c208 :: c209 :: c210 :: c211 :: c212 :: c213 :: c214 :: c215 :: c216 :: c217 :: c218 :: c219 :: c220 :: c221 :: c222 :: c223 :: c224 :: c225 :: c226 :: c227 :: c228 :: c229 :: c230 :: c231 :: c232 :: c233 :: c234 :: c235 :: c236 :: c237 :: c238 :: c239 :: c240 :: c241 :: c242 :: c243 :: c244 :: c245 :: c246 :: c247 :: c248 :: c249 :: c250 :: c251 :: c252 :: c253 :: c254 :: c255 :: c256 :: c257 :: c258 :: c259 :: c260 :: c261 :: c262 :: c263 :: c264 :: c265 :: c266 :: c267 :: c268 :: c269 :: []), []⟩ w := by
  have HSq := Lib.hid (lo_ge HS.out key)
  have HJ := Lib.hid (join_may (c := cd) (d := dd) HAd.out HMx.out HMy.out (by rw [HSq.out]; exact HS.out) (by rw [HSq.out]; exact hl))
  rw [HSq.out] at HJ
  have HJ2 := Lib.hid (join_any (c := cd) (d := dd) HAd.out HMy.out HMx.out (by have h1 := congrArg List.length HSq.out; rw [List.length_append] at h1; omega) lo_lt)
  unfold Tells at HJ HJ2
  have HJl := Lib.hid HR.out.len
  have HJj := Lib.hid HRl.out.len
  have HF := Lib.hid HAd.out.ar.lenF
  have hjl : jl ≤ 200 := by have := HJl.out; omega
  have hjj : jj ≤ 200 := by have := HJj.out; have := lo_len row key; omega
  conv => arg 2; whnf
  have k0 : w.cell? ⟨bd, 0, none⟩ = some (.slice Ad nd cd) := HBd.out.cell 0
  have k1 : w.cell? ⟨bd, 1, none⟩ = some (.slice Bd md dd) := HBd.out.cell 1
  go_wp2_with fail
  refine (HJ.out _ (Ext.refl _)).mono ?_
  rintro e v1 ⟨A1, n1, c1, B1, m1, d1, z, h, rfl, hmv, hx⟩
  obtain ⟨v1b, hb⟩ : ∃ wb, wb = v1.alloc (.cells #[.slice A1 n1 c1, .slice B1 m1 d1] 25) := ⟨_, rfl⟩
  obtain ⟨Bb, hxb, hsb⟩ := box_made hb
  have X1 := Lib.hid (hx.step hxb)
  have HMV := Lib.hid (hmv.to hxb)
  have HBj := Lib.hid Bb
  have Hw1 := Lib.hid hb
  obtain ⟨bj, hbb⟩ : ∃ b, b = v1.heap.size := ⟨_, rfl⟩
  have Hbj := Lib.hid hbb
  rw [← hbb] at HBj
  have q0 : v1b.cell? ⟨bd, 0, none⟩ = some (.slice Ad nd cd) := (HBd.out.to X1.out).cell 0
  have q1 : v1b.cell? ⟨bd, 1, none⟩ = some (.slice Bd md dd) := (HBd.out.to X1.out).cell 1
  rw [hb] at q0 q1
  clear hmv hb hxb hsb Bb hbb hx k0 k1 HJ
  go_wp2_with fail
  rw [← Hw1.out, ← Hbj.out]
  clear q0 q1
  refine (HJ2.out _ X1.out).mono ?_
  rintro e v2 ⟨A2, n2, c2, B2, m2, d2, z2, h2, rfl, h5, hx⟩
  obtain ⟨v2b, hb⟩ : ∃ wb, wb = v2.alloc (.cells #[.slice A2 n2 c2, .slice B2 m2 d2] 25) := ⟨_, rfl⟩
  obtain ⟨Bb, hxb, hsb⟩ := box_made hb
  have X2 := Lib.hid (X1.out.step (hx.step hxb))
  have HMV2 := Lib.hid (HMV.out.to (hx.step hxb))
  have HBj2 := Lib.hid (HBj.out.to (hx.step hxb))
  have H5 := Lib.hid h5
  have Hw2 := Lib.hid hb
  clear h5 hb hxb hsb Bb hx HMV HBj HJ2
  have HBd2 := Lib.hid (HBd.out.to X2.out)
  have HR2 := Lib.hid (HR.out.to X2.out)
  have HAd2 := Lib.hid (HAd.out.to X2.out)
  have E2 := Lib.hid (E0.out.step X2.out)
  go_upto_region 27 with fail
  rw [← Hw2.out]
  go_cut [243] (fun s wx => v2b = wx ∧ s = .bool false)
  case first =>
    rcases (by omega : jj = 0 ∨ (0 < jj ∧ jl ≤ jj) ∨ (0 < jj ∧ jj < jl)) with h0 | ⟨h0, h1⟩ | ⟨h0, h1⟩
    · subst h0
      go_wp2_with fail
      go_meet
      case rel => exact ⟨rfl, rfl⟩
    · have h1' : ¬ jj < jl := by omega
      go_wp2_with fail
      go_meet
      case rel => exact ⟨rfl, rfl⟩
    · obtain rfl : h2 = 5 := H5.out (ge_ne HS.out (by have := HJl.out; have := HJj.out; omega)) (fun e => by have := HJj.out; rw [e] at this; simp at this; omega)
      go_wp2_with fail
      go_meet
      case rel => exact ⟨rfl, rfl⟩
  case rest =>
    obtain ⟨hw, rfl⟩ := hcut
    subst hw
    rcases HMV2.out with ⟨rfl, hlt⟩ | ⟨rfl, ns', fs', hav, hg, hmz⟩
    · have hlt2 : md < jl := by have := HF.out; have := HJl.out; omega
      have k0 : v2b.cell? ⟨bd, 0, none⟩ = some (.slice Ad nd cd) := HBd2.out.cell 0
      have k1 : v2b.cell? ⟨bd, 1, none⟩ = some (.slice Bd md dd) := HBd2.out.cell 1
      have e1 : IntKind.i64.wrap (2 * (jl : Int)) = 2 * jl := by rw [IntKind.wrap_i64]; omega
      have e2 : IntKind.i64.wrap (2 * (jl : Int) + 1) = 2 * jl + 1 := by rw [IntKind.wrap_i64]; omega
      have e3 : (md : Int) < 2 * (jl : Int) + 1 := by omega
      have HD3 := Lib.hid (show decide ((md : Int) < 2 * (jl : Int) + 1) = true by simp [e3])
      clear hlt HMV2
      go_wp2_with fail
      go_ret
      exact ⟨by first | rfl | (rw [HD3.out]; rfl), E2.out⟩
    · have I1 := Lib.hid (fun W hW => av_is (c := c1) (d := d1) hav hmz HR2.out W hW)
      have I2 := Lib.hid (fun W (hW : Ext v2b W) => kept_is Ad Bd A1 B1 nd md cd dd n1 m1 c1 d1 ns ns' fs fs' W (HAd2.out.to hW).ar (hav.to hW) hg.len hg.stay)
      have k0 : v2b.cell? ⟨bj, 0, none⟩ = some (.slice A1 n1 c1) := HBj2.out.cell 0
      have k1 : v2b.cell? ⟨bj, 1, none⟩ = some (.slice B1 m1 d1) := HBj2.out.cell 1
      clear hav hg hmz HMV2
      go_wp2_with fail
      refine (I1.out _ (Ext.refl _)).mono ?_
      rintro e y1 ⟨rfl, hx1⟩
      have Y1 := Lib.hid hx1
      have k0 : y1.cell? ⟨bj, 0, none⟩ = some (.slice A1 n1 c1) := (HBj2.out.to hx1).cell 0
      have k1 : y1.cell? ⟨bj, 1, none⟩ = some (.slice B1 m1 d1) := (HBj2.out.to hx1).cell 1
      have k2 : y1.cell? ⟨bd, 0, none⟩ = some (.slice Ad nd cd) := (HBd2.out.to hx1).cell 0
      have k3 : y1.cell? ⟨bd, 1, none⟩ = some (.slice Bd md dd) := (HBd2.out.to hx1).cell 1
      clear hx1
      go_wp2_with fail
      refine (I2.out _ Y1.out).mono ?_
      rintro e y2 ⟨rfl, hx2⟩
      have Y2 := Lib.hid (Y1.out.step hx2)
      clear hx2 k0 k1 k2 k3
      go_wp2_with fail
      go_ret
      exact ⟨rfl, E2.out.step Y2.out⟩

end Go.Proofs.Ytjiehlhnocgneaa
