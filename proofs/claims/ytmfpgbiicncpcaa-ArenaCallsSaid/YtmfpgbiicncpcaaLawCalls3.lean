/-
  The walk of ArenaCalls, third part: an arena that may be.
-/
import Derived.Test.YtmfpgbiicncpcaaCallsD
set_option linter.unusedVariables false
set_option linter.unusedSimpArgs false
namespace Go.Proofs.Ytmfpgbiicncpcaa
open Go.RowKit

set_option maxHeartbeats 6400000 in
set_option maxRecDepth 100000 in
theorem calls_part3 (w w12 : World) (b5 b8 b15 n' m' c d q' r l18 q18 : Nat) (A B C P18 : Option Addr) (ns' : List Nd) (fs' rs : List Int) (x : Nd) (s16 k17 : Int) (c0 c1 c2 c3 c6 c7 c9 c10 c11 c12 c13 c14 c20 c21 c22 c23 c24 c25 c26 c27 c28 c29 c30 c31 c32 c33 c34 c35 c36 c37 c38 c39 c40 c41 c42 c43 c44 c45 c46 c47 c48 c49 c50 c51 c52 c53 c54 c55 c56 c57 c58 c59 c60 c61 c62 c63 c64 c65 c66 c67 c68 c69 c70 c71 c72 c73 c74 c75 c76 c77 c78 c79 c80 c81 c82 c83 c84 c85 c86 c87 c88 c89 c90 c91 c92 c93 c94 c95 c96 c97 c98 c99 c100 c101 c102 c103 c104 c105 c106 c107 c108 c109 c110 c111 c112 c113 c114 c115 c116 c117 c118 c119 c120 c121 c122 c123 c124 c125 c126 c127 c128 c129 c130 c131 c132 c133 c134 c135 c136 c137 c138 c139 c140 c141 c142 c143 c144 c145 c146 c147 c148 c149 c150 c151 c152 c153 c154 c155 c156 c157 c158 c159 c160 c161 c162 c163 c164 c165 c166 c167 c168 c169 c170 c171 c172 c173 c174 c175 c176 c177 c178 c179 c180 c181 c182 c183 c184 c185 c186 c187 c188 c189 c190 c191 c192 c193 c194 c195 c196 c197 c198 c199 c200 c201 c202 c203 c204 c205 c206 c207 c208 c209 c210 c211 c212 c213 c214 c215 c216 c217 c218 c219 c220 c221 c222 c223 c224 c225 c226 c227 c228 c229 c230 c231 c232 c233 c234 c235 c236 c237 c238 c239 c240 c241 c242 c243 c244 c245 c246 c247 c248 c249 c250 c251 c252 c253 c254 c255 c256 c257 c258 c259 c260 c261 c262 c263 c264 c265 c266 c267 c268 c269 c270 c271 c272 c273 c274 c275 c276 c277 c278 c279 : Value)
    (hn40 : n' ≤ 40) (hm42 : m' ≤ 42) (hq10 : q' ≤ 10) (h5 : w.heap.size ≤ b5) (h8 : b5 < b8) (h9 : b8 < b5 + 2) (HD : Hid (m' ≤ d ∧ d ≤ maxLen)) (HLN : Hid (ns'.length = n')) (HLF : Hid (fs'.length = m')) (HPL : Hid (rs.length = q')) (HU : Hid (∀ z ∈ rs, 0 ≤ z ∧ z ≤ 18446744073709551615)) (HX : Hid x.Ok)
    (HA : Hid (Ar w A n' B m' ns' fs')) (HP : Hid (Rd w 1 C q' (Us rs))) (E7 : Hid (Ext w w12)) (HB5 : Hid (Bx w12 b5 #[.slice A n' c, .slice B m' d])) (HB8 : Hid (Bx w12 b8 x.arr))
    (HMk : Hid (MakeO (b5 + 2) w12 b15 s16 k17 n' m' ns' fs' x)) (hR18 : Hid (Rd w12 1 P18 l18 (Ks .i64 (reached ns' rs)))) (HM18 : Hid (ArMay ns' fs')) :
    Code.wp Try.prog (callsT 19) (bodyPost Try.prog Try.f3 fun e w' => e = .returned (.bool true) ∧ Ext w w') ⟨List.toArray (c0 :: c1 :: c2 :: c3 :: .slice C q' r :: .pointer (some ⟨b5, 0, none⟩) :: c6 :: c7 :: .pointer (some ⟨b8, 0, none⟩) :: c9 :: c10 :: c11 :: c12 :: c13 :: c14 :: .pointer (some ⟨b15, 0, none⟩) :: .int .u64 s16 :: .int .i64 k17 :: .slice P18 l18 q18 :: .int .i64 0 :: c20 :: c21 :: c22 :: c23 :: c24 :: c25 :: c26 :: c27 :: c28 :: c29 :: c30 :: c31 :: c32 :: c33 :: c34 :: c35 :: c36 :: c37 :: c38 :: c39 :: c40 :: c41 :: c42 :: c43 :: c44 :: c45 :: c46 :: c47 :: c48 :: c49 :: c50 :: c51 :: c52 :: c53 :: c54 :: c55 :: c56 :: c57 :: c58 :: c59 :: c60 :: c61 :: c62 :: c63 :: c64 :: c65 :: c66 :: c67 :: c68 :: c69 :: c70 :: c71 :: c72 :: c73 :: c74 :: c75 :: c76 :: c77 :: c78 :: c79 :: c80 :: c81 :: c82 :: c83 :: c84 :: c85 :: c86 :: c87 :: c88 :: c89 :: c90 :: c91 :: c92 :: c93 :: c94 :: c95 :: c96 :: c97 :: c98 :: c99 :: c100 :: c101 :: c102 :: c103 :: c104 :: c105 :: c106 :: c107 :: c108 :: c109 :: c110 :: c111 :: c112 :: c113 :: c114 :: c115 :: c116 :: c117 :: c118 :: c119 :: c120 :: c121 :: c122 :: c123 :: c124 :: c125 :: c126 :: c127 :: c128 :: c129 :: c130 :: c131 :: c132 :: c133 :: c134 :: c135 :: c136 :: c137 :: c138 :: c139 :: c140 :: c141 :: c142 :: c143 :: c144 :: c145 :: c146 :: c147 :: c148 :: c149 :: c150 :: c151 :: c152 :: c153 :: c154 :: c155 :: c156 :: c157 :: c158 :: c159 :: c160 :: c161 :: c162 :: c163 :: c164 :: c165 :: c166 :: c167 :: c168 :: c169 :: c170 :: c171 :: c172 :: c173 :: c174 :: c175 :: c176 :: c177 :: c178 :: c179 :: c180 :: c181 :: c182 :: c183 :: c184 :: c185 :: c186 :: c187 :: c188 :: c189 :: c190 :: c191 :: c192 :: c193 :: c194 :: c195 :: c196 :: c197 :: c198 :: c199 :: c200 :: c201 :: c202 :: c203 :: c204 :: c205 :: c206 :: c207 :: c208 :: c209 :: c210 :: c211 :: c212 :: c213 :: c214 :: c215 :: c216 :: c217 :: c218 :: c219 :: c220 :: c221 :: c222 :: c223 :: c224 :: c225 :: c226 :: c227 :: c228 :: c229 :: c230 :: c231 :: c232 :: c233 :: c234 :: c235 :: c236 :: c237 :: c238 :: c239 :: c240 :: c241 :: c242 :: c243 :: c244 :: c245 :: c246 :: c247 :: c248 :: c249 :: c250 :: c251 :: c252 :: c253 :: c254 :: c255 :: c256 :: c257 :: c258 :: c259 :: c260 :: c261 :: c262 :: c263 :: c264 :: c265 :: c266 :: c267 :: c268 :: c269 :: c270 :: c271 :: c272 :: c273 :: c274 :: c275 :: c276 :: c277 :: c278 :: c279 :: []), []⟩ w12 := by
  let Q9 : Exit → Act → World → Prop := bodyPost Try.prog Try.f3 (fun e w' => e = .returned (.bool true) ∧ Ext w w')
  have HV := Lib.hid (visit_ref w12 A B n' m' c d ns' (HA.out.to E7.out).nodes HA.out.ok (by omega) (ns'.length + 1))
  conv => arg 2; whnf
  go_wp2_with fail
  go_loopw [22, 24, 178] (fun s22 _ j wr => Ext w12 wr ∧ ∃ k : Nat, k ≤ q' ∧ j = .int .i64 k ∧ ∃ (Pk : Option Addr) (qk : Nat) (mk : List Int), s22 = .slice Pk mk.length qk ∧ Hid (mk = visits ns' (ns'.length + 1) [] (rs.take k)) ∧ Hid (wr.ownsRow w12.heap.size 3 1 (.slice Pk mk.length qk) mk.length (Ks .i64 mk))) (fun _ _ j _ => q' - (intOf j).toNat)
  case atStart => exact ⟨Ext.refl _, 0, Nat.zero_le _, rfl, none, 0, [], rfl, Lib.hid (by simp [visits]), Lib.hid (World.ownsRow_nil _ _ _ _)⟩
  case round =>
    obtain ⟨hxr, k, hk, rfl, Pk, qk, mk, rfl, hmk, hOk⟩ := hrel
    rename World => wr
    have HXr := Lib.hid hxr
    have Er := Lib.hid (E7.out.step hxr)
    have HMt := Lib.hid (show Met ns' mk by rw [hmk.out]; exact visits_met (Met.nil ns'))
    clear hxr
    by_cases hlt : k < q'
    · obtain ⟨z, hz⟩ : ∃ z, rs[k]? = some z := ⟨_, List.getElem?_eq_getElem (by have := HPL.out; omega)⟩
      obtain ⟨cd, rfl, hcell⟩ := (HP.out.to Er.out).2 k (.int .u64 z) (by simp [Us, hz])
      obtain ⟨z0, z1⟩ := HU.out z (List.mem_of_getElem? hz)
      have k0 : wr.cell? ⟨b5, 0, none⟩ = some (.slice A n' c) := (HB5.out.to HXr.out).cell 0
      have k1 : wr.cell? ⟨b5, 1, none⟩ = some (.slice B m' d) := (HB5.out.to HXr.out).cell 1
      have HI := Lib.hid (HV.out wr Pk qk mk z HXr.out hOk.out HMt.out (by have := HLN.out; omega) z0 z1)
      have HVs := Lib.hid (show visit ns' (ns'.length + 1) mk z = visits ns' (ns'.length + 1) [] (rs.take (k + 1)) by
        rw [List.take_add_one, hz, hmk.out]
        exact (visits_snoc _ _ _ _ _).symm)
      clear hz
      go_wp2_with fail
      refine HI.out.mono ?_; rintro e w9 ⟨P9, q9, rfl, hown9, hg9, _⟩
      obtain ⟨m9, hm9⟩ : ∃ m9, m9 = visit ns' (ns'.length + 1) mk z := ⟨_, rfl⟩
      rw [← hm9] at hown9 ⊢
      have HM9 := Lib.hid (hm9.trans HVs.out)
      have HO9 := Lib.hid hown9
      have HE9 := Lib.hid (grown_old HXr.out hg9 (fun k hk => (hOk.out.lt k hk).1))
      clear hm9 hown9 hg9 k0 k1 hcell
      go_wp2_with fail
      go_roundw
      case rel => exact ⟨HE9.out, k + 1, by omega, by go_num, P9, q9, m9, rfl, HM9, HO9⟩
      case measure => simp [intOf]; omega
    · have hE : mk = reached ns' rs := by
        rw [hmk.out, List.take_of_length_le (by have := HPL.out; omega)]
        rfl
      have hml : mk.length ≤ 1000 := by have := HMt.out.len; have := HLN.out; omega
      have hl18 : l18 = mk.length := by
        have h1 := hR18.out.1
        have h2 : (Ks IntKind.i64 (reached ns' rs)).length = (reached ns' rs).length := by simp [Ks]
        rw [h2] at h1
        rw [hE]
        omega
      have HSm := Lib.hid (same_is P18 Pk l18 mk.length q18 qk (reached ns' rs) mk wr (hR18.out.to HXr.out) (Rd.own hOk.out) (by omega) hml true (by simp [hE]))
      clear hE hl18
      go_wp2_with fail
      refine HSm.out.mono ?_; rintro e wz ⟨rfl, hxz⟩
      have Bz := (HB8.out.to HXr.out).to hxz
      have B5z := (HB5.out.to HXr.out).to hxz
      have u1 : wz.cell? ⟨b8, 1, none⟩ = some (.int .i64 x.g) := (Bz.cell 1).trans x.a1
      have u2 : wz.frozen? ⟨b8, 1, none⟩ = false := Bz.free 1
      obtain ⟨w20, hw20⟩ : ∃ w20, w20 = wz.setCell ⟨b8, 1, none⟩ (.int .i64 0) := ⟨_, rfl⟩
      have O20 : Only b8 wz w20 := by rw [hw20]; exact (Only.refl _ _).set _ _
      have HB20 := Lib.hid (show Bx w20 b8 (x.gen 0).arr by rw [hw20]; exact Bz.genTo 0)
      have HA20 := Lib.hid (O20.bx B5z (by omega))
      have E20 := Lib.hid (O20.new (Er.out.step hxz) (by omega))
      have HMk20 := Lib.hid (((HMk.out.to HXr.out).to hxz).only O20 h9)
      have H20 := Lib.hid hw20
      clear hw20 O20 Bz B5z hxz HSm HV hmk hOk HMt HMk HB8 HB5 hR18 HXr Er E7
      go_upto_region 28 with fail
      rw [← H20.out]
      clear u1 u2
      have hn20 := HB20.out.node
      have u0 : w20.cell? ⟨b8, 0, none⟩ = some (.int .i64 x.k) := HB20.out.cell 0
      by_cases a1 : x.k < 1
      · have hnm : ¬ x.Makes := fun hh => by have := hh.1; omega
        obtain ⟨rfl, rfl, hB15⟩ : k17 = 1 ∧ s16 = 0 ∧ Hid (Bx w20 b15 #[.slice none 0 0, .slice none 0 0]) := by
          rcases HMk20.out.2 with ⟨_, _, h3, _, g5, g6⟩ | ⟨_, _, _, _, _, _, _, _, _, _, _, hh, _⟩
          · exact ⟨h3.2 (fun hh => hnm hh.2), g5, Lib.hid g6⟩
          · exact absurd hh hnm
        have z0 : w20.cell? ⟨b15, 0, none⟩ = some (.slice none 0 0) := hB15.out.cell 0
        clear hnm hn20
        go_wp2_with fail
        go_ret
        exact ⟨rfl, E20.out⟩
      · by_cases a2 : 100 < x.k
        · have hnm : ¬ x.Makes := fun hh => by have := hh.2.1; omega
          obtain ⟨rfl, rfl, hB15⟩ : k17 = 1 ∧ s16 = 0 ∧ Hid (Bx w20 b15 #[.slice none 0 0, .slice none 0 0]) := by
            rcases HMk20.out.2 with ⟨_, _, h3, _, g5, g6⟩ | ⟨_, _, _, _, _, _, _, _, _, _, _, hh, _⟩
            · exact ⟨h3.2 (fun hh => hnm hh.2), g5, Lib.hid g6⟩
            · exact absurd hh hnm
          have z0 : w20.cell? ⟨b15, 0, none⟩ = some (.slice none 0 0) := hB15.out.cell 0
          clear hnm hn20
          go_wp2_with fail
          go_ret
          exact ⟨rfl, E20.out⟩
        · have HW := Lib.hid (well_is (x.gen 0) w20 HX.out)
          have hwp := wellp_gen0 x (by omega)
          by_cases a3 : x.Makes
          · rw [decide_eq_true (hwp.2 a3)] at HW
            have HM3 := Lib.hid a3
            clear hwp a3
            go_wp2_with (refine wpList_load_nd (by rfl) _ (by rfl) _ (by rfl) (x.gen 0) hn20 ?_)
            refine HW.out.mono ?_; rintro e w21 ⟨rfl, hx21⟩
            clear u0 hn20 HW
            have E21 := Lib.hid (E20.out.step hx21)
            have HB21 := Lib.hid (HB20.out.to hx21)
            have HA21 := Lib.hid (HA20.out.to hx21)
            have HMk21 := Lib.hid (HMk20.out.to hx21)
            clear hx21 HB20 HA20 HMk20 E20
            rcases HMk21.out.2 with ⟨hk0, h2, _, h3, rfl, hB15⟩ | ⟨mm, p, old, gg, c', B', rfl, rfl, hp, ho, _, _, rfl, hB15, hAr, hlo1, hlo2⟩
            · obtain rfl : k17 = 2 := h2.2 ⟨HM18.out, HM3.out⟩
              obtain rfl : m' = 0 := by have h4 := HLF.out; rw [h3 rfl] at h4; exact h4.symm
              have HB15 := Lib.hid hB15
              have k1 : w21.cell? ⟨b5, 1, none⟩ = some (.slice B 0 d) := HA21.out.cell 1
              have z0 : w21.cell? ⟨b15, 0, none⟩ = some (.slice none 0 0) := hB15.cell 0
              clear hk0 h2 h3 hB15
              go_wp2_with fail
              go_ret
              exact ⟨rfl, E21.out⟩
            · have hpn : p < n' := by have := (List.getElem?_eq_some_iff.1 ho).1; have := HLN.out; omega
              have hnp : ¬ n' ≤ p := by omega
              have hog := (HM18.out.fits old (List.mem_of_getElem? ho)).1
              have hmay : May p old.g := ⟨by omega, by have := HM18.out.le; have := HLN.out; omega, hog.1, hog.2⟩
              obtain ⟨ad, rfl, hno⟩ := (HA.out.to E21.out).nodeAt ho
              obtain ⟨fd, rfl, hfc⟩ := (HA.out.to E21.out).freeAt hp
              have hgc : w21.cell? { block := (ad.add (p * 16)).block, off := (ad.add (p * 16)).off + 1 } = some (.int .i64 old.g) := hno.gc
              have k0 : w21.cell? ⟨b5, 0, none⟩ = some (.slice (some ad) n' c) := HA21.out.cell 0
              have k1 : w21.cell? ⟨b5, 1, none⟩ = some (.slice (some fd) (mm + 1 : Nat) d) := HA21.out.cell 1
              have e2 : IntKind.i64.wrap ((mm : Int) + 1 - 1) = (mm : Int) := by rw [IntKind.wrap_i64]; omega
              have u1 : w21.cell? ⟨b8, 1, none⟩ = some (.int .i64 0) := HB21.out.cell 1
              have u2 : w21.frozen? ⟨b8, 1, none⟩ = false := HB21.out.free 1
              obtain ⟨gq, hgq⟩ : ∃ gq, gq = old.g := ⟨_, rfl⟩
              rw [← hgq] at hgc
              obtain ⟨w22, hw22⟩ : ∃ w22, w22 = w21.setCell ⟨b8, 1, none⟩ (.int .i64 gq) := ⟨_, rfl⟩
              have O22 : Only b8 w21 w22 := by rw [hw22]; exact (Only.refl _ _).set _ _
              have HB22 := Lib.hid (show Bx w22 b8 (x.gen gq).arr by rw [hw22]; exact HB21.out.genTo gq)
              have HA22 := Lib.hid (O22.bx HA21.out (by omega))
              have E22 := Lib.hid (O22.new E21.out (by omega))
              have hb15n := HMk21.out.1
              have HB15 := Lib.hid (O22.bx hB15 (by omega))
              have HAr := Lib.hid (show Ar w22 (some ⟨gg, 0, none⟩) n' B' mm (ns'.set p (x.gen gq)) (fs'.take mm) from by
                rw [hgq]
                exact ⟨O22.rd hAr.nodes (fun q hq => by injection hq with hq; subst hq; show gg ≠ b8; omega), O22.rd hAr.free (fun q hq => by have := hlo2 q hq; omega), hAr.ok⟩)
              have HMy := Lib.hid (show May p gq by rw [hgq]; exact hmay)
              have HS := Lib.hid (show 65536 * old.g + (p : Int) + 1 = 65536 * gq + (p : Int) + 1 by rw [hgq])
              have H22 := Lib.hid hw22
              have HPO := Lib.hid (And.intro hp ho)
              clear hw22 O22 hgq hog hmay hno hp ho hB15 hAr hlo1 hlo2 HB21 HA21 HMk21 E21 HM18 HM3 hb15n
              go_upto_region 35 with fail
              rw [← H22.out]
              clear u1 u2 k0 k1 hgc hfc
              have hwb8 : w.heap.size ≤ b8 := by omega
              refine calls_want w22 b5 n' mm c d (some ad) (some fd) ns' _ _ _ _ _ _ _ _ _ _ _ _ _ _ _ _ _ _ _ _ _ _ _ _ _ _ _ _ _ _ _ _ _ _ _ _ _ _ _ _ _ _ _ _ _ _ _ _ _ _ _ _ _ _ _ _ _ _ _ _ _ _ _ _ _ _ _ _ _ _ _ _ _ _ _ _ _ _ _ _ _ _ _ _ _ _ _ _ _ _ _ _ _ _ _ _ _ _ _ _ _ _ _ _ _ _ _ _ _ _ _ _ _ _ _ _ _ _ _ _ _ _ _ _ _ _ _ _ _ _ _ _ _ _ _ _ _ _ _ _ _ _ _ _ _ _ _ _ _ _ _ _ _ _ _ _ _ _ _ _ _ _ _ _ _ _ _ _ _ _ _ _ _ _ _ _ _ _ _ _ _ _ _ _ _ _ _ _ _ _ _ _ _ _ _ _ _ _ _ _ _ _ _ _ _ _ _ _ _ _ _ _ _ _ _ _ _ _ _ _ _ _ _ _ _ _ _ _ _ _ _ _ _ _ _ _ _ _ _ _ _ _ _ _ _ _ _ _ _ _ _ _ _ _ _ _ _ _ _ _ _ _ _ _ _ _ _ _ _ _ _ _ _ _ _ _ _ _ _ (by omega) (by omega) HD.out.1 HD.out.2 HA22 (Lib.hid (HA.out.to E22.out).nodes) (Lib.hid ?_)
              intro v27 v251 v252 v253 v254 v255 v256 v257 v258 v259 w23 b27 h27 hW hx23
              subst h27
              obtain ⟨A2, c2, loA, hiA, hBb, hrA, g1, g2, g3⟩ := hW
              have h0 : 0 < n' := by omega
              obtain ⟨hoA, hltA⟩ := hrA.resolve_right (fun hz => by have := hz.1; omega)
              obtain ⟨g, c2', hs2, hgA, hN0⟩ := OwnN.of_own hoA h0
              injection hs2 with e1 _ e3
              subst e1 e3
              have hgB := hltA g rfl
              have hbg : b27 ≠ g := by omega
              have hg22 : w22.heap.size ≤ g := by omega
              have HN0 := Lib.hid hN0
              have HBb := Lib.hid hBb
              have HX23 := Lib.hid hx23
              have hpl : p < ns'.length := by have := HLN.out; omega
              have hn8 := (HB22.out.to hx23).node
              have y0 : w23.cell? ⟨b27, 0, none⟩ = some (.slice (some ⟨g, 0, none⟩) n' c2) := hBb.cell 0
              clear hBb hrA hoA hltA hN0 hx23 g1 g2 g3 hgA hgB
              go_upto_region 37 with (first
                | (refine wpList_load_nd (by rfl) _ (by rfl) _ (by rfl) (x.gen gq) hn8 ?_)
                | (refine wpList_store_in (by rfl) _ _ (by rfl) g p (by rfl) (x.gen gq) (by rfl) ns' HN0.out hpl ?_
                   intro w24 N24 O24))
              have E24 := Lib.hid (O24.new HX23.out hg22)
              have HN24 := Lib.hid N24
              have HB24 := Lib.hid (O24.bx HBb.out hbg)
              have q0 : w24.cell? ⟨b27, 0, none⟩ = some (.slice (some ⟨g, 0, none⟩) n' c2) := HB24.out.cell 0
              have q1 : w24.cell? ⟨b27, 1, none⟩ = some (.slice (some fd) mm d) := HB24.out.cell 1
              have q2 : w24.cell? ⟨b15, 0, none⟩ = some (.slice (some ⟨gg, 0, none⟩) n' c') := (HB15.out.to E24.out).cell 0
              have q3 : w24.cell? ⟨b15, 1, none⟩ = some (.slice B' mm mm) := (HB15.out.to E24.out).cell 1
              have q4 : w24.cell? ⟨b8, 1, none⟩ = some (.int .i64 gq) := (HB22.out.to E24.out).cell 1
              have hfr : Ar w24 (some ⟨g, 0, none⟩) n' (some fd) mm (ns'.set p (x.gen gq)) (fs'.take mm) := by
                refine ⟨HN24.out.rd (by rw [List.length_set]; exact HLN.out), ?_, HAr.out.ok⟩
                have h2 := (HA.out.to (E22.out.step E24.out)).free.take (k := mm) (by omega)
                have e2 : (Ks IntKind.i64 fs').take (mm * 1) = Ks .i64 (fs'.take mm) := by
                  unfold Ks
                  rw [List.map_take, Nat.mul_one]
                rw [e2] at h2
                exact h2
              have HLk := Lib.hid (like_is (some ⟨gg, 0, none⟩) B' (some ⟨g, 0, none⟩) (some fd) n' mm c' mm n' mm c2 d (ns'.set p (x.gen gq)) (ns'.set p (x.gen gq)) (fs'.take mm) (fs'.take mm) w24 (HAr.out.to E24.out) hfr (by omega) (by omega) true (by simp))
              clear N24 O24 y0 hn8 hfr
              go_wp2_with fail
              refine (want_of p gq _ HMy.out).mono ?_; rintro e w25 ⟨rfl, rfl⟩
              rw [HS.out]
              go_wp2_with fail
              refine HLk.out.mono ?_; rintro e w26 ⟨rfl, hx26⟩
              go_wp2_with fail
              go_ret
              exact ⟨rfl, E22.out.step (E24.out.step hx26)⟩
          · rw [decide_eq_false (fun hh => a3 (hwp.1 hh))] at HW
            have hnm := a3
            obtain ⟨rfl, rfl, hB15⟩ : k17 = 1 ∧ s16 = 0 ∧ Hid (Bx w20 b15 #[.slice none 0 0, .slice none 0 0]) := by
              rcases HMk20.out.2 with ⟨_, _, h3, _, g5, g6⟩ | ⟨_, _, _, _, _, _, _, _, _, _, _, hh, _⟩
              · exact ⟨h3.2 (fun hh => hnm hh.2), g5, Lib.hid g6⟩
              · exact absurd hh hnm
            have HB15 := hB15
            clear hnm hwp a3
            go_wp2_with (refine wpList_load_nd (by rfl) _ (by rfl) _ (by rfl) (x.gen 0) hn20 ?_)
            refine HW.out.mono ?_; rintro e w21 ⟨rfl, hx21⟩
            have z0 : w21.cell? ⟨b15, 0, none⟩ = some (.slice none 0 0) := (HB15.out.to hx21).cell 0
            have E21 := Lib.hid (E20.out.step hx21)
            clear hx21
            go_wp2_with fail
            go_ret
            exact ⟨rfl, E21.out⟩

end Go.Proofs.Ytmfpgbiicncpcaa
