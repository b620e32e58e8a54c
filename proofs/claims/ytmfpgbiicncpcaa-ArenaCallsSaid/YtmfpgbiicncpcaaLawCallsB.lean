/-
  The walk of ArenaCalls: what New and Get answer.
-/
import Derived.Test.YtmfpgbiicncpcaaLawCallsC
set_option linter.unusedVariables false
set_option linter.unusedSimpArgs false
namespace Go.Proofs.Ytmfpgbiicncpcaa
open Go.RowKit

set_option maxHeartbeats 6400000 in
set_option maxRecDepth 100000 in
theorem calls_partB (w w3 : World) (b5 b8 n' m' c d q' r : Nat) (A B C : Option Addr) (ns' : List Nd) (fs' rs : List Int) (size rr : Int) (x : Nd) (c0 c3 c6 c7 c9 c10 c11 c12 c13 c14 c15 c16 c17 c18 c19 c20 c21 c22 c23 c24 c25 c26 c27 c28 c29 c30 c31 c32 c33 c34 c35 c36 c37 c38 c39 c40 c41 c42 c43 c44 c45 c46 c47 c48 c49 c50 c51 c52 c53 c54 c55 c56 c57 c58 c59 c60 c61 c62 c63 c64 c65 c66 c67 c68 c69 c70 c71 c72 c73 c74 c75 c76 c77 c78 c79 c80 c81 c82 c83 c84 c85 c86 c87 c88 c89 c90 c91 c92 c93 c94 c95 c96 c97 c98 c99 c100 c101 c102 c103 c104 c105 c106 c107 c108 c109 c110 c111 c112 c113 c114 c115 c116 c117 c118 c119 c120 c121 c122 c123 c124 c125 c126 c127 c128 c129 c130 c131 c132 c133 c134 c135 c136 c137 c138 c139 c140 c141 c142 c143 c144 c145 c146 c147 c148 c149 c150 c151 c152 c153 c154 c155 c156 c157 c158 c159 c160 c161 c162 c163 c164 c165 c166 c167 c168 c169 c170 c171 c172 c173 c174 c175 c176 c177 c178 c179 c180 c181 c182 c183 c184 c185 c186 c187 c188 c189 c190 c191 c192 c193 c194 c195 c196 c197 c198 c199 c200 c201 c202 c203 c204 c205 c206 c207 c208 c209 c210 c211 c212 c213 c214 c215 c216 c217 c218 c219 c220 c221 c222 c223 c224 c225 c226 c227 c228 c229 c230 c231 c232 c233 c234 c235 c236 c237 c238 c239 c240 c241 c242 c243 c244 c245 c246 c247 c248 c249 c250 c251 c252 c253 c254 c255 c256 c257 c258 c259 c260 c261 c262 c263 c264 c265 c266 c267 c268 c269 c270 c271 c272 c273 c274 c275 c276 c277 c278 c279 : Value)
    (hn40 : n' ≤ 40) (hm42 : m' ≤ 42) (hq10 : q' ≤ 10) (hr0 : 0 ≤ rr) (hr1 : rr ≤ 18446744073709551615) (h5 : w.heap.size ≤ b5) (h8 : b5 < b8) (h9 : b8 < b5 + 2) (HD : Hid (m' ≤ d ∧ d ≤ maxLen)) (HLN : Hid (ns'.length = n')) (HLF : Hid (fs'.length = m')) (HPL : Hid (rs.length = q')) (HU : Hid (∀ z ∈ rs, 0 ≤ z ∧ z ≤ 18446744073709551615)) (HX : Hid x.Ok)
    (HA : Hid (Ar w A n' B m' ns' fs')) (HP : Hid (Rd w 1 C q' (Us rs))) (E3 : Hid (Ext w w3)) (Z3 : Hid (b5 + 2 ≤ w3.heap.size)) (HB5 : Hid (Bx w3 b5 #[.slice A n' c, .slice B m' d])) (HB8 : Hid (Bx w3 b8 x.arr)) :
    Code.wp Try.prog (callsT 2) (bodyPost Try.prog Try.f3 fun e w' => e = .returned (.bool true) ∧ Ext w w') ⟨List.toArray (c0 :: .int .i64 size :: .int .u64 rr :: c3 :: .slice C q' r :: .pointer (some ⟨b5, 0, none⟩) :: c6 :: c7 :: .pointer (some ⟨b8, 0, none⟩) :: c9 :: c10 :: c11 :: c12 :: c13 :: c14 :: c15 :: c16 :: c17 :: c18 :: c19 :: c20 :: c21 :: c22 :: c23 :: c24 :: c25 :: c26 :: c27 :: c28 :: c29 :: c30 :: c31 :: c32 :: c33 :: c34 :: c35 :: c36 :: c37 :: c38 :: c39 :: c40 :: c41 :: c42 :: c43 :: c44 :: c45 :: c46 :: c47 :: c48 :: c49 :: c50 :: c51 :: c52 :: c53 :: c54 :: c55 :: c56 :: c57 :: c58 :: c59 :: c60 :: c61 :: c62 :: c63 :: c64 :: c65 :: c66 :: c67 :: c68 :: c69 :: c70 :: c71 :: c72 :: c73 :: c74 :: c75 :: c76 :: c77 :: c78 :: c79 :: c80 :: c81 :: c82 :: c83 :: c84 :: c85 :: c86 :: c87 :: c88 :: c89 :: c90 :: c91 :: c92 :: c93 :: c94 :: c95 :: c96 :: c97 :: c98 :: c99 :: c100 :: c101 :: c102 :: c103 :: c104 :: c105 :: c106 :: c107 :: c108 :: c109 :: c110 :: c111 :: c112 :: c113 :: c114 :: c115 :: c116 :: c117 :: c118 :: c119 :: c120 :: c121 :: c122 :: c123 :: c124 :: c125 :: c126 :: c127 :: c128 :: c129 :: c130 :: c131 :: c132 :: c133 :: c134 :: c135 :: c136 :: c137 :: c138 :: c139 :: c140 :: c141 :: c142 :: c143 :: c144 :: c145 :: c146 :: c147 :: c148 :: c149 :: c150 :: c151 :: c152 :: c153 :: c154 :: c155 :: c156 :: c157 :: c158 :: c159 :: c160 :: c161 :: c162 :: c163 :: c164 :: c165 :: c166 :: c167 :: c168 :: c169 :: c170 :: c171 :: c172 :: c173 :: c174 :: c175 :: c176 :: c177 :: c178 :: c179 :: c180 :: c181 :: c182 :: c183 :: c184 :: c185 :: c186 :: c187 :: c188 :: c189 :: c190 :: c191 :: c192 :: c193 :: c194 :: c195 :: c196 :: c197 :: c198 :: c199 :: c200 :: c201 :: c202 :: c203 :: c204 :: c205 :: c206 :: c207 :: c208 :: c209 :: c210 :: c211 :: c212 :: c213 :: c214 :: c215 :: c216 :: c217 :: c218 :: c219 :: c220 :: c221 :: c222 :: c223 :: c224 :: c225 :: c226 :: c227 :: c228 :: c229 :: c230 :: c231 :: c232 :: c233 :: c234 :: c235 :: c236 :: c237 :: c238 :: c239 :: c240 :: c241 :: c242 :: c243 :: c244 :: c245 :: c246 :: c247 :: c248 :: c249 :: c250 :: c251 :: c252 :: c253 :: c254 :: c255 :: c256 :: c257 :: c258 :: c259 :: c260 :: c261 :: c262 :: c263 :: c264 :: c265 :: c266 :: c267 :: c268 :: c269 :: c270 :: c271 :: c272 :: c273 :: c274 :: c275 :: c276 :: c277 :: c278 :: c279 :: []), []⟩ w3 := by
  let Q9 : Exit → Act → World → Prop := bodyPost Try.prog Try.f3 (fun e w' => e = .returned (.bool true) ∧ Ext w w')
  conv => arg 2; whnf
  go_upto_region 2 with fail
  go_cut [11, 12] (fun s11 s12 wx => Ext w3 wx ∧ ∃ (b : Nat) (e : Int), s11 = .pointer (some ⟨b, 0, none⟩) ∧ s12 = .int .i64 e ∧ Hid (NewO wx b size e))
  case first =>
    by_cases hz : 1 ≤ size ∧ size ≤ 512
    · obtain ⟨N, rfl⟩ : ∃ N : Nat, size = N := ⟨size.toNat, by omega⟩
      have HM := Lib.hid (new_yes N w3 (by omega) (by omega))
      have HZ := Lib.hid hz
      clear hz
      go_wp2_with fail
      refine HM.out.mono ?_; rintro e w4 ⟨g, c1, h1, d1, rfl, _, _, hA1, hx1, _⟩
      go_wp2_with fail
      go_meet
      case rel => exact ⟨hx1.step ((Ext.refl _).new _), _, _, rfl, rfl, Lib.hid (.inr ⟨N, g, c1, h1, d1, rfl, by have := HZ.out; omega, by have := HZ.out; omega, rfl, Bx.new _ _ _, hA1.to ((Ext.refl _).new _)⟩)⟩
    · have HM := Lib.hid (new_no size w3 hz)
      have HZ := Lib.hid hz
      clear hz
      go_wp2_with fail
      refine HM.out.mono ?_; rintro e w4 ⟨rfl, hx1⟩
      go_wp2_with fail
      go_meet
      case rel => exact ⟨hx1.step ((Ext.refl _).new _), _, _, rfl, rfl, Lib.hid (.inl ⟨HZ.out, rfl, Bx.new _ _ _⟩)⟩
  case rest =>
    obtain ⟨hx4, b11, e12, rfl, rfl, HO⟩ := hcut
    rename World => w4
    have HX4 := Lib.hid hx4
    clear hx4
    go_upto_region 3 with fail
    go_cut [13, 14] (fun s13 s14 wx => Ext w4 wx ∧ ∃ (b : Nat) (f : Int), s13 = .pointer (some ⟨b, 0, none⟩) ∧ s14 = .int .i64 f ∧ Hid (GetO wx b ns' rr f))
    case first =>
      have k0 : w4.cell? ⟨b5, 0, none⟩ = some (.slice A n' c) := (HB5.out.to HX4.out).cell 0
      have k1 : w4.cell? ⟨b5, 1, none⟩ = some (.slice B m' d) := (HB5.out.to HX4.out).cell 1
      have HRd := Lib.hid (HA.out.nodes.to (E3.out.step HX4.out))
      cases hgo : gotF ns' rr with
      | none =>
        have HM := Lib.hid (get_no A n' c m' d B ns' rr w4 hr0 hr1 HRd.out (gotF_none.1 hgo))
        have HG := Lib.hid (gotF_none.1 hgo)
        clear hgo
        go_wp2_with fail
        refine HM.out.mono ?_; rintro e w5 ⟨rfl, hx5⟩
        go_wp2_with (refine wpList_store_nd (W := w5) (by rfl) _ _ (by rfl) (by rfl) (bare 0) (by rfl) _ (by rfl) (by rfl) ?_)
        go_meet
        case rel => exact ⟨hx5.step ((Ext.refl _).new _), _, _, rfl, rfl, Lib.hid ⟨bare 0, Bx.new _ _ _, .inr ⟨rfl, rfl, HG.out⟩⟩⟩
      | some px =>
        obtain ⟨p, z⟩ := px
        have HM := Lib.hid (get_yes A n' c m' d B ns' rr p z w4 hr0 hr1 HRd.out (gotF_some.1 hgo))
        have HG := Lib.hid (gotF_some.1 hgo)
        clear hgo
        go_wp2_with fail
        refine HM.out.mono ?_; rintro e w5 ⟨rfl, hx5⟩
        go_wp2_with (refine wpList_store_nd (W := w5) (by rfl) _ _ (by rfl) (by rfl) z (by rfl) _ (by rfl) (by rfl) ?_)
        go_meet
        case rel => exact ⟨hx5.step ((Ext.refl _).new _), _, _, rfl, rfl, Lib.hid ⟨z, Bx.new _ _ _, .inl ⟨rfl, p, HG.out⟩⟩⟩
    case rest =>
      obtain ⟨hx5, b13, f14, rfl, rfl, HG⟩ := hcut
      rename World => w5
      have HX5 := Lib.hid hx5
      have Z5 := Lib.hid (show b5 + 2 ≤ w5.heap.size by have h1 := Z3.out; have h2 := HX4.out.size; have h3 := hx5.size; omega)
      have HB5' := Lib.hid (HB5.out.to (HX4.out.step hx5))
      have HB8' := Lib.hid (HB8.out.to (HX4.out.step hx5))
      have E5 := Lib.hid (E3.out.step (HX4.out.step hx5))
      have HO5 := Lib.hid (HO.out.to hx5)
      clear hx5 HB5 HB8 HO HX4 HX5 E3 Z3
      rename ∀ (a : Act) (w : World), Code.wp _ _ _ a w → _ => hK
      refine hK _ _ ?_
      exact calls_partC w w5 b5 b8 b11 b13 n' m' c d q' r A B C ns' fs' rs size rr x e12 f14 _ _ _ _ _ _ _ _ _ _ _ _ _ _ _ _ _ _ _ _ _ _ _ _ _ _ _ _ _ _ _ _ _ _ _ _ _ _ _ _ _ _ _ _ _ _ _ _ _ _ _ _ _ _ _ _ _ _ _ _ _ _ _ _ _ _ _ _ _ _ _ _ _ _ _ _ _ _ _ _ _ _ _ _ _ _ _ _ _ _ _ _ _ _ _ _ _ _ _ _ _ _ _ _ _ _ _ _ _ _ _ _ _ _ _ _ _ _ _ _ _ _ _ _ _ _ _ _ _ _ _ _ _ _ _ _ _ _ _ _ _ _ _ _ _ _ _ _ _ _ _ _ _ _ _ _ _ _ _ _ _ _ _ _ _ _ _ _ _ _ _ _ _ _ _ _ _ _ _ _ _ _ _ _ _ _ _ _ _ _ _ _ _ _ _ _ _ _ _ _ _ _ _ _ _ _ _ _ _ _ _ _ _ _ _ _ _ _ _ _ _ _ _ _ _ _ _ _ _ _ _ _ _ _ _ _ _ _ _ _ _ _ _ _ _ _ _ _ _ _ _ _ _ _ _ _ _ _ _ _ _ _ _ _ _ _ _ _ _ _ _ hn40 hm42 hq10 hr0 hr1 h5 h8 h9 HD HLN HLF HPL HU HX HA HP E5 Z5 HB5' HB8' HO5 HG

end Go.Proofs.Ytmfpgbiicncpcaa
