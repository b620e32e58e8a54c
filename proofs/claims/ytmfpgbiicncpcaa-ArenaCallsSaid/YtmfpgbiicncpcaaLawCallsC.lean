/-
  The walk of ArenaCalls: what Make and Reach answer.
-/
import Derived.Test.YtmfpgbiicncpcaaLawCalls2
set_option linter.unusedVariables false
set_option linter.unusedSimpArgs false
namespace Go.Proofs.Ytmfpgbiicncpcaa
open Go.RowKit

set_option maxHeartbeats 6400000 in
set_option maxRecDepth 100000 in
theorem calls_partC (w w5 : World) (b5 b8 b11 b13 n' m' c d q' r : Nat) (A B C : Option Addr) (ns' : List Nd) (fs' rs : List Int) (size rr : Int) (x : Nd) (e12 f14 : Int) (c0 c3 c6 c7 c9 c10 c15 c16 c17 c18 c19 c20 c21 c22 c23 c24 c25 c26 c27 c28 c29 c30 c31 c32 c33 c34 c35 c36 c37 c38 c39 c40 c41 c42 c43 c44 c45 c46 c47 c48 c49 c50 c51 c52 c53 c54 c55 c56 c57 c58 c59 c60 c61 c62 c63 c64 c65 c66 c67 c68 c69 c70 c71 c72 c73 c74 c75 c76 c77 c78 c79 c80 c81 c82 c83 c84 c85 c86 c87 c88 c89 c90 c91 c92 c93 c94 c95 c96 c97 c98 c99 c100 c101 c102 c103 c104 c105 c106 c107 c108 c109 c110 c111 c112 c113 c114 c115 c116 c117 c118 c119 c120 c121 c122 c123 c124 c125 c126 c127 c128 c129 c130 c131 c132 c133 c134 c135 c136 c137 c138 c139 c140 c141 c142 c143 c144 c145 c146 c147 c148 c149 c150 c151 c152 c153 c154 c155 c156 c157 c158 c159 c160 c161 c162 c163 c164 c165 c166 c167 c168 c169 c170 c171 c172 c173 c174 c175 c176 c177 c178 c179 c180 c181 c182 c183 c184 c185 c186 c187 c188 c189 c190 c191 c192 c193 c194 c195 c196 c197 c198 c199 c200 c201 c202 c203 c204 c205 c206 c207 c208 c209 c210 c211 c212 c213 c214 c215 c216 c217 c218 c219 c220 c221 c222 c223 c224 c225 c226 c227 c228 c229 c230 c231 c232 c233 c234 c235 c236 c237 c238 c239 c240 c241 c242 c243 c244 c245 c246 c247 c248 c249 c250 c251 c252 c253 c254 c255 c256 c257 c258 c259 c260 c261 c262 c263 c264 c265 c266 c267 c268 c269 c270 c271 c272 c273 c274 c275 c276 c277 c278 c279 : Value)
    (hn40 : n' ≤ 40) (hm42 : m' ≤ 42) (hq10 : q' ≤ 10) (hr0 : 0 ≤ rr) (hr1 : rr ≤ 18446744073709551615) (h5 : w.heap.size ≤ b5) (h8 : b5 < b8) (h9 : b8 < b5 + 2) (HD : Hid (m' ≤ d ∧ d ≤ maxLen)) (HLN : Hid (ns'.length = n')) (HLF : Hid (fs'.length = m')) (HPL : Hid (rs.length = q')) (HU : Hid (∀ z ∈ rs, 0 ≤ z ∧ z ≤ 18446744073709551615)) (HX : Hid x.Ok)
    (HA : Hid (Ar w A n' B m' ns' fs')) (HP : Hid (Rd w 1 C q' (Us rs))) (E5 : Hid (Ext w w5)) (Z5 : Hid (b5 + 2 ≤ w5.heap.size)) (HB5' : Hid (Bx w5 b5 #[.slice A n' c, .slice B m' d])) (HB8' : Hid (Bx w5 b8 x.arr))
    (HO5 : Hid (NewO w5 b11 size e12)) (HG : Hid (GetO w5 b13 ns' rr f14)) :
    Code.wp Try.prog (callsT 4) (bodyPost Try.prog Try.f3 fun e w' => e = .returned (.bool true) ∧ Ext w w') ⟨List.toArray (c0 :: .int .i64 size :: .int .u64 rr :: c3 :: .slice C q' r :: .pointer (some ⟨b5, 0, none⟩) :: c6 :: c7 :: .pointer (some ⟨b8, 0, none⟩) :: c9 :: c10 :: .pointer (some ⟨b11, 0, none⟩) :: .int .i64 e12 :: .pointer (some ⟨b13, 0, none⟩) :: .int .i64 f14 :: c15 :: c16 :: c17 :: c18 :: c19 :: c20 :: c21 :: c22 :: c23 :: c24 :: c25 :: c26 :: c27 :: c28 :: c29 :: c30 :: c31 :: c32 :: c33 :: c34 :: c35 :: c36 :: c37 :: c38 :: c39 :: c40 :: c41 :: c42 :: c43 :: c44 :: c45 :: c46 :: c47 :: c48 :: c49 :: c50 :: c51 :: c52 :: c53 :: c54 :: c55 :: c56 :: c57 :: c58 :: c59 :: c60 :: c61 :: c62 :: c63 :: c64 :: c65 :: c66 :: c67 :: c68 :: c69 :: c70 :: c71 :: c72 :: c73 :: c74 :: c75 :: c76 :: c77 :: c78 :: c79 :: c80 :: c81 :: c82 :: c83 :: c84 :: c85 :: c86 :: c87 :: c88 :: c89 :: c90 :: c91 :: c92 :: c93 :: c94 :: c95 :: c96 :: c97 :: c98 :: c99 :: c100 :: c101 :: c102 :: c103 :: c104 :: c105 :: c106 :: c107 :: c108 :: c109 :: c110 :: c111 :: c112 :: c113 :: c114 :: c115 :: c116 :: c117 :: c118 :: c119 :: c120 :: c121 :: c122 :: c123 :: c124 :: c125 :: c126 :: c127 :: c128 :: c129 :: c130 :: c131 :: c132 :: c133 :: c134 :: c135 :: c136 :: c137 :: c138 :: c139 :: c140 :: c141 :: c142 :: c143 :: c144 :: c145 :: c146 :: c147 :: c148 :: c149 :: c150 :: c151 :: c152 :: c153 :: c154 :: c155 :: c156 :: c157 :: c158 :: c159 :: c160 :: c161 :: c162 :: c163 :: c164 :: c165 :: c166 :: c167 :: c168 :: c169 :: c170 :: c171 :: c172 :: c173 :: c174 :: c175 :: c176 :: c177 :: c178 :: c179 :: c180 :: c181 :: c182 :: c183 :: c184 :: c185 :: c186 :: c187 :: c188 :: c189 :: c190 :: c191 :: c192 :: c193 :: c194 :: c195 :: c196 :: c197 :: c198 :: c199 :: c200 :: c201 :: c202 :: c203 :: c204 :: c205 :: c206 :: c207 :: c208 :: c209 :: c210 :: c211 :: c212 :: c213 :: c214 :: c215 :: c216 :: c217 :: c218 :: c219 :: c220 :: c221 :: c222 :: c223 :: c224 :: c225 :: c226 :: c227 :: c228 :: c229 :: c230 :: c231 :: c232 :: c233 :: c234 :: c235 :: c236 :: c237 :: c238 :: c239 :: c240 :: c241 :: c242 :: c243 :: c244 :: c245 :: c246 :: c247 :: c248 :: c249 :: c250 :: c251 :: c252 :: c253 :: c254 :: c255 :: c256 :: c257 :: c258 :: c259 :: c260 :: c261 :: c262 :: c263 :: c264 :: c265 :: c266 :: c267 :: c268 :: c269 :: c270 :: c271 :: c272 :: c273 :: c274 :: c275 :: c276 :: c277 :: c278 :: c279 :: []), []⟩ w5 := by
  let Q9 : Exit → Act → World → Prop := bodyPost Try.prog Try.f3 (fun e w' => e = .returned (.bool true) ∧ Ext w w')
  conv => arg 2; whnf
  go_upto_region 4 with fail
  go_cut [15, 16, 17] (fun s15 s16 s17 wx => Ext w5 wx ∧ ∃ (b : Nat) (s k : Int), s15 = .pointer (some ⟨b, 0, none⟩) ∧ s16 = .int .u64 s ∧ s17 = .int .i64 k ∧ Hid (MakeO (b5 + 2) wx b s k n' m' ns' fs' x))
  case first =>
    have k0 : w5.cell? ⟨b5, 0, none⟩ = some (.slice A n' c) := HB5'.out.cell 0
    have k1 : w5.cell? ⟨b5, 1, none⟩ = some (.slice B m' d) := HB5'.out.cell 1
    have hn8 := HB8'.out.node
    have HM := Lib.hid (make_is A B n' m' c d ns' fs' x w5 (HA.out.to E5.out) (by omega) (by omega) HX.out)
    go_wp2_with (refine wpList_load_nd (by rfl) _ (by rfl) _ (by rfl) x hn8 ?_)
    refine HM.out.mono ?_
    rintro e w6 (⟨kk, hk0, hk2, hk1, hkf, rfl, hx6⟩ | ⟨mm, p, old, rfl, hp, ho, hok, hmay, hmk, g, c', B', rfl, hA6, hx6, hf6⟩)
    · have HK := Lib.hid (And.intro hk0 (And.intro hk2 (And.intro hk1 hkf)))
      clear hk0 hk2 hk1 hkf
      go_wp2_with fail
      go_meet
      case rel => exact ⟨hx6.step ((Ext.refl _).new _), _, _, _, rfl, rfl, rfl, Lib.hid ⟨Nat.le_trans Z5.out hx6.size, .inl ⟨HK.out.1, HK.out.2.1, HK.out.2.2.1, HK.out.2.2.2, rfl, Bx.new _ _ _⟩⟩⟩
    · have HK := Lib.hid (And.intro hp (And.intro ho (And.intro hmay hmk)))
      clear hp ho hok hmay hmk
      go_wp2_with fail
      go_meet
      case rel => exact ⟨hx6.step ((Ext.refl _).new _), _, _, _, rfl, rfl, rfl, Lib.hid ⟨Nat.le_trans Z5.out hx6.size, .inr ⟨mm, p, old, g, c', B', rfl, rfl, HK.out.1, HK.out.2.1, HK.out.2.2.1, HK.out.2.2.2, rfl, Bx.new _ _ _, hA6.to ((Ext.refl _).new _), Nat.le_trans Z5.out hf6.1, fun q hq => Nat.le_trans Z5.out (hf6.2 q hq)⟩⟩⟩
  case rest =>
    obtain ⟨hx6, b15, s16, k17, rfl, rfl, rfl, HMk⟩ := hcut
    rename World => w6
    have HX6 := Lib.hid hx6
    clear hx6
    go_upto_region 5 with fail
    go_cut [18, 19] (fun s18 s19 wx => Ext w6 wx ∧ ∃ (v18 : Value) (h : Int), s18 = v18 ∧ s19 = .int .i64 h ∧ Hid (ReachO wx v18 h ns' fs' rs))
    case first =>
      have k0 : w6.cell? ⟨b5, 0, none⟩ = some (.slice A n' c) := (HB5'.out.to HX6.out).cell 0
      have k1 : w6.cell? ⟨b5, 1, none⟩ = some (.slice B m' d) := (HB5'.out.to HX6.out).cell 1
      have HM := Lib.hid (reach_is A B C n' m' c d q' r ns' fs' rs w6 (HA.out.to (E5.out.step HX6.out)) (by omega) (by omega) (HP.out.to (E5.out.step HX6.out)) (by omega) HU.out)
      go_wp2_with fail
      refine HM.out.mono ?_
      rintro e w7 (⟨hno, rfl, hx7⟩ | ⟨hmay, P7, q7, rfl, hrd, _, _, hx7⟩)
      · have HN := Lib.hid hno
        clear hno
        go_wp2_with fail
        go_meet
        case rel => exact ⟨hx7, _, _, rfl, rfl, Lib.hid (.inl ⟨HN.out, rfl, rfl⟩)⟩
      · have HN := Lib.hid hmay
        clear hmay
        go_wp2_with fail
        go_meet
        case rel => exact ⟨hx7, _, _, rfl, rfl, Lib.hid (.inr ⟨HN.out, rfl, P7, q7, rfl, hrd⟩)⟩
    case rest =>
      obtain ⟨hx7, v18, h19, hv18, rfl, HRe⟩ := hcut
      subst hv18
      rename World => w7
      have X57 := Lib.hid (HX6.out.step hx7)
      have HMk7 := Lib.hid (HMk.out.to hx7)
      clear hx7 HMk HX6
      have E7 := Lib.hid (E5.out.step X57.out)
      rename ∀ (a : Act) (w : World), Code.wp _ _ _ a w → _ => hK
      refine hK _ _ ?_
      exact calls_part2 w w7 b5 b8 b11 b13 b15 n' m' c d q' r A B C ns' fs' rs size rr x e12 f14 s16 k17 h19 _ _ _ _ _ _ _ _ _ _ _ _ _ _ _ _ _ _ _ _ _ _ _ _ _ _ _ _ _ _ _ _ _ _ _ _ _ _ _ _ _ _ _ _ _ _ _ _ _ _ _ _ _ _ _ _ _ _ _ _ _ _ _ _ _ _ _ _ _ _ _ _ _ _ _ _ _ _ _ _ _ _ _ _ _ _ _ _ _ _ _ _ _ _ _ _ _ _ _ _ _ _ _ _ _ _ _ _ _ _ _ _ _ _ _ _ _ _ _ _ _ _ _ _ _ _ _ _ _ _ _ _ _ _ _ _ _ _ _ _ _ _ _ _ _ _ _ _ _ _ _ _ _ _ _ _ _ _ _ _ _ _ _ _ _ _ _ _ _ _ _ _ _ _ _ _ _ _ _ _ _ _ _ _ _ _ _ _ _ _ _ _ _ _ _ _ _ _ _ _ _ _ _ _ _ _ _ _ _ _ _ _ _ _ _ _ _ _ _ _ _ _ _ _ _ _ _ _ _ _ _ _ _ _ _ _ _ _ _ _ _ _ _ _ _ _ _ _ _ _ _ _ _ _ _ _ _ _ _ _ _ _ _ _ _ _ _ hn40 hm42 hq10 hr0 hr1 h5 h8 h9 HD HLN HLF HPL HU HX HA HP E7 (Lib.hid (HB5'.out.to X57.out)) (Lib.hid (HB8'.out.to X57.out)) (Lib.hid (HO5.out.to X57.out)) (Lib.hid (HG.out.to X57.out)) HMk7 HRe

end Go.Proofs.Ytmfpgbiicncpcaa
