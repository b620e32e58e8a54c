/-
  ArenaCalls: the arena that is wanted, ahead of the new node.
-/
import Derived.Test.YtmfpgbiicncpcaaCallsBase
set_option linter.unusedVariables false
set_option linter.unusedSimpArgs false
namespace Go.Proofs.Ytmfpgbiicncpcaa
open Go.RowKit

theorem RowOr.only' {W W' : World} {lo hi b : Nat} {e : TypeId} {size n : Nat} {v : Value} {xs : List Value} (h : RowOr W lo hi e size v n xs) (ho : Only b W W') (hb : b < lo ∨ hi ≤ b) : RowOr W' lo hi e size v n xs :=
  h.imp (fun h => ⟨own_only h.1 ho (fun e => by have h1 := h.2 _ e; have h2 := (h.1.lt _ e).1; omega), h.2⟩) id
def WantE (W0 W : World) (b n m d : Nat) (B : Option Addr) (ns : List Nd) : Prop :=
  ∃ A c loA hiA, Bx W b #[.slice A n c, .slice B m d] ∧ RowOr W loA hiA 30 16 (.slice A n c) n (flat Nd.cells ns) ∧ W0.heap.size ≤ b ∧ W0.heap.size ≤ loA ∧ (b < loA ∨ hiA ≤ b)
theorem wantE_two {W0 W : World} {b n m loA hiA : Nat} {ns : List Nd} {A B : Option Addr} {c d : Nat} {x y : Value} (hB : Bx W b #[x, y]) (hA : RowOr W loA hiA 30 16 (.slice A n c) n (flat Nd.cells ns))
    (h1 : W0.heap.size ≤ b) (h2 : W0.heap.size ≤ loA) (h4 : b < loA ∨ hiA ≤ b) :
    WantE W0 ((W.setCell ⟨b, 0, none⟩ (.slice A n c)).setCell ⟨b, 1, none⟩ (.slice B m d)) b n m d B ns :=
  ⟨A, c, loA, hiA, hB.two _ _, hA.only' (Only.two _ _ _ _) h4, h1, h2, h4⟩
theorem wantE_new {W0 W : World} {b n m loA hiA : Nat} {ns : List Nd} {A B : Option Addr} {c d : Nat} {t : TypeId} (hA : RowOr W loA hiA 30 16 (.slice A n c) n (flat Nd.cells ns))
    (hb : b = W.heap.size) (h1 : W0.heap.size ≤ b) (h2 : W0.heap.size ≤ loA) (h4 : b < loA ∨ hiA ≤ b) :
    WantE W0 (W.alloc (.cells #[.slice A n c, .slice B m d] t)) b n m d B ns := by
  subst hb
  exact ⟨A, c, loA, hiA, Bx.new _ _ _, hA.to ((Ext.refl _).new _), h1, h2, h4⟩

set_option maxHeartbeats 6400000 in
set_option maxRecDepth 100000 in
theorem calls_want (w : World) (b5 n m c d : Nat) (A B : Option Addr) (ns : List Nd) (c0 c1 c2 c3 c4 c6 c7 c8 c9 c10 c11 c12 c13 c14 c15 c16 c17 c18 c19 c20 c21 c22 c23 c24 c26 c27 c28 c29 c30 c31 c32 c33 c34 c35 c36 c37 c38 c39 c40 c41 c42 c43 c44 c45 c46 c47 c48 c49 c50 c51 c52 c53 c54 c55 c56 c57 c58 c59 c60 c61 c62 c63 c64 c65 c66 c67 c68 c69 c70 c71 c72 c73 c74 c75 c76 c77 c78 c79 c80 c81 c82 c83 c84 c85 c86 c87 c88 c89 c90 c91 c92 c93 c94 c95 c96 c97 c98 c99 c100 c101 c102 c103 c104 c105 c106 c107 c108 c109 c110 c111 c112 c113 c114 c115 c116 c117 c118 c119 c120 c121 c122 c123 c124 c125 c126 c127 c128 c129 c130 c131 c132 c133 c134 c135 c136 c137 c138 c139 c140 c141 c142 c143 c144 c145 c146 c147 c148 c149 c150 c151 c152 c153 c154 c155 c156 c157 c158 c159 c160 c161 c162 c163 c164 c165 c166 c167 c168 c169 c170 c171 c172 c173 c174 c175 c176 c177 c178 c179 c180 c181 c182 c183 c184 c185 c186 c187 c188 c189 c190 c191 c192 c193 c194 c195 c196 c197 c198 c199 c200 c201 c202 c203 c204 c205 c206 c207 c208 c209 c210 c211 c212 c213 c214 c215 c216 c217 c218 c219 c220 c221 c222 c223 c224 c225 c226 c227 c228 c229 c230 c231 c232 c233 c234 c235 c236 c237 c238 c239 c240 c241 c242 c243 c244 c245 c246 c247 c248 c249 c250 c251 c252 c253 c254 c255 c256 c257 c258 c259 c260 c261 c262 c263 c264 c265 c266 c267 c268 c269 c270 c271 c272 c273 c274 c275 c276 c277 c278 c279 : Value) (Q0 : Exit → Act → World → Prop) (hn : n ≤ 1000) (hm : m ≤ 1000) (hmd : m + 1 ≤ d) (hd : d ≤ maxLen) (HB : Hid (Bx w b5 #[.slice A n c, .slice B (m + 1 : Nat) d])) (HR : Hid (Rd w 16 A n (flat Nd.cells ns)))
    (HNN : Hid (∀ (v27 v251 v252 v253 v254 v255 v256 v257 v258 v259 : Value) (wx : World) (b : Nat), v27 = .pointer (some ⟨b, 0, none⟩) → WantE w wx b n m d B ns → Ext w wx → Q0 .normal ⟨List.toArray (c0 :: c1 :: c2 :: c3 :: c4 :: .pointer (some ⟨b5, 0, none⟩) :: c6 :: c7 :: c8 :: c9 :: c10 :: c11 :: c12 :: c13 :: c14 :: c15 :: c16 :: c17 :: c18 :: c19 :: c20 :: c21 :: c22 :: c23 :: c24 :: .int .i64 m :: c26 :: v27 :: c28 :: c29 :: c30 :: c31 :: c32 :: c33 :: c34 :: c35 :: c36 :: c37 :: c38 :: c39 :: c40 :: c41 :: c42 :: c43 :: c44 :: c45 :: c46 :: c47 :: c48 :: c49 :: c50 :: c51 :: c52 :: c53 :: c54 :: c55 :: c56 :: c57 :: c58 :: c59 :: c60 :: c61 :: c62 :: c63 :: c64 :: c65 :: c66 :: c67 :: c68 :: c69 :: c70 :: c71 :: c72 :: c73 :: c74 :: c75 :: c76 :: c77 :: c78 :: c79 :: c80 :: c81 :: c82 :: c83 :: c84 :: c85 :: c86 :: c87 :: c88 :: c89 :: c90 :: c91 :: c92 :: c93 :: c94 :: c95 :: c96 :: c97 :: c98 :: c99 :: c100 :: c101 :: c102 :: c103 :: c104 :: c105 :: c106 :: c107 :: c108 :: c109 :: c110 :: c111 :: c112 :: c113 :: c114 :: c115 :: c116 :: c117 :: c118 :: c119 :: c120 :: c121 :: c122 :: c123 :: c124 :: c125 :: c126 :: c127 :: c128 :: c129 :: c130 :: c131 :: c132 :: c133 :: c134 :: c135 :: c136 :: c137 :: c138 :: c139 :: c140 :: c141 :: c142 :: c143 :: c144 :: c145 :: c146 :: c147 :: c148 :: c149 :: c150 :: c151 :: c152 :: c153 :: c154 :: c155 :: c156 :: c157 :: c158 :: c159 :: c160 :: c161 :: c162 :: c163 :: c164 :: c165 :: c166 :: c167 :: c168 :: c169 :: c170 :: c171 :: c172 :: c173 :: c174 :: c175 :: c176 :: c177 :: c178 :: c179 :: c180 :: c181 :: c182 :: c183 :: c184 :: c185 :: c186 :: c187 :: c188 :: c189 :: c190 :: c191 :: c192 :: c193 :: c194 :: c195 :: c196 :: c197 :: c198 :: c199 :: c200 :: c201 :: c202 :: c203 :: c204 :: c205 :: c206 :: c207 :: c208 :: c209 :: c210 :: c211 :: c212 :: c213 :: c214 :: c215 :: c216 :: c217 :: c218 :: c219 :: c220 :: c221 :: c222 :: c223 :: c224 :: c225 :: c226 :: c227 :: c228 :: c229 :: c230 :: c231 :: c232 :: c233 :: c234 :: c235 :: c236 :: c237 :: c238 :: c239 :: c240 :: c241 :: c242 :: c243 :: c244 :: c245 :: c246 :: c247 :: c248 :: c249 :: c250 :: v251 :: v252 :: v253 :: v254 :: v255 :: v256 :: v257 :: v258 :: v259 :: c260 :: c261 :: c262 :: c263 :: c264 :: c265 :: c266 :: c267 :: c268 :: c269 :: c270 :: c271 :: c272 :: c273 :: c274 :: c275 :: c276 :: c277 :: c278 :: c279 :: []), []⟩ wx)) :
    Code.wp Try.prog (callsR 35) Q0 ⟨List.toArray (c0 :: c1 :: c2 :: c3 :: c4 :: .pointer (some ⟨b5, 0, none⟩) :: c6 :: c7 :: c8 :: c9 :: c10 :: c11 :: c12 :: c13 :: c14 :: c15 :: c16 :: c17 :: c18 :: c19 :: c20 :: c21 :: c22 :: c23 :: c24 :: .int .i64 m :: c26 :: c27 :: c28 :: c29 :: c30 :: c31 :: c32 :: c33 :: c34 :: c35 :: c36 :: c37 :: c38 :: c39 :: c40 :: c41 :: c42 :: c43 :: c44 :: c45 :: c46 :: c47 :: c48 :: c49 :: c50 :: c51 :: c52 :: c53 :: c54 :: c55 :: c56 :: c57 :: c58 :: c59 :: c60 :: c61 :: c62 :: c63 :: c64 :: c65 :: c66 :: c67 :: c68 :: c69 :: c70 :: c71 :: c72 :: c73 :: c74 :: c75 :: c76 :: c77 :: c78 :: c79 :: c80 :: c81 :: c82 :: c83 :: c84 :: c85 :: c86 :: c87 :: c88 :: c89 :: c90 :: c91 :: c92 :: c93 :: c94 :: c95 :: c96 :: c97 :: c98 :: c99 :: c100 :: c101 :: c102 :: c103 :: c104 :: c105 :: c106 :: c107 :: c108 :: c109 :: c110 :: c111 :: c112 :: c113 :: c114 :: c115 :: c116 :: c117 :: c118 :: c119 :: c120 :: c121 :: c122 :: c123 :: c124 :: c125 :: c126 :: c127 :: c128 :: c129 :: c130 :: c131 :: c132 :: c133 :: c134 :: c135 :: c136 :: c137 :: c138 :: c139 :: c140 :: c141 :: c142 :: c143 :: c144 :: c145 :: c146 :: c147 :: c148 :: c149 :: c150 :: c151 :: c152 :: c153 :: c154 :: c155 :: c156 :: c157 :: c158 :: c159 :: c160 :: c161 :: c162 :: c163 :: c164 :: c165 :: c166 :: c167 :: c168 :: c169 :: c170 :: c171 :: c172 :: c173 :: c174 :: c175 :: c176 :: c177 :: c178 :: c179 :: c180 :: c181 :: c182 :: c183 :: c184 :: c185 :: c186 :: c187 :: c188 :: c189 :: c190 :: c191 :: c192 :: c193 :: c194 :: c195 :: c196 :: c197 :: c198 :: c199 :: c200 :: c201 :: c202 :: c203 :: c204 :: c205 :: c206 :: c207 :: c208 :: c209 :: c210 :: c211 :: c212 :: c213 :: c214 :: c215 :: c216 :: c217 :: c218 :: c219 :: c220 :: c221 :: c222 :: c223 :: c224 :: c225 :: c226 :: c227 :: c228 :: c229 :: c230 :: c231 :: c232 :: c233 :: c234 :: c235 :: c236 :: c237 :: c238 :: c239 :: c240 :: c241 :: c242 :: c243 :: c244 :: c245 :: c246 :: c247 :: c248 :: c249 :: c250 :: c251 :: c252 :: c253 :: c254 :: c255 :: c256 :: c257 :: c258 :: c259 :: c260 :: c261 :: c262 :: c263 :: c264 :: c265 :: c266 :: c267 :: c268 :: c269 :: c270 :: c271 :: c272 :: c273 :: c274 :: c275 :: c276 :: c277 :: c278 :: c279 :: []), []⟩ w := by
  conv => arg 2; whnf
  go_wp2_with fail
  obtain ⟨i0, hi0, hz0, hz1, hz2⟩ := info_parts node_info
  have HS := Lib.hid (fun W (hW : Ext w W) => (show W.cell? ⟨b5, 0, none⟩ = some (.slice A n c) ∧ W.cell? ⟨b5, 1, none⟩ = some (.slice B (m + 1 : Nat) d) from ⟨(HB.out.to hW).cell 0, (HB.out.to hW).cell 1⟩))
  obtain ⟨k0, k1⟩ := HS.out w (Ext.refl _)
  have g1 : (0 : Int) ≤ (m : Int) := by omega
  have g2 : (m : Int) ≤ (d : Int) := by omega
  have g3 : m ≤ d := by omega
  simp only [maxLen] at hd
  go_region_held3 (fun w' => w'.cell? ⟨b5, 0, none⟩ = some (.slice A n c) ∧ w'.cell? ⟨b5, 1, none⟩ = some (.slice B (m + 1 : Nat) d)) (exact HS.out _ (by repeat (first | exact Ext.refl _ | assumption | with_reducible refine Ext.drew ?_ | with_reducible refine Ext.new ?_ _ | with_reducible refine Ext.set ?_ _ (by omega))))
    (first
      | (refine step_append_new rfl (.tmp 251) (.tmp 253) _ rfl 30 i0 _ 16 128 Try.underlying22 hi0 hz0 hz1 hz2 rfl (by omega) _ (by rfl) A n c (flat Nd.cells ns) (by rfl) (HR.out.to ?_) (flat_one Nd.cells_one ns) (by simp only [maxLen]; omega) (by omega) ?_
         · repeat (first | exact Ext.refl _ | assumption | with_reducible refine Ext.drew ?_ | with_reducible refine Ext.new ?_ _)
         intro A1 c1 w1 hl1 hx1
         have e1 : Ext w w1 := by
           refine Ext.step ?_ hx1
           repeat (first | exact Ext.refl _ | assumption | with_reducible refine Ext.drew ?_ | with_reducible refine Ext.new ?_ _)
         have r1 := hl1.or
         have z1 := hx1.size
         try simp only [szA', szD'] at z1
         try have zb := Bx.to zb (by refine Ext.step ?_ hx1; repeat (first | exact Ext.refl _ | assumption | with_reducible refine Ext.drew ?_ | with_reducible refine Ext.new ?_ _))
         try have zb := Bx.to (Bx.new _ #[.slice none 0 0, .slice none 0 0] _) hx1
         try have zb := Bx.to (Bx.new _ #[.slice none 0 0, .slice none 0 0] _) hx1.undrew
         try have zb := Bx.to ((Bx.new _ #[.slice none 0 0, .slice none 0 0] _).alloc _) hx1
         try have zb := Bx.to ((Bx.new _ #[.slice none 0 0, .slice none 0 0] _).alloc _) hx1.undrew
         try simp at zb
         try have zb0 : w1.cell? ⟨_, 0, none⟩ = some (.slice none 0 0) := zb.cell 0
         try have zb1 : w1.cell? ⟨_, 1, none⟩ = some (.slice none 0 0) := zb.cell 1
         try have zb2 : w1.frozen? ⟨_, 0, none⟩ = false := zb.free 0
         try have zb3 : w1.frozen? ⟨_, 1, none⟩ = false := zb.free 1))
  all_goals go_wp2_with fail
  all_goals refine HNN.out _ _ _ _ _ _ _ _ _ _ _ _ rfl ?_ ?_
  all_goals first
    | exact wantE_new r1 (by rfl) (by first | omega | (simp only [szA', szD']; omega) | (simp only [szA', szD']; done)) (by first | omega | (simp only [szA', szD']; omega) | (simp only [szA', szD']; done)) (by first | omega | (simp only [szA', szD']; omega) | (simp only [szA', szD']; done))
    | exact wantE_two zb r1 (by first | omega | (simp only [szA', szD']; omega) | (simp only [szA', szD']; done)) (by first | omega | (simp only [szA', szD']; omega) | (simp only [szA', szD']; done)) (by first | omega | (simp only [szA', szD']; omega) | (simp only [szA', szD']; done))
    | (repeat (first | exact Ext.refl _ | assumption | with_reducible refine Ext.drew ?_ | with_reducible refine Ext.new ?_ _ | with_reducible refine Ext.set ?_ _ (by omega)))

end Go.Proofs.Ytmfpgbiicncpcaa
