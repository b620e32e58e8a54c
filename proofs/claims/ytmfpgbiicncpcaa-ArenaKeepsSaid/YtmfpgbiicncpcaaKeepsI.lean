/-
  A round of the inner loop of ArenaKeeps.
-/
import Derived.Test.YtmfpgbiicncpcaaKeepsBase
import Derived.Test.YtmfpgbiicncpcaaArLike
set_option linter.unusedVariables false
set_option linter.unusedSimpArgs false
namespace Go.Proofs.Ytmfpgbiicncpcaa
open Go.RowKit

set_option maxHeartbeats 6400000 in
set_option maxRecDepth 100000 in
theorem keeps_inner (wq wi : World) (rd : Addr) (gS q k i b0 N live rc sc : Nat) (rs : List Int) (nds ns : List Nd) (fs : List Int) (r : Int) (y : Nd) (w : World) (c0 c1 c2 c3 c4 c6 c9 c10 c11 c12 c13 c14 c15 c16 c17 c18 c19 c20 c21 c22 c23 c24 c25 c26 c27 c28 c29 c30 c31 c32 c33 c34 c35 c36 c37 c38 c39 c40 c41 c42 c43 c44 c45 c46 c47 c48 c49 c50 c51 c52 c53 c54 c55 c56 c57 c58 c59 c60 c61 c62 c63 c64 c65 c66 c67 c68 c69 c70 c71 c72 c73 c74 c75 c76 c77 c78 c79 c80 c81 c82 c83 c84 c85 c86 c87 c88 c89 c90 c91 c92 c93 c94 c95 c96 c97 c98 c99 c100 c101 c102 c103 c104 c105 c106 c107 c108 c109 c110 c111 c112 c113 c114 c115 c116 c117 c118 c119 c120 c121 c122 c123 c124 c125 c126 c127 c128 c129 c130 c131 c132 c133 c134 c135 c136 c137 c138 c139 c140 c141 c142 c146 c147 c148 c149 c150 c151 c152 c153 c154 c155 c156 c157 c158 c159 c160 c161 c162 c163 c164 c165 c166 c167 c168 c169 c170 c171 c172 c173 c174 c175 c176 c177 c178 c179 c180 c181 c182 c183 c184 c185 c186 c187 c188 c189 c190 c191 c192 c193 c194 c195 c196 c197 c198 c199 c200 c201 c202 c203 c204 c205 c206 : Value) (Qn : Act → World → Prop) (Q0 : Exit → Act → World → Prop) (hN12 : N ≤ 12) (hi40 : i + 1 ≤ 40) (hltk : k < q) (hq41 : q ≤ 40)
    (hrk : rs[k]? = some r) (hyk : nds[k]? = some y) (hrc : wq.cell? (rd.add k) = some (.int .u64 r)) (HI : Hid (InKeep w.heap.size wq b0 N (i + 1) q live (some rd) (some ⟨gS, 0, none⟩) rc sc rs nds ns fs)) (HXi : Hid (Ext wq wi))
    (HNN : Hid (∀ (v4 v22 v23 v24 v25 v145 v146 v147 v148 v149 v150 v151 v152 v153 v154 v155 v156 v157 v158 v159 v160 v161 v162 v163 v164 v165 v166 v167 v168 v169 v170 v171 v172 v173 v174 v175 v176 v177 v178 v179 v180 v181 v182 v183 v184 v185 v186 v187 : Value) (wx : World), Ext wi wx → v145 = .int .i64 ((k + 1 : Nat) : Int) → Qn ⟨#[c0, c1, c2, c3, v4, .pointer (some ⟨b0, 0, none⟩), c6, .slice (some rd) q rc, .slice (some ⟨gS, 0, none⟩) q sc, c9, c10, c11, c12, c13, c14, c15, c16, c17, c18, c19, c20, c21, v22, v23, v24, v25, c26, c27, c28, c29, c30, c31, c32, c33, c34, c35, c36, c37, c38, c39, c40, c41, c42, c43, c44, c45, c46, c47, c48, c49, c50, c51, c52, c53, c54, c55, c56, c57, c58, c59, c60, c61, c62, c63, c64, c65, c66, c67, c68, c69, c70, c71, c72, c73, c74, c75, c76, c77, c78, c79, c80, c81, c82, c83, c84, c85, c86, c87, c88, c89, c90, c91, c92, c93, c94, c95, c96, c97, c98, c99, c100, c101, c102, c103, c104, c105, c106, c107, c108, c109, c110, c111, c112, c113, c114, c115, c116, c117, c118, c119, c120, c121, c122, c123, c124, c125, c126, c127, c128, c129, c130, c131, c132, c133, c134, c135, c136, c137, c138, c139, c140, c141, c142, .slice (some rd) q rc, .int .i64 q, v145, v146, v147, v148, v149, v150, v151, v152, v153, v154, v155, v156, v157, v158, v159, v160, v161, v162, v163, v164, v165, v166, v167, v168, v169, v170, v171, v172, v173, v174, v175, v176, v177, v178, v179, v180, v181, v182, v183, v184, v185, v186, v187, c188, c189, c190, c191, c192, c193, c194, c195, c196, c197, c198, c199, c200, c201, c202, c203, c204, c205, c206], []⟩ wx)) :
    Code.wp Try.prog keepsInner (Exit.then Qn Q0) ⟨#[c0, c1, c2, c3, c4, .pointer (some ⟨b0, 0, none⟩), c6, .slice (some rd) q rc, .slice (some ⟨gS, 0, none⟩) q sc, c9, c10, c11, c12, c13, c14, c15, c16, c17, c18, c19, c20, c21, c22, c23, c24, c25, c26, c27, c28, c29, c30, c31, c32, c33, c34, c35, c36, c37, c38, c39, c40, c41, c42, c43, c44, c45, c46, c47, c48, c49, c50, c51, c52, c53, c54, c55, c56, c57, c58, c59, c60, c61, c62, c63, c64, c65, c66, c67, c68, c69, c70, c71, c72, c73, c74, c75, c76, c77, c78, c79, c80, c81, c82, c83, c84, c85, c86, c87, c88, c89, c90, c91, c92, c93, c94, c95, c96, c97, c98, c99, c100, c101, c102, c103, c104, c105, c106, c107, c108, c109, c110, c111, c112, c113, c114, c115, c116, c117, c118, c119, c120, c121, c122, c123, c124, c125, c126, c127, c128, c129, c130, c131, c132, c133, c134, c135, c136, c137, c138, c139, c140, c141, c142, .slice (some rd) q rc, .int .i64 q, .int .i64 k, c146, c147, c148, c149, c150, c151, c152, c153, c154, c155, c156, c157, c158, c159, c160, c161, c162, c163, c164, c165, c166, c167, c168, c169, c170, c171, c172, c173, c174, c175, c176, c177, c178, c179, c180, c181, c182, c183, c184, c185, c186, c187, c188, c189, c190, c191, c192, c193, c194, c195, c196, c197, c198, c199, c200, c201, c202, c203, c204, c205, c206], []⟩ wi := by
  conv => arg 2; whnf
  obtain ⟨ad2, had2, hny⟩ := NdAt.of ((Rd.own HI.out.nodes).to HXi.out) hyk
  obtain rfl : (⟨gS, 0, none⟩ : Addr) = ad2 := Option.some.inj had2
  rw [addr_zero] at hny
  obtain ⟨g, cA, dA, B, hbx, hAr, _⟩ := HI.out.home.home
  have HG := Lib.hid (got_g HI.out.keep (by omega) hrk hyk (some ⟨g, 0, none⟩) B N cA fs.length dA wi (hAr.nodes.to HXi.out))
  have k0 : wi.cell? ⟨b0, 0, none⟩ = some (.slice (some ⟨g, 0, none⟩) N cA) := (hbx.to HXi.out).cell 0
  have k1 : wi.cell? ⟨b0, 1, none⟩ = some (.slice B fs.length dA) := (hbx.to HXi.out).cell 1
  have k2 : wi.cell? (rd.add k) = some (.int .u64 r) := HXi.out.cellOf hrc
  have HNY := Lib.hid hny
  have hyl : (⟨gS, k * 16, none⟩ : Addr).block < wi.heap.size := World.block_lt_of_cell? wi _ (by have := hny 0 _ rfl; rw [addrAdd0] at this; exact this)
  clear hrk hyk hrc had2 hny hbx hAr
  go_wp2_with fail
  refine HG.out.mono ?_; rintro e w7 ⟨z, f, rfl, hf, hx7⟩
  obtain ⟨w8, hw8⟩ : ∃ w8, w8 = w7.alloc (.cells z.arr 30) := ⟨_, rfl⟩
  obtain ⟨B8, hx8, hs8⟩ := box_made hw8
  obtain ⟨b24, hb24⟩ : ∃ b24, b24 = w7.heap.size := ⟨_, rfl⟩
  rw [← hb24] at B8
  have hbw : wi.heap.size ≤ b24 := by rw [hb24]; exact hx7.size
  have z1 : w8.cell? ⟨b24, 1, none⟩ = some (.int .i64 z.g) := (B8.cell 1).trans z.a1
  have z2 : w8.frozen? ⟨b24, 1, none⟩ = false := B8.free 1
  obtain ⟨w9, hw9⟩ : ∃ w9, w9 = w8.setCell ⟨b24, 1, none⟩ (.int .i64 0) := ⟨_, rfl⟩
  have B9 : Bx w9 b24 (z.gen 0).arr := by rw [hw9]; exact B8.gen0
  have E9 : Ext wi w9 := by rw [hw9]; exact (hx7.step hx8).set _ hbw
  have hy9 := HNY.out.to E9
  have H8 := Lib.hid hw8
  have H9 := Lib.hid hw9
  have HB24 := Lib.hid hb24
  have HE9 := Lib.hid E9
  clear hw8 hw9 hb24 hx7 hx8 hs8 B8 E9 k0 k1 k2
  rcases hf with ⟨rfl, hyk0, rfl⟩ | ⟨rfl, rfl, rfl⟩
  · have hn9 := B9.node
    have heq : ∀ W, (Op.equalIn 10000 30 (.agg (z.gen 0).arr) (.agg (z.gen 0).arr)).run Try.prog W = .ok true W := fun W => by rw [nd_eq]; simp
    obtain ⟨y, hy⟩ : ∃ y, y = z.gen 0 := ⟨_, rfl⟩
    rw [← hy] at hn9 heq hy9 hyk0
    have hk9 : ∀ qq : Later w9, qq.w.cell? ⟨gS, k * 16, none⟩ = some (.int .i64 y.k) := fun qq => qq.ext.cellOf (by have := hy9 0 _ rfl; rw [addrAdd0] at this; exact this)
    have e1 : (y.k == 0) = false := by simp [hyk0]
    have e2 : (y.k != 0) = true := by simp [hyk0]
    clear hy B9 hyk0
    go_wp2_with (refine wpList_store_nd (W := w7) (by rfl) _ _ (by rfl) (by rfl) z (by rfl) _ (by rfl) (by rfl) ?_; rw [← H8.out, ← HB24.out])
    rw [← H9.out]
    try simp only [Act.put]
    refine wp_region_later w9 (Ext.refl _) (by kernel_rfl) (by kernel_rfl) ?_
    repeat (first
      | (refine wpQuiet_load_nd (by rfl) _ (by rfl) _ (by rfl) y hy9 ?_; simp only [Act.put, List.setIfInBounds_toArray, List.set_cons_zero, List.set_cons_succ])
      | (refine wpQuiet_load_nd (by rfl) _ (by rfl) _ (by rfl) y hn9 ?_; simp only [Act.put, List.setIfInBounds_toArray, List.set_cons_zero, List.set_cons_succ])
      | go_big_quiet_step (fail))
    refine wpQuiet_nil ?_
    rintro _ ⟨qq, rfl⟩
    go_wp2_with fail
    exact HNN.out _ _ _ _ _ _ _ _ _ _ _ _ _ _ _ _ _ _ _ _ _ _ _ _ _ _ _ _ _ _ _ _ _ _ _ _ _ _ _ _ _ _ _ _ _ _ _ _ _ (HE9.out.step qq.ext) (by go_num)
  · have hk9 : ∀ qq : Later w9, qq.w.cell? ⟨gS, k * 16, none⟩ = some (.int .i64 0) := fun qq => qq.ext.cellOf (by have := hy9 0 _ rfl; rw [addrAdd0] at this; exact this)
    go_wp2_with (refine wpList_store_nd (W := w7) (by rfl) _ _ (by rfl) (by rfl) (bare 0) (by rfl) _ (by rfl) (by rfl) ?_; rw [← H8.out, ← HB24.out])
    rw [← H9.out]
    try simp only [Act.put]
    refine wp_region_later w9 (Ext.refl _) (by kernel_rfl) (by kernel_rfl) ?_
    repeat (go_big_quiet_step (fail))
    refine wpQuiet_nil ?_
    rintro _ ⟨qq, rfl⟩
    go_wp2_with fail
    exact HNN.out _ _ _ _ _ _ _ _ _ _ _ _ _ _ _ _ _ _ _ _ _ _ _ _ _ _ _ _ _ _ _ _ _ _ _ _ _ _ _ _ _ _ _ _ _ _ _ _ _ (HE9.out.step qq.ext) (by go_num)

end Go.Proofs.Ytmfpgbiicncpcaa
