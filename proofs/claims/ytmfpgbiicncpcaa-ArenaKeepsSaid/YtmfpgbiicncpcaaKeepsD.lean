/-
  A round of ArenaKeeps in which a node is dropped.
-/
import Derived.Test.YtmfpgbiicncpcaaKeepsBase
set_option linter.unusedVariables false
set_option linter.unusedSimpArgs false
namespace Go.Proofs.Ytmfpgbiicncpcaa
open Go.RowKit

set_option maxHeartbeats 6400000 in
set_option maxRecDepth 100000 in
theorem keeps_drop (w wr : World) (ad : Addr) (n c b0 N i q live rc sc : Nat) (R S : Option Addr) (rs : List Int) (nds ns : List Nd) (fs : List Int) (last : Int) (ki at_ : Int) (c2 c3 c4 c11 c12 c13 c14 c15 c16 c17 c18 c19 c20 c21 c22 c23 c24 c25 c26 c27 c28 c29 c30 c31 c32 c33 c34 c35 c39 c40 c41 c42 c43 c44 c45 c46 c47 c48 c49 c50 c51 c52 c53 c54 c55 c56 c57 c58 c59 c60 c61 c62 c63 c64 c65 c66 c67 c68 c69 c70 c71 c72 c73 c74 c75 c76 c77 c78 c79 c80 c81 c82 c83 c84 c85 c86 c87 c88 c89 c90 c91 c92 c93 c94 c95 c96 c97 c98 c99 c100 c101 c102 c103 c104 c105 c106 c107 c108 c109 c110 c111 c112 c113 c114 c115 c116 c117 c118 c119 c120 c121 c122 c123 c124 c125 c126 c127 c128 c129 c130 c131 c132 c133 c134 c135 c136 c137 c138 c139 c140 c141 c142 c143 c144 c145 c146 c147 c148 c149 c150 c151 c152 c153 c154 c155 c156 c157 c158 c159 c160 c161 c162 c163 c164 c165 c166 c167 c168 c169 c170 c171 c172 c173 c174 c175 c176 c177 c178 c179 c180 c181 c182 c183 c184 c185 c186 c187 c188 c189 c190 c191 c192 c193 c194 c195 c196 c197 c198 c199 c200 c201 c202 c203 c204 c205 c206 : Value)
    (Qn : Act → World → Prop) (Q0 : Exit → Act → World → Prop) (hN1 : 1 ≤ N) (hN12 : N ≤ 12) (hlt : i < n) (h40 : i < 40) (hq40 : q ≤ 40) (hwb : w.heap.size ≤ b0)
    (xc0 : wr.cell? (ad.add (i * 3)) = some (.bool true)) (xc1 : wr.cell? { block := (ad.add (i * 3)).block, off := (ad.add (i * 3)).off + 1 } = some (.int .i64 ki)) (xc2 : wr.cell? { block := (ad.add (i * 3)).block, off := (ad.add (i * 3)).off + 2 } = some (.int .i64 at_)) (hq0 : 0 < q)
    (HXr : Hid (Ext w wr)) (hL : Hid (LastOk last)) (hI : Hid (InKeep w.heap.size wr b0 N i q live R S rc sc rs nds ns fs))
    (HNN : Hid (∀ (v4 v7 v8 v9 v10 v11 v12 v13 v14 v15 v16 v17 v18 v19 v20 v21 v22 v23 v24 v25 v38 v39 v40 v41 v42 v43 v44 v45 v46 v47 v48 v49 v50 v51 v52 v53 v54 v55 v56 v57 v58 v59 v60 v61 v62 v63 v64 v65 v66 v67 v68 v69 v70 v71 v72 v73 v74 v75 v76 v77 v78 v79 v80 v81 v82 v83 v84 v85 v86 v87 v88 v89 v90 v91 v92 v93 v94 v95 v96 v97 v98 v99 v100 v101 v102 v103 v104 v105 v106 v107 v108 v109 v110 v111 v112 v113 v114 v115 v116 v117 v118 v119 v120 v121 v122 v123 v124 v125 v126 v127 v128 v129 v130 v131 v132 v133 v134 v135 v136 v137 v138 v139 v140 v141 v142 v143 v144 v145 v146 v147 v148 v149 v150 v151 v152 v153 v154 v155 v156 v157 v158 v159 v160 v161 v162 v163 v164 v165 v166 v167 v168 v169 v170 v171 v172 v173 v174 v175 v176 v177 v178 v179 v180 v181 v182 v183 v184 v185 v186 v187 v188 : Value) (wx : World), RE w b0 N i v7 v8 v9 v10 v38 wx → Qn ⟨#[.int .i64 N, .slice (some ad) n c, c2, c3, v4, .pointer (some ⟨b0, 0, none⟩), .int .i64 0, v7, v8, v9, v10, v11, v12, v13, v14, v15, v16, v17, v18, v19, v20, v21, v22, v23, v24, v25, c26, c27, c28, c29, c30, c31, c32, c33, c34, c35, .slice (some ad) n c, .int .i64 n, v38, v39, v40, v41, v42, v43, v44, v45, v46, v47, v48, v49, v50, v51, v52, v53, v54, v55, v56, v57, v58, v59, v60, v61, v62, v63, v64, v65, v66, v67, v68, v69, v70, v71, v72, v73, v74, v75, v76, v77, v78, v79, v80, v81, v82, v83, v84, v85, v86, v87, v88, v89, v90, v91, v92, v93, v94, v95, v96, v97, v98, v99, v100, v101, v102, v103, v104, v105, v106, v107, v108, v109, v110, v111, v112, v113, v114, v115, v116, v117, v118, v119, v120, v121, v122, v123, v124, v125, v126, v127, v128, v129, v130, v131, v132, v133, v134, v135, v136, v137, v138, v139, v140, v141, v142, v143, v144, v145, v146, v147, v148, v149, v150, v151, v152, v153, v154, v155, v156, v157, v158, v159, v160, v161, v162, v163, v164, v165, v166, v167, v168, v169, v170, v171, v172, v173, v174, v175, v176, v177, v178, v179, v180, v181, v182, v183, v184, v185, v186, v187, v188, c189, c190, c191, c192, c193, c194, c195, c196, c197, c198, c199, c200, c201, c202, c203, c204, c205, c206], []⟩ wx)) :
    Code.wp Try.prog keepsBody (Exit.then Qn Q0) ⟨#[.int .i64 N, .slice (some ad) n c, c2, c3, c4, .pointer (some ⟨b0, 0, none⟩), .int .i64 0, .slice R q rc, .slice S q sc, .int .i64 live, .int .u64 last, c11, c12, c13, c14, c15, c16, c17, c18, c19, c20, c21, c22, c23, c24, c25, c26, c27, c28, c29, c30, c31, c32, c33, c34, c35, .slice (some ad) n c, .int .i64 n, .int .i64 i, c39, c40, c41, c42, c43, c44, c45, c46, c47, c48, c49, c50, c51, c52, c53, c54, c55, c56, c57, c58, c59, c60, c61, c62, c63, c64, c65, c66, c67, c68, c69, c70, c71, c72, c73, c74, c75, c76, c77, c78, c79, c80, c81, c82, c83, c84, c85, c86, c87, c88, c89, c90, c91, c92, c93, c94, c95, c96, c97, c98, c99, c100, c101, c102, c103, c104, c105, c106, c107, c108, c109, c110, c111, c112, c113, c114, c115, c116, c117, c118, c119, c120, c121, c122, c123, c124, c125, c126, c127, c128, c129, c130, c131, c132, c133, c134, c135, c136, c137, c138, c139, c140, c141, c142, c143, c144, c145, c146, c147, c148, c149, c150, c151, c152, c153, c154, c155, c156, c157, c158, c159, c160, c161, c162, c163, c164, c165, c166, c167, c168, c169, c170, c171, c172, c173, c174, c175, c176, c177, c178, c179, c180, c181, c182, c183, c184, c185, c186, c187, c188, c189, c190, c191, c192, c193, c194, c195, c196, c197, c198, c199, c200, c201, c202, c203, c204, c205, c206], []⟩ wr := by
  let Q9 : Exit → Act → World → Prop := bodyPost Try.prog Try.f5 (fun _ _ => True)
  conv => arg 2; whnf
  have hmod := modn_is (q : Int) at_ (by omega) (by omega)
  have hkq := modn_lt (q : Int) at_ (by omega)
  obtain ⟨k, hk⟩ : ∃ k, modn (q : Int) at_ = k := ⟨_, rfl⟩
  rw [hk] at hmod hkq
  have hkq' : k < q := by omega
  clear hk
  obtain ⟨r, hrk⟩ : ∃ r, rs[k]? = some r := ⟨_, List.getElem?_eq_getElem (by rw [hI.out.lenR]; exact hkq')⟩
  obtain ⟨y, hyk⟩ : ∃ y, nds[k]? = some y := ⟨_, List.getElem?_eq_getElem (by rw [hI.out.lenS]; exact hkq')⟩
  obtain ⟨g, cA, dA, B, hbx, hAr, _⟩ := hI.out.home.home
  obtain ⟨rd, rfl, hrc⟩ := (Rd.own hI.out.refs).2 k (.int .u64 r) (by rw [Us_get, hrk]; rfl)
  obtain ⟨w2, hw2⟩ : ∃ w2, w2 = wr.alloc (.cells #[.bool true, .int .i64 ki, .int .i64 at_] 55) := ⟨_, rfl⟩
  have hx2 := (box_made hw2).2.1
  have H2 := Lib.hid hw2
  have HX2 := Lib.hid hx2
  have HRK := Lib.hid hrk
  have HYK := Lib.hid hyk
  have HBX := Lib.hid hbx
  have HAR := Lib.hid hAr
  have HRC := Lib.hid hrc
  have hq0' : ¬ (q : Int) = 0 := by omega
  clear hw2 hx2 hrk hyk hbx hAr hrc
  go_upto_region 12 with fail
  rw [← H2.out]
  go_cut [14, 15] (fun _ s15 wx => Ext w2 wx ∧ ∃ f : Int, s15 = .int .i64 f ∧ Hid ((f = 0 ∧ y.k ≠ 0) ∨ (f = 4 ∧ y = bare 0)))
  case first =>
    have HS := Lib.hid (fun W (hW : Ext w2 W) => (show W.cell? ⟨b0, 0, none⟩ = some (.slice (some ⟨g, 0, none⟩) N cA) ∧ W.cell? ⟨b0, 1, none⟩ = some (.slice B fs.length dA) ∧ W.cell? (rd.add k) = some (.int .u64 r) from ⟨(HBX.out.to (HX2.out.step hW)).cell 0, (HBX.out.to (HX2.out.step hW)).cell 1, (HX2.out.step hW).cellOf HRC.out⟩))
    have HG := Lib.hid (fun W (hW : Ext w2 W) => got_f hI.out.keep (by omega) HRK.out HYK.out (some ⟨g, 0, none⟩) B N cA fs.length dA W (HAR.out.nodes.to (HX2.out.step hW)))
    obtain ⟨k0, k1, k2⟩ := HS.out w2 (Ext.refl _)
    go_region_held3 (fun w' => w'.cell? ⟨b0, 0, none⟩ = some (.slice (some ⟨g, 0, none⟩) N cA) ∧ w'.cell? ⟨b0, 1, none⟩ = some (.slice B fs.length dA) ∧ w'.cell? (rd.add k) = some (.int .u64 r)) (exact HS.out _ (by repeat (first | with_reducible exact Ext.refl _ | with_reducible assumption | with_reducible refine Ext.drew ?_ | with_reducible refine Ext.new ?_ _ | with_reducible refine Ext.set ?_ _ (by omega))))
      (first
      | (go_at_call 11
         refine (HG.out _ (by repeat (first | with_reducible exact Ext.refl _ | with_reducible assumption | with_reducible refine Ext.drew ?_ | with_reducible refine Ext.new ?_ _))).mono ?_
         rintro e w5 ⟨z, f, rfl, hf, hx5⟩
         have e5 : Ext w2 w5 := by
           refine Ext.step ?_ hx5
           repeat (first | with_reducible exact Ext.refl _ | with_reducible assumption | with_reducible refine Ext.drew ?_ | with_reducible refine Ext.new ?_ _)
         have z5 := hx5.size
         try simp only [szA, szD] at z5
         try have zb := Bx.to (Bx.new _ #[.int .i64 0, .int .i64 0, .int .i64 0, .int .i64 0, .int .i64 0, .int .u64 0, .int .u64 0, .int .u64 0, .int .u64 0, .int .u64 0, .int .u64 0, .int .u64 0, .int .u64 0, .int .u64 0, .int .i64 0, .int .i64 0] _) hx5
         try have zb := Bx.to (Bx.new _ #[.int .i64 0, .int .i64 0, .int .i64 0, .int .i64 0, .int .i64 0, .int .u64 0, .int .u64 0, .int .u64 0, .int .u64 0, .int .u64 0, .int .u64 0, .int .u64 0, .int .u64 0, .int .u64 0, .int .i64 0, .int .i64 0] _) hx5.undrew
         try simp at zb
         try have q0 : w5.cell? ⟨_, 0, none⟩ = some (.int .i64 0) := zb.cell 0
         try have q1 : w5.cell? ⟨_, 1, none⟩ = some (.int .i64 0) := zb.cell 1
         try have q2 : w5.cell? ⟨_, 2, none⟩ = some (.int .i64 0) := zb.cell 2
         try have q3 : w5.cell? ⟨_, 3, none⟩ = some (.int .i64 0) := zb.cell 3
         try have q4 : w5.cell? ⟨_, 4, none⟩ = some (.int .i64 0) := zb.cell 4
         try have q5 : w5.cell? ⟨_, 5, none⟩ = some (.int .u64 0) := zb.cell 5
         try have q6 : w5.cell? ⟨_, 6, none⟩ = some (.int .u64 0) := zb.cell 6
         try have q7 : w5.cell? ⟨_, 7, none⟩ = some (.int .u64 0) := zb.cell 7
         try have q8 : w5.cell? ⟨_, 8, none⟩ = some (.int .u64 0) := zb.cell 8
         try have q9 : w5.cell? ⟨_, 9, none⟩ = some (.int .u64 0) := zb.cell 9
         try have q10 : w5.cell? ⟨_, 10, none⟩ = some (.int .u64 0) := zb.cell 10
         try have q11 : w5.cell? ⟨_, 11, none⟩ = some (.int .u64 0) := zb.cell 11
         try have q12 : w5.cell? ⟨_, 12, none⟩ = some (.int .u64 0) := zb.cell 12
         try have q13 : w5.cell? ⟨_, 13, none⟩ = some (.int .u64 0) := zb.cell 13
         try have q14 : w5.cell? ⟨_, 14, none⟩ = some (.int .i64 0) := zb.cell 14
         try have q15 : w5.cell? ⟨_, 15, none⟩ = some (.int .i64 0) := zb.cell 15
         try have qf : ∀ j, w5.frozen? ⟨_, j, none⟩ = false := zb.free
         simp only [Nd.arr]))
    all_goals go_wp2_with fail
    all_goals go_meet
    all_goals exact ⟨by repeat (first | with_reducible exact Ext.refl _ | with_reducible assumption | with_reducible refine Ext.drew ?_ | with_reducible refine Ext.new ?_ _ | with_reducible refine Ext.set ?_ _ (by omega)), _, rfl, Lib.hid hf⟩
  case rest =>
    obtain ⟨hx3, f, rfl, hf⟩ := hcut
    rename World => w3
    obtain ⟨p, hp, hr0⟩ : ∃ p : Nat, r % 65536 = p + 1 ∧ 0 ≤ r := by
      obtain ⟨p, gg, xx, h1, h2, h3, _⟩ := hI.out.keep.each k r y HRK.out HYK.out
      have h4 := (List.getElem?_eq_some_iff.1 h3).1
      have h5 := hI.out.keep.may.le
      exact ⟨p, by omega, by omega⟩
    have ez : IntKind.i64.wrap (IntKind.i64.wrap (r.tmod 65536) - 1) = (p : Int) := by
      have hp2 : (p : Int) < 65536 := by omega
      have e1 : IntKind.i64.wrap ((p : Int) + 1) = (p : Int) + 1 := by
        clear hp
        rw [IntKind.wrap_i64]
        omega
      have e2 : IntKind.i64.wrap ((p : Int) + 1 - 1) = (p : Int) := by
        clear hp e1
        rw [IntKind.wrap_i64]
        omega
      rw [Int.tmod_eq_emod_of_nonneg hr0, hp, e1, e2]
    have HPR := Lib.hid hp
    clear hp hr0
    have HX3 := Lib.hid (HX2.out.step hx3)
    clear hx3
    go_upto_region 13 with fail
    go_cut [16, 17] (fun s16 s17 wx => Ext w3 wx ∧ ∃ (b : Nat) (A1 : Option Addr) (n1 c1 : Nat) (B1 : Option Addr) (m1 d1 : Nat) (f' : Int), s16 = .pointer (some ⟨b, 0, none⟩) ∧ s17 = .int .i64 f' ∧ Hid (Bx wx b #[.slice A1 n1 c1, .slice B1 m1 d1]) ∧ Hid (DropK w3.heap.size N fs.length ns fs p wx A1 n1 B1 m1 f'))
    case first =>
      have HS := Lib.hid (fun W (hW : Ext w3 W) => (show W.cell? ⟨b0, 0, none⟩ = some (.slice (some ⟨g, 0, none⟩) N cA) ∧ W.cell? ⟨b0, 1, none⟩ = some (.slice B fs.length dA) ∧ W.cell? (rd.add k) = some (.int .u64 r) from ⟨(HBX.out.to (HX3.out.step hW)).cell 0, (HBX.out.to (HX3.out.step hW)).cell 1, (HX3.out.step hW).cellOf HRC.out⟩))
      have HG := Lib.hid (fun W (hW : Ext w3 W) (C : Option Addr) (hC : Rd W 1 C 1 (Ks .i64 [(p : Int)])) => drop_g (some ⟨g, 0, none⟩) B C N fs.length cA dA ns fs p W (HAR.out.to (HX3.out.step hW)) (by omega) (by have := hI.out.keep.live; omega) hC hI.out.keep.may)
      obtain ⟨k0, k1, k2⟩ := HS.out w3 (Ext.refl _)
      go_region_held3 (fun w' => w'.cell? ⟨b0, 0, none⟩ = some (.slice (some ⟨g, 0, none⟩) N cA) ∧ w'.cell? ⟨b0, 1, none⟩ = some (.slice B fs.length dA) ∧ w'.cell? (rd.add k) = some (.int .u64 r)) (exact HS.out _ (by repeat (first | with_reducible exact Ext.refl _ | with_reducible assumption | with_reducible refine Ext.drew ?_ | with_reducible refine Ext.new ?_ _ | with_reducible refine Ext.set ?_ _ (by omega))))
        (first
        | (go_at_call 23
           refine (HG.out _ (by repeat (first | with_reducible exact Ext.refl _ | with_reducible assumption | with_reducible refine Ext.drew ?_ | with_reducible refine Ext.new ?_ _)) _ (by first | exact Rd.litB (by simp) | exact (Rd.litB (by simp)).to ((Ext.refl _).new _) | exact (Rd.litB (by simp)).to ((Ext.refl _).drew) | exact (Rd.litB (by simp)).to (((Ext.refl _).new _).drew))).mono ?_
           rintro e w5 ⟨A1, n1, c1, B1, m1, d1, f', rfl, hdk, hx5⟩
           have e5 : Ext w3 w5 := by
             refine Ext.step ?_ hx5
             repeat (first | with_reducible exact Ext.refl _ | with_reducible assumption | with_reducible refine Ext.drew ?_ | with_reducible refine Ext.new ?_ _)
           have z5 := hx5.size
           try simp only [szA, szD] at z5
           try simp only [szA, szD] at hdk
           try have zb := Bx.to (Bx.new _ #[.slice none 0 0, .slice none 0 0] _) hx5
           try have zb := Bx.to (Bx.new _ #[.slice none 0 0, .slice none 0 0] _) hx5.undrew
           try have zb := Bx.to ((Bx.new _ #[.slice none 0 0, .slice none 0 0] _).alloc _) hx5
           try have zb := Bx.to ((Bx.new _ #[.slice none 0 0, .slice none 0 0] _).alloc _) hx5.undrew
           try simp at zb
           try have zb0 : w5.cell? ⟨_, 0, none⟩ = some (.slice none 0 0) := zb.cell 0
           try have zb1 : w5.cell? ⟨_, 1, none⟩ = some (.slice none 0 0) := zb.cell 1
           try have zb2 : w5.frozen? ⟨_, 0, none⟩ = false := zb.free 0
           try have zb3 : w5.frozen? ⟨_, 1, none⟩ = false := zb.free 1))
      all_goals go_wp2_with fail
      all_goals go_meet
      all_goals first
        | exact ⟨by repeat (first | with_reducible exact Ext.refl _ | with_reducible assumption | with_reducible refine Ext.drew ?_ | with_reducible refine Ext.new ?_ _ | with_reducible refine Ext.set ?_ _ (by omega)), _, A1, n1, c1, B1, m1, d1, f', rfl, rfl, Lib.hid (Bx.new _ _ _), Lib.hid ((hdk.to ((Ext.refl _).new _)).mono (by omega))⟩
        | exact ⟨by repeat (first | with_reducible exact Ext.refl _ | with_reducible assumption | with_reducible refine Ext.drew ?_ | with_reducible refine Ext.new ?_ _ | with_reducible refine Ext.set ?_ _ (by omega)), _, A1, n1, c1, B1, m1, d1, f', rfl, rfl, Lib.hid (zb.two _ _), Lib.hid ((hdk.two (c := 0) (d := 0) (.inl (by omega)) _ _).mono (by omega))⟩
    case rest =>
      obtain ⟨hx4, bb, A1, n1, c1, B1, m1, d1, f', rfl, rfl, hBB, hDK⟩ := hcut
      rename World => w4
      have HX4 := Lib.hid (HX3.out.step hx4)
      have h34 := hx4.size
      clear hx4 H2
      rcases hf.out with ⟨rfl, hy0⟩ | ⟨rfl, hyb⟩
      · obtain ⟨p', ns', live', hp', hdr, rfl, hK'⟩ := hI.out.keep.dropped (by omega) HRK.out HYK.out hy0
        have hpp := HPR.out
        obtain rfl : p' = p := by omega
        obtain ⟨rfl, g2, rfl, rfl, rfl, hA4, hlo, hlo2⟩ : f' = 0 ∧ ∃ g2 : Nat, A1 = some ⟨g2, 0, none⟩ ∧ N = n1 ∧ fs.length + 1 = m1 ∧ Hid (Ar w4 (some ⟨g2, 0, none⟩) N B1 (fs.length + 1) ns' (fs ++ [(p' : Int)])) ∧ w3.heap.size ≤ g2 ∧ ∀ q, B1 = some q → w3.heap.size ≤ q.block := by
          rcases hDK.out with ⟨_, h1⟩ | ⟨h0, ns2, g2, h1, h2, h3, h4, h5, h6, h7⟩
          · rw [hdr] at h1; cases h1
          · rw [hdr] at h1
            obtain rfl := Option.some.inj h1
            exact ⟨h0, g2, h2, h3.symm, h4.symm, Lib.hid h5, h6, h7⟩
        obtain ⟨gS, rfl, hgS⟩ : ∃ gS : Nat, S = some ⟨gS, 0, none⟩ ∧ w.heap.size ≤ gS := by
          rcases hI.out.nodes.2 with ⟨hv, h0⟩ | ⟨gS, cap, cur, hv, hb, _⟩
          · injection hv with _ h0 _; omega
          · injection hv with h1 h2 h3
            exact ⟨gS, h1, hb⟩
        have hlv : live' ≤ N := by have := hK'.live; omega
        have hI4 := Lib.hid (hI.out.to HX4.out)
        obtain ⟨_, _, _, _, _, _, _, _, hR0, _, _, hS0, _, _⟩ := hI.out.home.home
        have Bb := HBX.out.to HX4.out
        have z0 : w4.cell? ⟨b0, 0, none⟩ = some (.slice (some ⟨g, 0, none⟩) N cA) := Bb.cell 0
        have z1 : w4.cell? ⟨b0, 1, none⟩ = some (.slice B fs.length dA) := Bb.cell 1
        have z2 : w4.frozen? ⟨b0, 0, none⟩ = false := Bb.free 0
        have z3 : w4.frozen? ⟨b0, 1, none⟩ = false := Bb.free 1
        have y0 : w4.cell? ⟨bb, 0, none⟩ = some (.slice (some ⟨g2, 0, none⟩) N c1) := hBB.out.cell 0
        have y1 : w4.cell? ⟨bb, 1, none⟩ = some (.slice B1 (fs.length + 1 : Nat) d1) := hBB.out.cell 1
        obtain ⟨w5, hw5⟩ : ∃ w5, w5 = (w4.setCell ⟨b0, 0, none⟩ (.slice (some ⟨g2, 0, none⟩) N c1)).setCell ⟨b0, 1, none⟩ (.slice B1 (fs.length + 1 : Nat) d1) := ⟨_, rfl⟩
        have O5 : Only b0 w4 w5 := by rw [hw5]; exact Only.two _ _ _ _
        have E5 : Ext w w5 := O5.new (HXr.out.step HX4.out) hwb
        have own5 := own_only hI4.out.nodes O5 hS0
        have ref5 := own_only hI4.out.refs O5 hR0
        have hb03 : b0 < w3.heap.size := by have := HBX.out.lt; have := HX3.out.size; omega
        have Hm5 : Home w5 b0 N (fs.length + 1) ns' (fs ++ [(p' : Int)]) (Value.slice (some rd) q rc).ownBlock (Value.slice (some ⟨gS, 0, none⟩) q sc).ownBlock := by
          rw [hw5]
          exact Home.put Bb hA4.out w3.heap.size hlo hlo2 hb03 (fun k hk => ((own_ext hI.out.refs HX3.out).lt k hk).2) (fun k hk => ((own_ext hI.out.nodes HX3.out).lt k hk).2) hR0 hS0
        have hkl : k < nds.length := (List.getElem?_eq_some_iff.1 HYK.out).1
        have H5 := Lib.hid hw5
        have HE5 := Lib.hid E5
        have HR5 := Lib.hid ref5
        have HHm := Lib.hid Hm5
        have HKp := Lib.hid hK'
        have H2w := Lib.hid hI.out.two
        clear hw5 O5 E5 ref5 Hm5 Bb hK' hdr hp' hpp hlo hlo2 hR0 hS0 hy0 xc0 xc1 xc2
        go_wp2_with (first
          | (rw [← H5.out]
             refine wpList_store_row (by rfl) _ _ (by rfl) w.heap.size gS q sc k (by rfl) (bare 0) (by rfl) nds own5 hkl ?_
             intro w6 own6 O6))
        refine HNN.out _ _ _ _ _ _ _ _ _ _ _ _ _ _ _ _ _ _ _ _ _ _ _ _ _ _ _ _ _ _ _ _ _ _ _ _ _ _ _ _ _ _ _ _ _ _ _ _ _ _ _ _ _ _ _ _ _ _ _ _ _ _ _ _ _ _ _ _ _ _ _ _ _ _ _ _ _ _ _ _ _ _ _ _ _ _ _ _ _ _ _ _ _ _ _ _ _ _ _ _ _ _ _ _ _ _ _ _ _ _ _ _ _ _ _ _ _ _ _ _ _ _ _ _ _ _ _ _ _ _ _ _ _ _ _ _ _ _ _ _ _ _ _ _ _ _ _ _ _ _ _ _ _ _ _ _ _ _ _ _ _ _ _ _ _ _ _ _ _ _ _ _ ⟨⟨O6.new HE5.out hgS, some rd, some ⟨gS, 0, none⟩, rc, sc, q, live', rs, nds.set k (bare 0), ns', fs ++ [(p' : Int)], last, rfl, rfl, by go_num, rfl, hL.out, ⟨own_only HR5.out O6 (fun e => H2w.out _ e rfl), own6, H2w.out, ?_, HKp.out⟩⟩, by go_num⟩
        have := HHm.out.only O6 (.inr rfl)
        rw [List.length_append]
        exact this
      · have HIe := Lib.hid ((hI.out.to HX4.out).mono (Nat.le_succ i))
        clear xc0 xc1 xc2
        go_wp2_with fail
        exact HNN.out _ _ _ _ _ _ _ _ _ _ _ _ _ _ _ _ _ _ _ _ _ _ _ _ _ _ _ _ _ _ _ _ _ _ _ _ _ _ _ _ _ _ _ _ _ _ _ _ _ _ _ _ _ _ _ _ _ _ _ _ _ _ _ _ _ _ _ _ _ _ _ _ _ _ _ _ _ _ _ _ _ _ _ _ _ _ _ _ _ _ _ _ _ _ _ _ _ _ _ _ _ _ _ _ _ _ _ _ _ _ _ _ _ _ _ _ _ _ _ _ _ _ _ _ _ _ _ _ _ _ _ _ _ _ _ _ _ _ _ _ _ _ _ _ _ _ _ _ _ _ _ _ _ _ _ _ _ _ _ _ _ _ _ _ _ _ _ _ _ _ _ _ ⟨RK.mk (HXr.out.step HX4.out) hL.out HIe.out, by go_num⟩

end Go.Proofs.Ytmfpgbiicncpcaa
