/-
  A round of ArenaKeeps in which a node is made.
-/
import Derived.Test.YtmfpgbiicncpcaaKeepsA
import Derived.Test.YtmfpgbiicncpcaaKeepsI
set_option linter.unusedVariables false
set_option linter.unusedSimpArgs false
namespace Go.Proofs.Ytmfpgbiicncpcaa
open Go.RowKit

set_option maxHeartbeats 6400000 in
set_option maxRecDepth 100000 in
theorem keeps_make (w wr : World) (ad : Addr) (n c b0 N i q live rc sc : Nat) (R S : Option Addr) (rs : List Int) (nds ns : List Nd) (fs : List Int) (last : Int) (dr : Bool) (ki at_ : Int) (c2 c3 c4 c11 c12 c13 c14 c15 c16 c17 c18 c19 c20 c21 c22 c23 c24 c25 c26 c27 c28 c29 c30 c31 c32 c33 c34 c35 c39 c40 c41 c42 c43 c44 c45 c46 c47 c48 c49 c50 c51 c52 c53 c54 c55 c56 c57 c58 c59 c60 c61 c62 c63 c64 c65 c66 c67 c68 c69 c70 c71 c72 c73 c74 c75 c76 c77 c78 c79 c80 c81 c82 c83 c84 c85 c86 c87 c88 c89 c90 c91 c92 c93 c94 c95 c96 c97 c98 c99 c100 c101 c102 c103 c104 c105 c106 c107 c108 c109 c110 c111 c112 c113 c114 c115 c116 c117 c118 c119 c120 c121 c122 c123 c124 c125 c126 c127 c128 c129 c130 c131 c132 c133 c134 c135 c136 c137 c138 c139 c140 c141 c142 c143 c144 c145 c146 c147 c148 c149 c150 c151 c152 c153 c154 c155 c156 c157 c158 c159 c160 c161 c162 c163 c164 c165 c166 c167 c168 c169 c170 c171 c172 c173 c174 c175 c176 c177 c178 c179 c180 c181 c182 c183 c184 c185 c186 c187 c188 c189 c190 c191 c192 c193 c194 c195 c196 c197 c198 c199 c200 c201 c202 c203 c204 c205 c206 : Value)
    (Qn : Act → World → Prop) (Q0 : Exit → Act → World → Prop) (hN1 : 1 ≤ N) (hN12 : N ≤ 12) (hlt : i < n) (h40 : i < 40) (hq40 : q ≤ 40) (hwb : w.heap.size ≤ b0)
    (xc0 : wr.cell? (ad.add (i * 3)) = some (.bool dr)) (xc1 : wr.cell? { block := (ad.add (i * 3)).block, off := (ad.add (i * 3)).off + 1 } = some (.int .i64 ki)) (xc2 : wr.cell? { block := (ad.add (i * 3)).block, off := (ad.add (i * 3)).off + 2 } = some (.int .i64 at_)) (hgo : ¬ (dr = true ∧ 0 < q))
    (HXr : Hid (Ext w wr)) (hL : Hid (LastOk last)) (hI : Hid (InKeep w.heap.size wr b0 N i q live R S rc sc rs nds ns fs))
    (HNN : Hid (∀ (v4 v7 v8 v9 v10 v11 v12 v13 v14 v15 v16 v17 v18 v19 v20 v21 v22 v23 v24 v25 v38 v39 v40 v41 v42 v43 v44 v45 v46 v47 v48 v49 v50 v51 v52 v53 v54 v55 v56 v57 v58 v59 v60 v61 v62 v63 v64 v65 v66 v67 v68 v69 v70 v71 v72 v73 v74 v75 v76 v77 v78 v79 v80 v81 v82 v83 v84 v85 v86 v87 v88 v89 v90 v91 v92 v93 v94 v95 v96 v97 v98 v99 v100 v101 v102 v103 v104 v105 v106 v107 v108 v109 v110 v111 v112 v113 v114 v115 v116 v117 v118 v119 v120 v121 v122 v123 v124 v125 v126 v127 v128 v129 v130 v131 v132 v133 v134 v135 v136 v137 v138 v139 v140 v141 v142 v143 v144 v145 v146 v147 v148 v149 v150 v151 v152 v153 v154 v155 v156 v157 v158 v159 v160 v161 v162 v163 v164 v165 v166 v167 v168 v169 v170 v171 v172 v173 v174 v175 v176 v177 v178 v179 v180 v181 v182 v183 v184 v185 v186 v187 v188 : Value) (wx : World), RE w b0 N i v7 v8 v9 v10 v38 wx → Qn ⟨#[.int .i64 N, .slice (some ad) n c, c2, c3, v4, .pointer (some ⟨b0, 0, none⟩), .int .i64 0, v7, v8, v9, v10, v11, v12, v13, v14, v15, v16, v17, v18, v19, v20, v21, v22, v23, v24, v25, c26, c27, c28, c29, c30, c31, c32, c33, c34, c35, .slice (some ad) n c, .int .i64 n, v38, v39, v40, v41, v42, v43, v44, v45, v46, v47, v48, v49, v50, v51, v52, v53, v54, v55, v56, v57, v58, v59, v60, v61, v62, v63, v64, v65, v66, v67, v68, v69, v70, v71, v72, v73, v74, v75, v76, v77, v78, v79, v80, v81, v82, v83, v84, v85, v86, v87, v88, v89, v90, v91, v92, v93, v94, v95, v96, v97, v98, v99, v100, v101, v102, v103, v104, v105, v106, v107, v108, v109, v110, v111, v112, v113, v114, v115, v116, v117, v118, v119, v120, v121, v122, v123, v124, v125, v126, v127, v128, v129, v130, v131, v132, v133, v134, v135, v136, v137, v138, v139, v140, v141, v142, v143, v144, v145, v146, v147, v148, v149, v150, v151, v152, v153, v154, v155, v156, v157, v158, v159, v160, v161, v162, v163, v164, v165, v166, v167, v168, v169, v170, v171, v172, v173, v174, v175, v176, v177, v178, v179, v180, v181, v182, v183, v184, v185, v186, v187, v188, c189, c190, c191, c192, c193, c194, c195, c196, c197, c198, c199, c200, c201, c202, c203, c204, c205, c206], []⟩ wx)) :
    Code.wp Try.prog keepsBody (Exit.then Qn Q0) ⟨#[.int .i64 N, .slice (some ad) n c, c2, c3, c4, .pointer (some ⟨b0, 0, none⟩), .int .i64 0, .slice R q rc, .slice S q sc, .int .i64 live, .int .u64 last, c11, c12, c13, c14, c15, c16, c17, c18, c19, c20, c21, c22, c23, c24, c25, c26, c27, c28, c29, c30, c31, c32, c33, c34, c35, .slice (some ad) n c, .int .i64 n, .int .i64 i, c39, c40, c41, c42, c43, c44, c45, c46, c47, c48, c49, c50, c51, c52, c53, c54, c55, c56, c57, c58, c59, c60, c61, c62, c63, c64, c65, c66, c67, c68, c69, c70, c71, c72, c73, c74, c75, c76, c77, c78, c79, c80, c81, c82, c83, c84, c85, c86, c87, c88, c89, c90, c91, c92, c93, c94, c95, c96, c97, c98, c99, c100, c101, c102, c103, c104, c105, c106, c107, c108, c109, c110, c111, c112, c113, c114, c115, c116, c117, c118, c119, c120, c121, c122, c123, c124, c125, c126, c127, c128, c129, c130, c131, c132, c133, c134, c135, c136, c137, c138, c139, c140, c141, c142, c143, c144, c145, c146, c147, c148, c149, c150, c151, c152, c153, c154, c155, c156, c157, c158, c159, c160, c161, c162, c163, c164, c165, c166, c167, c168, c169, c170, c171, c172, c173, c174, c175, c176, c177, c178, c179, c180, c181, c182, c183, c184, c185, c186, c187, c188, c189, c190, c191, c192, c193, c194, c195, c196, c197, c198, c199, c200, c201, c202, c203, c204, c205, c206], []⟩ wr := by
  let Q9 : Exit → Act → World → Prop := bodyPost Try.prog Try.f5 (fun _ _ => True)
  conv => arg 2; whnf
  obtain ⟨w2, hw2⟩ : ∃ w2, w2 = wr.alloc (.cells #[.bool dr, .int .i64 ki, .int .i64 at_] 55) := ⟨_, rfl⟩
  obtain ⟨B2, hx2, hs2⟩ := box_made hw2
  have H2 := Lib.hid hw2
  have HB2 := Lib.hid B2
  have HX2 := Lib.hid hx2
  have HGO := Lib.hid hgo
  have c0 : w2.cell? ⟨wr.heap.size, 0, none⟩ = some (.bool dr) := B2.cell 0
  have c1 : w2.cell? ⟨wr.heap.size, 1, none⟩ = some (.int .i64 ki) := B2.cell 1
  have c2 : w2.cell? ⟨wr.heap.size, 2, none⟩ = some (.int .i64 at_) := B2.cell 2
  have hmod := modn_is 9 ki (by omega) (by omega)
  have hk9 := modn_lt 9 ki (by omega)
  obtain ⟨kk, hkk⟩ : ∃ kk : Int, kk = 1 + (modn 9 ki : Int) := ⟨_, rfl⟩
  generalize modn 9 ki = k9 at hmod hk9 hkk
  have hkk1 : 1 ≤ kk := by omega
  have hkk2 : kk ≤ 100 := by omega
  have HKK := Lib.hid hkk
  clear hw2 B2 hx2 hs2 hgo hkk
  go_upto_region 10 with fail
  rw [← H2.out]
  go_cut [46, 47, 48, 49, 50, 51] (fun _ _ _ _ _ s51 wx => w2 = wx ∧ s51 = .bool false)
  case first =>
    cases dr with
    | false =>
      go_wp2_with fail
      go_meet
      case rel => exact ⟨rfl, rfl⟩
    | true =>
      have e0 : (0 < q) = False := by have := HGO.out; simp at this ⊢; omega
      go_wp2_with fail
      go_meet
      case rel => exact ⟨rfl, rfl⟩
  case rest =>
    obtain ⟨rfl, rfl⟩ := hcut
    go_upto_region 21 with fail
    rw [← HKK.out]
    obtain ⟨w3, hw3⟩ : ∃ w3, w3 = w2.alloc (.cells (mk9 kk at_ last).arr 30) := ⟨_, rfl⟩
    obtain ⟨B3, hx3, hs3⟩ := box_made hw3
    have hs3' : w2.heap.size < w3.heap.size := by omega
    have hn3 := B3.node
    have H3 := Lib.hid hw3
    have HB3 := Lib.hid B3
    have HX3 := Lib.hid (HX2.out.step hx3)
    have HMk := Lib.hid (mk9_makes (at_ := at_) hkk1 hkk2 hL.out.1)
    have HOk := Lib.hid (mk9_ok (kk := kk) (at_ := at_) hL.out.2.1 hL.out.2.2)
    clear hw3 B3 hx3 hs3 c0 c1 c2
    have e3 : w2.alloc (.cells #[.int .i64 kk, .int .i64 0, .int .i64 at_, .int .i64 0, .int .i64 0, .int .u64 last, .int .u64 0, .int .u64 0, .int .u64 0, .int .u64 0, .int .u64 0, .int .u64 0, .int .u64 0, .int .u64 0, .int .i64 0, .int .i64 0] 30) = w3 := H3.out.symm
    rw [e3]
    clear e3
    obtain ⟨b18, hb18⟩ : ∃ b18, b18 = w2.heap.size := ⟨_, rfl⟩
    rw [← hb18]
    rw [← hb18] at hn3 HB3
    have HB18 := Lib.hid hb18
    have hb18' : b18 < w3.heap.size := by omega
    have hb18w : wr.heap.size ≤ b18 := by have := HX2.out.size; omega
    clear hb18 hs3'
    go_cut [19, 20, 21] (fun s19 s20 s21 wx => Ext w3 wx ∧ ∃ (b : Nat) (r e : Int), s19 = .pointer (some ⟨b, 0, none⟩) ∧ s20 = .int .u64 r ∧ s21 = .int .i64 e ∧ Hid (MadeK w3 wx b r e N ns fs (mk9 kk at_ last)))
    case first =>
      obtain ⟨g, cA, dA, B, hbx, hAr, hgb, hBb, _⟩ := hI.out.home.home
      rcases Nat.eq_zero_or_pos fs.length with hf0 | hf0
      · have hfe : fs = [] := List.eq_nil_of_length_eq_zero hf0
        have hmay := hI.out.keep.may
        rw [hf0] at hbx hAr
        rw [hfe] at hAr hmay
        have k0 : w3.cell? ⟨b0, 0, none⟩ = some (.slice (some ⟨g, 0, none⟩) N cA) := (hbx.to HX3.out).cell 0
        have k1 : w3.cell? ⟨b0, 1, none⟩ = some (.slice B 0 dA) := (hbx.to HX3.out).cell 1
        have HM := Lib.hid (make_full (some ⟨g, 0, none⟩) B N cA dA ns (mk9 kk at_ last) w3 (hAr.to HX3.out) (by omega) HOk.out hmay HMk.out)
        have HFE := Lib.hid hfe
        clear hbx hAr hmay hfe hf0 hgb hBb
        go_wp2_with (refine wpList_load_nd (by rfl) _ (by rfl) _ (by rfl) (mk9 kk at_ last) hn3 ?_)
        refine HM.out.mono ?_; rintro e w5 ⟨rfl, hx5⟩
        go_wp2_with fail
        go_meet
        case rel => exact ⟨hx5.step ((Ext.refl _).new _), _, _, _, rfl, rfl, rfl, Lib.hid (.inl ⟨rfl, HFE.out⟩)⟩
      · obtain ⟨m, hm⟩ : ∃ m, fs.length = m + 1 := ⟨fs.length - 1, by omega⟩
        rw [hm] at hbx hAr
        obtain ⟨y, hy⟩ : ∃ y, fs[m]? = some y := ⟨_, List.getElem?_eq_getElem (by omega)⟩
        obtain ⟨p, old, rfl, ho, hok, _⟩ := hI.out.keep.may.last hy
        have k0 : w3.cell? ⟨b0, 0, none⟩ = some (.slice (some ⟨g, 0, none⟩) N cA) := (hbx.to HX3.out).cell 0
        have k1 : w3.cell? ⟨b0, 1, none⟩ = some (.slice B (m + 1 : Nat) dA) := (hbx.to HX3.out).cell 1
        obtain ⟨rv, hrv⟩ : ∃ rv : Int, rv = 65536 * old.g + p + 1 := ⟨_, rfl⟩
        obtain ⟨nx, hnx⟩ : ∃ nx, nx = (mk9 kk at_ last).gen old.g := ⟨_, rfl⟩
        have HM := Lib.hid ((make_yes (some ⟨g, 0, none⟩) B N m cA dA ns fs (mk9 kk at_ last) p old w3 (hAr.to HX3.out) (by omega) HOk.out hI.out.keep.may HMk.out hy ho).mono (fun e w' ⟨g, c, B, he, hA, hx, hf⟩ => show MadeB w3 N m ns fs p nx rv e w' from ⟨g, c, B, by rw [he, hrv]; rfl, by rw [hnx]; exact hA, hx, hf⟩))
        have HRV := Lib.hid hrv
        have HNX := Lib.hid hnx
        have HF := Lib.hid (And.intro hm (And.intro hy (And.intro ho hok)))
        clear hbx hAr hm hy ho hok hf0 hrv hnx hgb hBb
        go_wp2_with (refine wpList_load_nd (by rfl) _ (by rfl) _ (by rfl) (mk9 kk at_ last) hn3 ?_)
        refine HM.out.mono ?_; rintro e w5 ⟨g5, c5, B5, rfl, hA5, hx5, hf5⟩
        go_wp2_with fail
        go_meet
        case rel => exact ⟨hx5.step ((Ext.refl _).new _), _, _, _, rfl, rfl, rfl, Lib.hid (.inr ⟨rfl, m, p, old, g5, c5, B5, HF.out.1, HF.out.2.1, HF.out.2.2.1, HF.out.2.2.2, HRV.out, Bx.new _ _ _, by rw [← HNX.out]; exact hA5.to ((Ext.refl _).new _), hf5.1, hf5.2⟩)⟩
    case rest =>
      obtain ⟨hx5, b19, rr, ee, rfl, rfl, rfl, hM⟩ := hcut
      rename World => w5
      have HX5 := Lib.hid hx5
      clear hx5
      go_upto_region 22 with fail
      go_cut [115, 116, 117, 118, 119, 120, 121, 122, 123, 124, 125, 126, 127, 128] (fun _ _ _ _ _ _ _ _ _ _ _ _ _ s128 wx => w5 = wx ∧ s128 = .bool false)
      case first =>
        have hlv := hI.out.keep.live
        rcases hM.out with ⟨rfl, hfe⟩ | ⟨rfl, m, p, old, g5, c5, B5, hm, hrest⟩
        · have e4 : (live == N) = true := by rw [hfe] at hlv; simp at hlv ⊢; omega
          have e5 : ((live : Int) == (N : Int)) = true := by rw [hfe] at hlv; simp at hlv ⊢; omega
          clear hlv hfe
          go_wp2_with fail
          go_meet
          case rel => exact ⟨rfl, rfl⟩
        · clear hrest
          have e4 : (live == N) = false := by simp; omega
          have e5 : ((live : Int) == (N : Int)) = false := by simp; omega
          clear hlv hm
          go_wp2_with fail
          go_meet
          case rel => exact ⟨rfl, rfl⟩
      case rest =>
        obtain ⟨rfl, rfl⟩ := hcut
        go_upto_if 130 with fail
        go_cut [7, 8, 9, 10] (fun s7 s8 s9 s10 wx => RK w b0 N (i + 1) s7 s8 s9 s10 wx)
        case first =>
          rcases hM.out with ⟨rfl, hfe⟩ | ⟨rfl, m, p, old, g5, c5, B5, hm, hp, ho, hok, hrr, hB5, hA5, hlo1, hlo2⟩
          · clear hfe
            have HI5 := Lib.hid ((hI.out.to (HX3.out.step HX5.out)).mono (Nat.le_succ i))
            have E5 := Lib.hid ((HXr.out.step HX3.out).step HX5.out)
            go_wp2_with fail
            go_meet
            case rel => exact RK.mk E5.out hL.out HI5.out
          · obtain ⟨g, cA, dA, B, hbx, _, hgb, hBb, hR0, _, _, hS0, _, _⟩ := hI.out.home.home
            have Bb := hbx.to (HX3.out.step HX5.out)
            have z0 : w5.cell? ⟨b0, 0, none⟩ = some (.slice (some ⟨g, 0, none⟩) N cA) := Bb.cell 0
            have z1 : w5.cell? ⟨b0, 1, none⟩ = some (.slice B fs.length dA) := Bb.cell 1
            have z2 : w5.frozen? ⟨b0, 0, none⟩ = false := Bb.free 0
            have z3 : w5.frozen? ⟨b0, 1, none⟩ = false := Bb.free 1
            have y0 : w5.cell? ⟨b19, 0, none⟩ = some (.slice (some ⟨g5, 0, none⟩) N c5) := hB5.cell 0
            have y1 : w5.cell? ⟨b19, 1, none⟩ = some (.slice B5 m m) := hB5.cell 1
            obtain ⟨w6, hw6⟩ : ∃ w6, w6 = (w5.setCell ⟨b0, 0, none⟩ (.slice (some ⟨g5, 0, none⟩) N c5)).setCell ⟨b0, 1, none⟩ (.slice B5 m m) := ⟨_, rfl⟩
            have O6 : Only b0 w5 w6 := by rw [hw6]; exact Only.two _ _ _ _
            have E5 := HX3.out.step HX5.out
            have hbl := hbx.lt
            have hb018 : b0 < b18 := by omega
            obtain ⟨ns6, hns6⟩ : ∃ l, l = ns.set p ((mk9 kk at_ last).gen old.g) := ⟨_, rfl⟩
            obtain ⟨fs6, hfs6⟩ : ∃ l, l = fs.take m := ⟨_, rfl⟩
            rw [← hns6, ← hfs6] at hA5
            have hzn : Zn w w6 b0 b18 N m ns6 fs6 (mk9 kk at_ last) (.slice R q rc) q rs (.slice S q sc) q nds := by
              refine ⟨own_only (own_ext hI.out.refs E5) O6 hR0, own_only (own_ext hI.out.nodes E5) O6 hS0, hI.out.two, ?_, O6.bx (HB3.out.to HX5.out) (by omega), fun e => ?_, fun e => ?_, O6.new (HXr.out.step E5) hwb⟩
              · rw [hw6]
                exact Home.put Bb hA5 w3.heap.size hlo1 hlo2 (by omega) (fun k hk => by have := (hI.out.refs.lt k hk).2; omega) (fun k hk => by have := (hI.out.nodes.lt k hk).2; omega) hR0 hS0
              · have := (hI.out.refs.lt _ e).2; omega
              · have := (hI.out.nodes.lt _ e).2; omega
            have HR6 := Lib.hid (fun k hk => ((hzn.refs.lt k hk).2 : k < w6.heap.size))
            have HS6 := Lib.hid (fun k hk => ((hzn.nodes.lt k hk).2 : k < w6.heap.size))
            have HZ := Lib.hid hzn
            have HMd := hI.out.keep.made hm hp ho HMk.out rfl
            rw [← hns6, ← hfs6] at HMd
            have HMd := Lib.hid HMd
            have HRR := Lib.hid hrr
            have HLN := Lib.hid (show fs6.length = m by rw [hfs6, List.length_take, hm]; exact Nat.min_eq_left (Nat.le_succ m))
            have hlv : live ≤ N := by have := hI.out.keep.live; omega
            have HLo := Lib.hid (lastOk_made hI.out.keep (by omega) ho hrr)
            have H6 := Lib.hid hw6
            clear hns6 hfs6 hw6 O6 E5 hzn Bb hbx hm hp ho hok hrr hB5 hA5 hlo1 hlo2 hgb hBb hR0 hS0
            go_upto_region 26 with fail
            rw [← H6.out]
            clear z0 z1 z2 z3 y0 y1
            have hN0 : 0 < N := by omega
            refine keeps_append w w6 b0 b18 N m q rc sc R S ns6 fs6 rs nds rr kk at_ last _ _ _ _ _ _ _ _ _ _ _ _ _ _ _ _ _ _ _ _ _ _ _ _ _ _ _ _ _ _ _ _ _ _ _ _ _ _ _ _ _ _ _ _ _ _ _ _ _ _ _ _ _ _ _ _ _ _ _ _ _ _ _ _ _ _ _ _ _ _ _ _ _ _ _ _ _ _ _ _ _ _ _ _ _ _ _ _ _ _ _ _ _ _ _ _ _ _ _ _ _ _ _ _ _ _ _ _ _ _ _ _ _ _ _ _ _ _ _ _ _ _ _ _ _ _ _ _ _ _ _ _ _ _ _ _ _ _ _ _ _ _ _ _ _ _ _ _ _ _ _ _ _ _ _ _ _ _ _ _ _ _ _ _ _ _ _ _ _ _ _ _ _ _ _ _ _ _ _ _ _ _ _ _ _ _ _ _ _ _ _ _ _ _ _ _ _ _ _ _ _ _ _ _ hN0 hq40 HZ HR6 HS6 (Lib.hid ?_)
            intro v7 v8 v133 v134 v135 v136 v137 v138 v139 v140 w7 hcut
            obtain ⟨R', S', rc', sc', rfl, rfl, hZ'⟩ := hcut
            have HZ' := Lib.hid hZ'
            clear hZ'
            go_wp2_with fail
            go_meet
            case rel =>
              refine RK.mk (live := live + 1) HZ'.out.ext HLo.out ⟨HZ'.out.refs, HZ'.out.nodes, HZ'.out.two, by rw [HLN.out]; exact HZ'.out.home, by rw [HRR.out]; exact HMd.out⟩
        case rest =>
          obtain ⟨hx6, R', S', rc', sc', q', live', rs', nds', ns', fs', last', rfl, rfl, rfl, rfl, hL', hI'⟩ := hcut
          rename World => wq
          have HL' := Lib.hid hL'
          have HI' := Lib.hid hI'
          have HX6 := Lib.hid hx6
          have hq41 : q' ≤ 40 := by
            have h1 := hI'.keep.many
            have h2 := hI'.lenR
            omega
          clear hx6 hL' hI' hM HX5 HX3 HB3 HMk HOk H3 HB18 HX2 HB2 H2 HGO HKK hI hL HXr hn3 hmod hk9 hkk1 hkk2 hb18' hb18w
          go_wp2_with fail
          go_loopw [22, 23, 24, 25, 145] (fun _ _ _ _ j wi => Ext wq wi ∧ ∃ k : Nat, k ≤ q' ∧ j = .int .i64 k) (fun _ _ _ _ j _ => q' - (intOf j).toNat)
          case atStart => exact ⟨Ext.refl _, 0, Nat.zero_le _, rfl⟩
          case round =>
            obtain ⟨hxi, k, hk, rfl⟩ := hrel
            rename World => wi
            have HXi := Lib.hid hxi
            clear hxi
            by_cases hltk : k < q'
            · obtain ⟨r, hrk⟩ : ∃ r, rs'[k]? = some r := ⟨_, List.getElem?_eq_getElem (by rw [HI'.out.lenR]; exact hltk)⟩
              obtain ⟨y, hyk⟩ : ∃ y, nds'[k]? = some y := ⟨_, List.getElem?_eq_getElem (by rw [HI'.out.lenS]; exact hltk)⟩
              obtain ⟨rd, rfl, hrc⟩ := (Rd.own HI'.out.refs).2 k (.int .u64 r) (by rw [Us_get, hrk]; rfl)
              obtain ⟨gS, rfl, hgS⟩ : ∃ gS : Nat, S' = some ⟨gS, 0, none⟩ ∧ w.heap.size ≤ gS := by
                rcases HI'.out.nodes.2 with ⟨hv, h0⟩ | ⟨gS, cap, cur, hv, hb, _⟩
                · injection hv with _ h0 _; omega
                · injection hv with h1 h2 h3
                  exact ⟨gS, h1, hb⟩
              refine keeps_inner wq wi rd gS q' k i b0 N live' rc' sc' rs' nds' ns' fs' r y w _ _ _ _ _ _ _ _ _ _ _ _ _ _ _ _ _ _ _ _ _ _ _ _ _ _ _ _ _ _ _ _ _ _ _ _ _ _ _ _ _ _ _ _ _ _ _ _ _ _ _ _ _ _ _ _ _ _ _ _ _ _ _ _ _ _ _ _ _ _ _ _ _ _ _ _ _ _ _ _ _ _ _ _ _ _ _ _ _ _ _ _ _ _ _ _ _ _ _ _ _ _ _ _ _ _ _ _ _ _ _ _ _ _ _ _ _ _ _ _ _ _ _ _ _ _ _ _ _ _ _ _ _ _ _ _ _ _ _ _ _ _ _ _ _ _ _ _ _ _ _ _ _ _ _ _ _ _ _ _ _ _ _ _ _ _ _ _ _ _ _ _ _ _ _ _ _ _ _ _ _ _ _ _ _ _ _ _ _ _ _ _ _ _ _ _ _ _ _ _ _ _ _ hN12 (by omega) hltk hq41 hrk hyk hrc HI' HXi (Lib.hid ?_)
              intro v4 v22 v23 v24 v25 v145 v146 v147 v148 v149 v150 v151 v152 v153 v154 v155 v156 v157 v158 v159 v160 v161 v162 v163 v164 v165 v166 v167 v168 v169 v170 v171 v172 v173 v174 v175 v176 v177 v178 v179 v180 v181 v182 v183 v184 v185 v186 v187 wx hx h145
              subst h145
              refine ⟨?_, by simp [intOf]; omega⟩
              repeat apply Exists.intro
              exact ⟨⟨HXi.out.step hx, k + 1, by omega, rfl⟩, rfl⟩
            · go_wp2_with fail
              exact HNN.out _ _ _ _ _ _ _ _ _ _ _ _ _ _ _ _ _ _ _ _ _ _ _ _ _ _ _ _ _ _ _ _ _ _ _ _ _ _ _ _ _ _ _ _ _ _ _ _ _ _ _ _ _ _ _ _ _ _ _ _ _ _ _ _ _ _ _ _ _ _ _ _ _ _ _ _ _ _ _ _ _ _ _ _ _ _ _ _ _ _ _ _ _ _ _ _ _ _ _ _ _ _ _ _ _ _ _ _ _ _ _ _ _ _ _ _ _ _ _ _ _ _ _ _ _ _ _ _ _ _ _ _ _ _ _ _ _ _ _ _ _ _ _ _ _ _ _ _ _ _ _ _ _ _ _ _ _ _ _ _ _ _ _ _ _ _ _ _ _ _ _ _ ⟨RK.mk (HX6.out.step HXi.out) HL'.out (HI'.out.to HXi.out), by go_num⟩

end Go.Proofs.Ytmfpgbiicncpcaa
