/-
  The walk of ArenaKeeps.
-/
import Derived.Test.YtmfpgbiicncpcaaKeepsM
import Derived.Test.YtmfpgbiicncpcaaKeepsD
import Derived.Test.YtmfpgbiicncpcaaActOpen
set_option linter.unusedVariables false
set_option linter.unusedSimpArgs false
namespace Go.Proofs.Ytmfpgbiicncpcaa
open Go.RowKit

set_option maxHeartbeats 6400000 in
set_option maxRecDepth 100000 in
theorem keeps_walk (A : Option Addr) (n c : Nat) (l : List Ac) (x : Int) (w : World) (h : Rd w 3 A n (flat Ac.cells l)) :
    Calls Try.prog 5 #[.int .i64 x, .slice A n c] w fun e w' => e = .returned (.bool true) ∧ Ext w w' := by
  have hr := modn_is 12 x (by omega) (by omega)
  have hN := modn_lt 12 x (by omega)
  generalize modn 12 x = M at hr hN
  obtain ⟨N, hNN⟩ : ∃ N : Nat, N = M + 1 := ⟨_, rfl⟩
  have e1 : 1 + (M : Int) = (N : Int) := by omega
  have hN1 : 1 ≤ N := by omega
  have hN12 : N ≤ 12 := by omega
  have HN := Lib.hid (new_yes N w hN1 (by omega))
  have HLL := Lib.hid (show l.length = n by have := h.1; rw [flat_length Ac.cells_length] at this; omega)
  have HH := Lib.hid h
  clear hNN h
  go_enter Try.func5, Try.ntmps5
  go_wp2_with fail
  refine HN.out.mono ?_; rintro e w1 ⟨g, c1, h1, d1, rfl, _, _, hA1, hx1, hf1, hf2⟩
  have hg1 := hA1.ltA (by omega)
  have hb1 := hA1.ltB (by omega)
  obtain ⟨b0, hb0⟩ : ∃ b0, b0 = w1.heap.size := ⟨_, rfl⟩
  have HH1 : Home (w1.alloc (.cells #[.slice (some ⟨g, 0, none⟩) N c1, .slice (some ⟨h1, 0, none⟩) N d1] 25)) b0 N N (List.replicate N (bare 0)) (down N) none none := by
    rw [hb0]
    exact ⟨g, c1, d1, some ⟨h1, 0, none⟩, Bx.new _ _ _, hA1.to ((Ext.refl _).new _), by omega, (fun q hq => by have := hb1 q hq; omega), by simp, by simp, by simp, by simp, by simp, by simp⟩
  have hwb : w.heap.size ≤ b0 := by rw [hb0]; exact hx1.size
  have X1 := Lib.hid (hx1.new (.cells #[.slice (some ⟨g, 0, none⟩) N c1, .slice (some ⟨h1, 0, none⟩) N d1] 25))
  have H1 := Lib.hid HH1
  have HB0 := Lib.hid hb0
  clear hA1 hx1 hf1 hf2 hg1 hb1 HH1 hb0
  go_wp2_with fail
  rw [← HB0.out]
  go_loopw [7, 8, 9, 10, 11, 12, 13, 14, 15, 16, 17, 18, 19, 20, 21, 22, 23, 24, 25, 38] (fun p7 p8 p9 p10 _ _ _ _ _ _ _ _ _ _ _ _ _ _ _ j wr => Ext w wr ∧ ∃ i : Nat, i ≤ n ∧ j = .int .i64 i ∧ i ≤ 40 ∧ ∃ (R S : Option Addr) (rc sc q live : Nat) (rs : List Int) (nds ns : List Nd) (fs : List Int) (last : Int), p7 = .slice R q rc ∧ p8 = .slice S q sc ∧ p9 = .int .i64 live ∧ p10 = .int .u64 last ∧ Hid (LastOk last) ∧ Hid (InKeep w.heap.size wr b0 N i q live R S rc sc rs nds ns fs)) (fun _ _ _ _ _ _ _ _ _ _ _ _ _ _ _ _ _ _ _ j _ => n - (intOf j).toNat)
  case atStart =>
    have hd : (down N).length = N := by simp [down]
    exact ⟨X1.out, 0, by omega, rfl, by omega, none, none, 0, 0, 0, 0, [], [], List.replicate N (bare 0), down N, 0, rfl, rfl, rfl, rfl, Lib.hid ⟨.inl rfl, by omega, by omega⟩, Lib.hid ⟨World.ownsRow_nil _ _ _ _, World.ownsRow_nil _ _ _ _, by simp [Value.ownBlock], by rw [hd]; exact H1.out, keep_new hN1 (by omega)⟩⟩
  case round =>
    obtain ⟨hxr, i, hi, rfl, hi40, R, S, rc, sc, q, live, rs, nds, ns, fs, last, rfl, rfl, rfl, rfl, hL, hI⟩ := hrel
    rename World => wr
    have HXr := Lib.hid hxr
    have hq40 : q ≤ 40 := by
      have h1 := hI.out.keep.many
      have h2 := hI.out.lenR
      omega
    clear hxr
    by_cases hlt : i < n
    · obtain ⟨xa, hxa⟩ : ∃ xa, l[i]? = some xa := ⟨_, List.getElem?_eq_getElem (by have := HLL.out; omega)⟩
      have hc (j : Nat) (u : Value) (hj : j < 3) (hu : xa.cells[j]? = some u) : ∃ ad, A = some ad ∧ wr.cell? (ad.add (i * 3 + j)) = some u := (HH.out.to HXr.out).2 (i * 3 + j) u (by rw [flat_get Ac.cells_length l i j xa hxa hj]; exact hu)
      obtain ⟨ad, rfl, xc0⟩ := hc 0 _ (by omega) rfl
      obtain ⟨ad1, h1, xc1'⟩ := hc 1 _ (by omega) rfl
      obtain ⟨ad2, h2, xc2'⟩ := hc 2 _ (by omega) rfl
      obtain rfl := Option.some.inj h1
      obtain rfl := Option.some.inj h2
      rw [Nat.add_zero] at xc0
      have xc1 : wr.cell? { block := (ad.add (i * 3)).block, off := (ad.add (i * 3)).off + 1 } = some (.int .i64 xa.kind) := by rw [← addr_add] at xc1'; exact xc1'
      have xc2 : wr.cell? { block := (ad.add (i * 3)).block, off := (ad.add (i * 3)).off + 2 } = some (.int .i64 xa.at_) := by rw [← addr_add] at xc2'; exact xc2'
      clear hc xc1' xc2'
      by_cases h40 : i < 40
      · obtain ⟨dr, ki, at_⟩ := xa
        dsimp only at xc0 xc1 xc2
        by_cases hgo : dr = true ∧ 0 < q
        · obtain ⟨rfl, hq0⟩ := hgo
          refine keeps_drop w wr ad n c b0 N i q live rc sc R S rs nds ns fs last ki at_ _ _ _ _ _ _ _ _ _ _ _ _ _ _ _ _ _ _ _ _ _ _ _ _ _ _ _ _ _ _ _ _ _ _ _ _ _ _ _ _ _ _ _ _ _ _ _ _ _ _ _ _ _ _ _ _ _ _ _ _ _ _ _ _ _ _ _ _ _ _ _ _ _ _ _ _ _ _ _ _ _ _ _ _ _ _ _ _ _ _ _ _ _ _ _ _ _ _ _ _ _ _ _ _ _ _ _ _ _ _ _ _ _ _ _ _ _ _ _ _ _ _ _ _ _ _ _ _ _ _ _ _ _ _ _ _ _ _ _ _ _ _ _ _ _ _ _ _ _ _ _ _ _ _ _ _ _ _ _ _ _ _ _ _ _ _ _ _ _ _ _ _ _ _ _ _ _ _ _ _ _ _ _ _ _ _ _ _ _ _ _ _ _ _ _ _ _ _ hN1 hN12 hlt h40 hq40 hwb xc0 xc1 xc2 hq0 HXr hL hI (Lib.hid ?_)
          intro v4 v7 v8 v9 v10 v11 v12 v13 v14 v15 v16 v17 v18 v19 v20 v21 v22 v23 v24 v25 v38 v39 v40 v41 v42 v43 v44 v45 v46 v47 v48 v49 v50 v51 v52 v53 v54 v55 v56 v57 v58 v59 v60 v61 v62 v63 v64 v65 v66 v67 v68 v69 v70 v71 v72 v73 v74 v75 v76 v77 v78 v79 v80 v81 v82 v83 v84 v85 v86 v87 v88 v89 v90 v91 v92 v93 v94 v95 v96 v97 v98 v99 v100 v101 v102 v103 v104 v105 v106 v107 v108 v109 v110 v111 v112 v113 v114 v115 v116 v117 v118 v119 v120 v121 v122 v123 v124 v125 v126 v127 v128 v129 v130 v131 v132 v133 v134 v135 v136 v137 v138 v139 v140 v141 v142 v143 v144 v145 v146 v147 v148 v149 v150 v151 v152 v153 v154 v155 v156 v157 v158 v159 v160 v161 v162 v163 v164 v165 v166 v167 v168 v169 v170 v171 v172 v173 v174 v175 v176 v177 v178 v179 v180 v181 v182 v183 v184 v185 v186 v187 v188 wx hR
          obtain ⟨⟨hx, R', S', rc', sc', q', live', rs', nds', ns', fs', last', h7, h8, h9, h10, hL', hI'⟩, h38⟩ := hR
          subst h7 h8 h9 h10 h38
          refine ⟨?_, by simp [intOf]; omega⟩
          repeat apply Exists.intro
          exact ⟨⟨hx, i + 1, by omega, rfl, by omega, R', S', rc', sc', q', live', rs', nds', ns', fs', last', rfl, rfl, rfl, rfl, Lib.hid hL', Lib.hid hI'⟩, rfl⟩
        · refine keeps_make w wr ad n c b0 N i q live rc sc R S rs nds ns fs last dr ki at_ _ _ _ _ _ _ _ _ _ _ _ _ _ _ _ _ _ _ _ _ _ _ _ _ _ _ _ _ _ _ _ _ _ _ _ _ _ _ _ _ _ _ _ _ _ _ _ _ _ _ _ _ _ _ _ _ _ _ _ _ _ _ _ _ _ _ _ _ _ _ _ _ _ _ _ _ _ _ _ _ _ _ _ _ _ _ _ _ _ _ _ _ _ _ _ _ _ _ _ _ _ _ _ _ _ _ _ _ _ _ _ _ _ _ _ _ _ _ _ _ _ _ _ _ _ _ _ _ _ _ _ _ _ _ _ _ _ _ _ _ _ _ _ _ _ _ _ _ _ _ _ _ _ _ _ _ _ _ _ _ _ _ _ _ _ _ _ _ _ _ _ _ _ _ _ _ _ _ _ _ _ _ _ _ _ _ _ _ _ _ _ _ _ _ _ _ _ _ hN1 hN12 hlt h40 hq40 hwb xc0 xc1 xc2 hgo HXr hL hI (Lib.hid ?_)
          intro v4 v7 v8 v9 v10 v11 v12 v13 v14 v15 v16 v17 v18 v19 v20 v21 v22 v23 v24 v25 v38 v39 v40 v41 v42 v43 v44 v45 v46 v47 v48 v49 v50 v51 v52 v53 v54 v55 v56 v57 v58 v59 v60 v61 v62 v63 v64 v65 v66 v67 v68 v69 v70 v71 v72 v73 v74 v75 v76 v77 v78 v79 v80 v81 v82 v83 v84 v85 v86 v87 v88 v89 v90 v91 v92 v93 v94 v95 v96 v97 v98 v99 v100 v101 v102 v103 v104 v105 v106 v107 v108 v109 v110 v111 v112 v113 v114 v115 v116 v117 v118 v119 v120 v121 v122 v123 v124 v125 v126 v127 v128 v129 v130 v131 v132 v133 v134 v135 v136 v137 v138 v139 v140 v141 v142 v143 v144 v145 v146 v147 v148 v149 v150 v151 v152 v153 v154 v155 v156 v157 v158 v159 v160 v161 v162 v163 v164 v165 v166 v167 v168 v169 v170 v171 v172 v173 v174 v175 v176 v177 v178 v179 v180 v181 v182 v183 v184 v185 v186 v187 v188 wx hR
          obtain ⟨⟨hx, R', S', rc', sc', q', live', rs', nds', ns', fs', last', h7, h8, h9, h10, hL', hI'⟩, h38⟩ := hR
          subst h7 h8 h9 h10 h38
          refine ⟨?_, by simp [intOf]; omega⟩
          repeat apply Exists.intro
          exact ⟨⟨hx, i + 1, by omega, rfl, by omega, R', S', rc', sc', q', live', rs', nds', ns', fs', last', rfl, rfl, rfl, rfl, Lib.hid hL', Lib.hid hI'⟩, rfl⟩
      · obtain ⟨w2, hw2⟩ : ∃ w2, w2 = wr.alloc (.cells #[.bool xa.drop, .int .i64 xa.kind, .int .i64 xa.at_] 55) := ⟨_, rfl⟩
        have hx2 := (box_made hw2).2.1
        have H2 := Lib.hid hw2
        have HE := Lib.hid (hI.out.to hx2)
        have HX := Lib.hid (HXr.out.step hx2)
        clear hw2 hx2
        go_upto_region 9 with fail
        rw [← H2.out]
        obtain ⟨g, cA, dA, B, hbx, hAr, _⟩ := HE.out.home.home
        have hlv := HE.out.keep.live
        have e7 : ((fs.length : Int) == (N : Int) - (live : Int)) = true := by simp; omega
        have hl2 : (live : Int) ≤ (N : Int) := by omega
        have HR := Lib.hid (fun W (hW : Ext w2 W) => arRight_is (some ⟨g, 0, none⟩) B N fs.length cA dA ns fs W (hAr.to hW) (by omega) (by omega) true (by simp [HE.out.keep.may]))
        have HBX := Lib.hid hbx
        clear hbx hAr hlv
        go_wp2_with fail
        refine (alive4 _).mono ?_; rintro e w7 ⟨rfl, hx7⟩
        have HX7 := Lib.hid hx7
        have k0 : w7.cell? ⟨b0, 0, none⟩ = some (.slice (some ⟨g, 0, none⟩) N cA) := (HBX.out.to hx7).cell 0
        have k1 : w7.cell? ⟨b0, 1, none⟩ = some (.slice B fs.length dA) := (HBX.out.to hx7).cell 1
        clear hx7
        go_wp2_with fail
        refine (HR.out _ HX7.out).mono ?_; rintro e w8 ⟨rfl, hx8⟩
        go_wp2_with fail
        go_ret
        exact ⟨rfl, (HX.out.step HX7.out).step hx8⟩
    · have HE := hI
      have HX := HXr
      obtain ⟨g, cA, dA, B, hbx, hAr, _⟩ := HE.out.home.home
      have hlv := HE.out.keep.live
      have e7 : ((fs.length : Int) == (N : Int) - (live : Int)) = true := by simp; omega
      have hl2 : (live : Int) ≤ (N : Int) := by omega
      have HR := Lib.hid (fun W (hW : Ext wr W) => arRight_is (some ⟨g, 0, none⟩) B N fs.length cA dA ns fs W (hAr.to hW) (by omega) (by omega) true (by simp [HE.out.keep.may]))
      have HBX := Lib.hid hbx
      clear hbx hAr hlv
      go_wp2_with fail
      refine (alive4 _).mono ?_; rintro e w7 ⟨rfl, hx7⟩
      have HX7 := Lib.hid hx7
      have k0 : w7.cell? ⟨b0, 0, none⟩ = some (.slice (some ⟨g, 0, none⟩) N cA) := (HBX.out.to hx7).cell 0
      have k1 : w7.cell? ⟨b0, 1, none⟩ = some (.slice B fs.length dA) := (HBX.out.to hx7).cell 1
      clear hx7
      go_wp2_with fail
      refine (HR.out _ HX7.out).mono ?_; rintro e w8 ⟨rfl, hx8⟩
      go_wp2_with fail
      go_ret
      exact ⟨rfl, (HX.out.step HX7.out).step hx8⟩

theorem ArenaKeeps_walk (w : World) (x : Int) (_ : (Lit.int .i64 x).wf = true) (A : Option Addr) (n c : Nat) (l : List Ac) (hr : Rd w 3 A n (flat Ac.cells l)) (_ : n ≤ c) (_ : c ≤ maxLen) (_ : ∀ y ∈ l, y.Ok) :
    Calls Try.prog 5 #[.int .i64 x, .slice A n c] w fun e w' => e = .returned (.bool true) ∧ Below w.heap.size w w' :=
  keeps_walk A n c l x w hr

end Go.Proofs.Ytmfpgbiicncpcaa
